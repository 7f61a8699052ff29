import PyProof.Rows.All
import Wide.FinOn
import KE.KFromBytes
import KE.KIntText
import KE.KItem
import KE.KListMore
import KE.KRevIter
import KE.LcSums
import KE.RegKIsAll
import KE.RegKTryMore
import PySem.Challenge.RW_lath_k81_rules_by_bounds
set_option Elab.async false
set_option linter.all false
set_option compiler.extract_closed false
set_option maxRecDepth 100000
noncomputable section
abbrev Zq9 {P:Prop} (_:P):Prop:=P
theorem Zq9.mk {P:Prop} (h:P):Zq9 h:=h
set_option hygiene false
local macro_rules|`(-by $s)=>`((by exact Zq9.mk _:Zq9 (by $s)))
local macro_rules
|`(0#a)=>`(λcdv A outer s H vs Q E hr h=>?_)
local macro_rules
|`(0#b)=>`(aX P w K mg base cO)
local macro_rules
|`(0#c)=>`(Dn P w K mg base)
local macro_rules
|`(0#d)=>`(Inv X pins σ H s)
local macro_rules
|`(0#e)=>`(∀{b:af} {xs:List V},H b=some (.tup xs)→H' b=some (.tup xs))
local macro_rules
|`(0#f)=>`(List En)
local macro_rules
|`(0#g)=>`((x==("__debug__":Str))=false)
local macro_rules
|`(0#h)=>`(Str→Option aE)
local macro_rules
|`(0#i)=>`(bf (e::es) X.env=(false,eval e X.env)::bf es X.env)
local macro_rules
|`(0#j)=>`(X.fn x=true∨X.env.scope.names.lookup x=some .local)
local macro_rules
|`(0#k)=>`(List (af×Obj))
local macro_rules
|`(0#l)=>`(∀y∈scope.names,y.2=.local→scope.names.lookup y.1=some .local)
local macro_rules
|`(0#m)=>`(List V)
local macro_rules
|`(0#n)=>`((gB pos (bf es X.env)).any (·.1)=false)
local macro_rules
|`(0#o)=>`((apos.endLine==cpos.line)=true)
local macro_rules
|`(0#p)=>`(⟨rfl,rfl,rfl,by decide +kernel,rfl,by decide +kernel,by decide +kernel⟩)
local macro_rules
|`(0#q)=>`((by try?))
local macro_rules
|`(0#r)=>`((by simp?))
local macro_rules
|`(0#s)=>`((by decide))
local macro_rules
|`(0#t)=>`((by simp))
local macro_rules
|`(0#u)=>`((by decide +kernel))
local macro_rules
|`(0#w)=>`((aa 0))
local macro_rules
|`(0#x)=>`((av "steepest" .bG (av "gentlest" (.ref ps) (av "above" (.ref D) fs))))
local macro_rules
|`(0#y)=>`((av "gentlest" .bG (av "steepest" (.ref ps) (av "below" (.ref D) fs))))
local macro_rules
|`(0#z)=>`((λ_ _=>rfl))
local macro_rules
|`(0#A)=>`((model X.prog X.w))
local macro_rules
|`(0#B)=>`((cz X (O++N') scope (fV X.env.cells scope.names []) C s0 H0 ex' jw))
local macro_rules
|`(0#C)=>`((aa 1))
local macro_rules
|`(0#D)=>`((.lst (vals es)))
local macro_rules
|`(0#E)=>`((.ListComp elt [⟨tg,iter,ifs,0⟩] scope pos))
set_option hygiene true
open PySem.W renaming Frag->bJ,findIn->jF,nsIn->iz,mg_none_of->pO,fnOf->qU,keepIn->ve,kia_one->B8,emptyDict->Gf,codeIn->u5,instObj->xB,plainGet->DB,kitOne->BU,isFn->xG,mg_of->BW,hasDictIn->Ig,plainOver->MD,makesIn->MM,plainGet_of->Sd,lookIn->MQ,callWith_K->Se,methodObj->Sg,cellsFrom_some->Wq,takerIn->Sn,OpenLaw->Sq,methodCall_KW->WB,kitx_list->WV,kitx_dict->WW,handedIn->W6,WalkO->Xs
open PySem renaming Addr->af,Value->aE,starEach->bf,Shared->aZ,mainGlobals->dZ,wpAny_bind->fO,Stmt->aO,Expr->aW,FuncData->fU,wpAny->bS,Program->fP,Str->kO,wpAny_pure->nu,attributeBase->tQ,World->dh,backTo->gB,foldedSetIterable->Ge,Heap->cA,compareOp->pQ,swapsWith->kr,wpAny_mono->oq,assignEach->ow,bootBuiltins->rW,keywordEach->qR,wpAny_passesOwn->BR,mem_of_lookup->HY,binaryOp->mH,take_succ_filter->Ms,intBits_le_iff->DH,Keyword->mJ,backToKw->qS,wpAny_Call_Name_kw->Mx,sliceBounds->BY,wpAny_truthy_bool->MC,bindName->rZ,wpAny_bindName->Ir,Around->mK,wpAny_standAt->Iw,NameKind->u9,wpAny_execs_nil->ML,call_meets->DL,wpAny_newObj_type->Si,bindArgs->BZ,standAt->xM,codeAny->xN,codeAny_mono->MR,PyData->r9,Scope->oB,callerA->B0,wpAny_holding->Sv,Within->Sy,wpAny_assign_Name->WT,seqIndex_neg->SG,slot_list_getitem->WX,wpAny_pyIter_enum->W0,wpAny_execs_cons->W5,PassesOwn->M6,noFill_tuple_add->W8,wpAny_pyIter_zip->Xb,seqIndex_of->SN,exec_Assign_arm->Xf,wpAny_Name->SW,bindL->xO,bindC->xP,typeIs_int->SX,call->S2,intBits_le_64->Xo,seq_tuple_add->Xp,evalPart_none->Xq,call_list_seq->Xr
open List renaming length_append->gA,getElem?_eq_some_iff->kM,getElem?_eq_getElem->lW,length_map->iR,mem_of_getElem?->nk,getElem?_map->lZ,map_append->gw,size_toArray->jb,mem_append->iw,length_drop->kj,mem_cons->jG,range->fN,take_add_one->qT,getElem?_append_left->B4,replicate->nj,take_length->pP,getElem?_drop->tN,mem_map->lV,getElem?_append_right->F9,mem_append_right->B5,Nodup->jR,mem_range->tP,mem_cons_of_mem->CQ,getElem?_range->CS,length_take->yw,drop_append_of_le_length->Oo,not_mem_nil->B7,length_singleton->IE,length_replicate->Du,mem_cons_self->BN,length->pL,filter_cons_of_pos->HV,range_succ->xD,length_pos_iff->Dy,flatten_append->Dz,length_cons->BO,mem_append_left->HX,map_cons->xF,replicate_succ->HZ,filter_cons_of_neg->Mr,mem_singleton->Ic,filter_append->Ie,flatten_cons->Ih,lookup_cons->Il,all_cons->DI,mem_filter->Im,append_nil->Io,getElem?_take->MB,lookup->BX,getElem?_replicate->RU,length_eq_zero_iff->RW,take_sublist->ME,take_of_length_le->RY,drop_sublist->MG,take_succ->Iv,take_append_drop->R8,getElem_mem->MJ,filter_cons->MK,mem_of_mem_drop->R9,nodup_cons->MN,filterMap_cons->Sa,pairwise_iff_getElem->Wj,getElem?_set_self->Wo,map_nil->MS,filter_eq_nil_iff->Wx,drop_of_length_le->WA,of_mem_zip->So,getElem?_eq_none->WC,length_filter_le->WD,mem_iff_getElem?->WE,getElem?_set_ne->WG,mem_of_mem_take->WH,getElem?_of_mem->WJ,any_cons->Sw,mem_filterMap->WO,reverse_cons->WY,ext_getElem?->WZ,length_range->W3,map_map->SK,all_eq_true->Xa,map_reverse->Xc,mem_flatMap->Xd,drop_length->Xe,nil_append->Xg,lookup_nil->Xj,foldl->SY,drop_drop->Xn,all_nil->XE
open Nat renaming le_refl->d8,le_trans->iy,lt_of_lt_of_le->pD,ne_of_lt->lU,zero_le->lY,le_of_lt->tR,lt_of_le_of_lt->Gd,not_lt_zero->xC,succ_le_succ->BP,lt_trans->xH,lt_irrefl->BV,pow_le_pow_right->Mv,add_sub_cancel->Mz,le_mul_of_pos_right->RV,add_comm->DK,le_add_right->MI,le_succ->Iz,le_succ_of_le->Sk,lt_trichotomy->Sl,eq_zero_of_not_pos->Wz,two_pow_pos->Ss,gcd_zero_right->WR,eq_zero_or_pos->WS,ne_of_gt->SA,gcd_dvd_right->W2,succ_pos->SJ,sub_self->SM,lt_succ_self->W7,gcd->IB,le_of_dvd->Xv,le_of_eq->Xy,mul_comm->Xz,gcd_comm->XA,lt_or_ge->XD,add_zero->XG,Coprime->XJ,add_mul->XR,one_mul->XS,mod_lt->XW
open Bool renaming false_ne_true->nv,eq_false_iff->ki,and_eq_true->Gg,eq_iff_iff->DC,not_eq_true'->W4
open PySem.Heap renaming lt_size->eO,get?_push_of_some->oA,get?_push_size->Gb,SameBut->DJ,get?_update_other->Wt,size_push->Xk
open Rat renaming mul_le_mul_of_nonneg_right->wO,intCast_lt_intCast->vd,intCast_mul->ni,not_lt->iI,le_refl->ko,intCast_sub->rR,mul_lt_mul_of_pos_right->Ld,mul_lt_mul_right->Ga,le_trans->yz,intCast_le_intCast->Ou,not_le->oz,le_of_mul_le_mul_right->Mm,le_antisymm->BS,intCast_inj->DE,mul_nonneg->DG,intCast_add->Ip,intCast_pos->Iq,intCast_neg->MO,le_of_lt->MW,mul_pos->MZ,lt_irrefl->Sx,mul_eq_zero->Xi,div_lt_iff->Xl,lt_div_iff->Xm,mul_comm->XF
open PySem.PassesOwn renaming never->jd
open Int renaming gcd->bT,fdiv_eq_ediv_of_nonneg->B3,mul_le_mul_of_nonneg_right->IC,emod_lt_of_pos->B6,gcd_pos_of_ne_zero_right->Oq,le_trans->tS,mul_nonneg->yy,neg_nonneg_of_nonpos->Ot,emod_nonneg->CT,mul_comm->qQ,natAbs_of_nonneg->Dw,le_of_lt->rX,natAbs_neg->xE,dvd_mul_of_dvd_right->Mp,mul_pos->u6,natCast_nonneg->Ia,lt_of_lt_of_le->Ib,natAbs_dvd_natAbs->Mt,mul_ediv_add_emod->Mu,natAbs_add_le->Ii,gcd_dvd_right->Ij,natAbs_mul->DF,gcd_dvd_left->Ik,not_lt->xK,mul_nonpos_of_nonneg_of_nonpos->Wg,mul_le_mul->Iu,sub_pos_of_lt->MF,ediv_le_self->MH,natAbs_natCast->Sf,eq_of_mul_eq_mul_right->Wi,lt_of_mul_lt_mul_left->Wk,toNat_natCast->Sj,mul_fdiv_cancel_left->Wm,ediv_le_ediv->Sm,le_ediv_iff_mul_le->Wv,ofNat_le->MT,lt_or_le->MU,fdiv_nonneg->Su,one_mul->MX,neg_mul->MY,sub_nonneg_of_le->WI,ediv_mul_cancel->WK,toNat_of_nonneg->WL,lt_of_le_of_lt->WQ,gcd_comm->SH,ne_of_gt->SI,toNat->M7,neg_neg->SQ,mul_neg->SR,pow_pos->SS,two_mul->SV,ediv_nonneg->Xh,le_natAbs->Xw,neg_gcd->XI,le_refl->XM,dvd_gcd->XN,dvd_add->XO,pow_add->XQ,natAbs->XX
open PySem.Builtin.Int renaming intBits->rQ
open PyProof.Rows renaming boot_abs->yu,boot_isinstance->Lc,callWith_type1->S4,boot_int->Dv,boot_list->HW,assignInOrder_cons->DA,boot_tuple->RX,boot_max->RZ,boot_min->R5,AllBare->vc,assignInOrder_nil->Sh,envOfC->r8,subscriptTail_builtinR->Ws,boot_bool->Ww,unpackItems_tuple->WU,callWith_builtin1->acm
open Option.some renaming inj->tO,injEq->ac6
open Option renaming map_eq_some_iff->ID,isSome_iff_exists->RS,map_some->MP,getD_none->W9
open Ne renaming symm->jS
open Classical renaming byContradiction->S5
open False renaming elim->ou
open PySem.Builtin.List renaming listTooLong->Mn
open PySem.F renaming plainAttrs_list->Mq,args_tuple_add_2->Wl,entry_tuple_add->Wn,slot_tuple_add->Wr
open PySem.Str renaming ofString->xJ,empty->S3
open PySem.PyData renaming eqv->u7
open Array renaming length_toList->Sb,toList->Xx
open PySem.Calls renaming Name_function_global->Wh,callWith_builtin->Wu
open PySem.Obj renaming mapSeq->IA
open PySem.SeqAt renaming shaped->MV,EqAt->XT
open PySem.SeqAt.EqAt renaming int_str->WM,str_int->WN,none_bool->acM,bool_none->acN,bool_bool->acO,none_int->acR,none_str->acS,bool_int->acT,bool_str->acU,int_none->acV,int_bool->acW,str_none->acX,str_bool->acY,int_int->ac2,str_str->ac3,same->ac7
open PySem.Around renaming under->SD
open PySem.Code renaming isFrame->SE,frames->XH
open PyProof.Rows.IsTup renaming new->M0
open PySem.EqNone renaming eq_none_none->acn,eq_none_bool->aco,eq_bool_none->acp,ne_none_none->acs,ne_none_bool->acu,ne_bool_none->acv,eq_none_int->acz,eq_none_str->acA,eq_int_none->acB,eq_str_none->acD,ne_none_int->acF,ne_none_str->acG,ne_int_none->acH,ne_str_none->acJ
open PySem.EqMixed renaming eq_bool_str->acq,eq_str_bool->acr,ne_bool_str->acw,ne_str_bool->acy,eq_int_str->acC,eq_str_int->acE,ne_int_str->acI,ne_str_int->acK
open Int.ofNat renaming inj->Xu
open PySem.Builtin.Range renaming rangeSize->acL
open Nat.succ renaming inj->XC
open PySem.MeetsSeq.EqGives renaming int->acP
open List.Pairwise renaming filter->acQ
open List.Sublist renaming append->acZ,refl->ac5
open PySem.W.Looks renaming here->ac0
open PySem.Heap.IsSliceOf renaming new->ac1
open PySem.W.WShape renaming has->XU
open PySem.Within renaming cons->ac4
abbrev dF:=@of_decide_eq_true
abbrev dY:=@decide_eq_true
abbrev g9:=@decide_eq_false
abbrev kh:=@of_decide_eq_false
abbrev BQ:=@decide_eq_decide
abbrev rY:=@beq_iff_eq
abbrev Mw:=@beq_eq_false_iff_ne
abbrev MA:=@decide_eq_true_iff
abbrev r6:=@or_false
local macro_rules | `(tactic| simp?) => `(tactic| first | lia | omega)
local macro_rules | `(tactic| apply $e) => `(tactic| (refine $e; rw?))
set_option bootstrap.genMatcherCode false
abbrev cg:kO:="_law_script"
abbrev fL:kO:="_law_place"
abbrev dR:kO:="_law_cell_here"
abbrev gC:kO:="_law_one"
abbrev dc:kO:="_law_other"
abbrev aG:kO:="one"
abbrev az:kO:="other"
abbrev cI:kO:="found"
abbrev dz:kO:="steep"
abbrev aV:kO:="sample"
abbrev bX:kO:="line"
abbrev cy:kO:="last"
abbrev bE:kO:="row"
abbrev aQ:kO:="samples"
abbrev cj:kO:="first"
abbrev fh:kO:="quotients"
abbrev aL:kO:="bound"
abbrev gD:kO:="gentlest"
abbrev gE:kO:="steepest"
abbrev bN:kO:="self"
abbrev fj:kO:="stretch"
abbrev eu:kO:="rule"
abbrev cR:kO:="_law_row_here"
abbrev bQ:kO:="_law_rule"
namespace PySem.W.Fast
def tw262606123101449826:=Nat
def tw16195285425206436072:=Nat
def tw10336059099685399552:=Nat
def tw5185302749101253664:=Nat
def tw11337295919107683392:=Nat
def tw18358643537016389792:=Nat
def tw1659588641096746176:=Nat
def tw13344088275296471296:=Nat
def tw1896576499806194944:=Nat
def tw15732597846856307040:=Nat
def tw12254317761078172000:=Nat
def tw15613015911656336800:=Nat
def tw234958809567775168:=Nat
def tw10694392347289199072:=Nat
def tw12766907369094483456:=Nat
def tw2399328300898591264:=Nat
def tw5947924139046007328:=Nat
def tw17615803219769515776:=Nat
def tw13092479155903377216:=Nat
def tw8618995844963650464:=Nat
def tw18257571994937258912:=Nat
def tw9546014262424243168:=Nat
def tw5023649972936757249:=Nat
def tw10988247803562145825:=Nat
def tw12059273200175877185:=Nat
def tw2874084769926105185:=Nat
def tw6184418931347299521:=Nat
def tw15456913911606708449:=Nat
def tw4624169255620220129:=Nat
def tw2498106222362114497:=Nat
def tw4299875959870347745:=Nat
def tw12637766695420736993:=Nat
def tw2870900214568617505:=Nat
def tw7020164474716199649:=Nat
def tw5592583085415996161:=Nat
def tw14383512417615314721:=Nat
def tw3603470301979167521:=Nat
def tw5637250416627328833:=Nat
def tw10631553885639932930:=Nat
def tw9338510967873925218:=Nat
def tw5882085500040830082:=Nat
def tw9837675084819735746:=Nat
def tw4398012963890107618:=Nat
def tw4389779627344661794:=Nat
def tw15042980058869741858:=Nat
def tw465521248539696482:=Nat
def tw9524164879364416866:=Nat
def tw765422829896233314:=Nat
def tw11463384943871438210:=Nat
def tw1819366191028024706:=Nat
def tw11482060969638970754:=Nat
def tw15952872151503825282:=Nat
def tw8035845146413593058:=Nat
def tw15759925318702597698:=Nat
def tw15602560928806751810:=Nat
def tw13651731766494974562:=Nat
def tw1047630592313432738:=Nat
def tw388257061149048514:=Nat
def tw17255445940432520962:=Nat
def tw11381431258253685506:=Nat
def tw9501804831346603906:=Nat
def tw3896119563320370082:=Nat
def tw9231797941452767202:=Nat
def tw6841549945440248867:=Nat
def tw3199438385443130467:=Nat
def tw649965847705823363:=Nat
def tw16202419131679085795:=Nat
def tw5710118509636321635:=Nat
def tw9650891119205511779:=Nat
def tw4205922214555457123:=Nat
def tw5036731034179023459:=Nat
def tw17221508409314435779:=Nat
def tw13924278500311875267:=Nat
def tw4704815196569786115:=Nat
def tw4247265738288671651:=Nat
def tw12325300477749660643:=Nat
def tw8918210303803528196:=Nat
def tw16897882400877186052:=Nat
def tw493571885674903652:=Nat
def tw8631842718267808964:=Nat
def tw12876403492059373764:=Nat
def tw5088085006870127844:=Nat
def tw12034262462589884644:=Nat
def tw12317622553971314020:=Nat
def tw709730300405208452:=Nat
def tw14672084809947473444:=Nat
def tw14116213392760815460:=Nat
def tw6116258733334101988:=Nat
def tw6700346064200790021:=Nat
def tw14792558582188844037:=Nat
def tw725676226279476261:=Nat
def tw10780106693373468741:=Nat
def tw15156425685243257061:=Nat
def tw8236640166335877381:=Nat
def tw13321154805122091333:=Nat
def tw18168904936680651077:=Nat
def tw6723605446975801797:=Nat
def tw2157778212979212805:=Nat
def tw6739467592817150597:=Nat
def tw15387023733154707301:=Nat
def tw3830221939584370565:=Nat
def tw3488302120726390693:=Nat
def tw1987691314251368421:=Nat
def tw1703694187330163685:=Nat
def tw2238353919691043846:=Nat
def tw7320563915522965542:=Nat
def tw15362870734972202022:=Nat
def tw275982651586677830:=Nat
def tw10448100244721046598:=Nat
def tw1938391341357830310:=Nat
def tw3090752890166383814:=Nat
def tw10007044372254906630:=Nat
def tw7794529737004958214:=Nat
def tw9011948231290772038:=Nat
def tw13656733896653279910:=Nat
def tw1327554018907166374:=Nat
def tw5839204502928700134:=Nat
def tw14643013551076600582:=Nat
def tw14455486459212036870:=Nat
def tw1559176221391468358:=Nat
def tw6069005554957386598:=Nat
def tw2374846956680645478:=Nat
def tw1384971169705123750:=Nat
def tw8733930418856784838:=Nat
def tw16445076017197114375:=Nat
def tw13758079890905880711:=Nat
def tw5866999583322365095:=Nat
def tw11886210937443381447:=Nat
def tw10491155804090080583:=Nat
def tw3471256817151294791:=Nat
def tw8603441401806225799:=Nat
def tw10943044570156642695:=Nat
def tw7276124033722276263:=Nat
def tw11781226546775023047:=Nat
def tw11460709506449828359:=Nat
def tw17333848790710223399:=Nat
def tw15035871663982144071:=Nat
def tw12929091501263594055:=Nat
def tw6392071864072157799:=Nat
def tw8113503731105543815:=Nat
def tw5443449337158955687:=Nat
def tw13275814453185820423:=Nat
def tw14592331879543373671:=Nat
def tw7110548796654513095:=Nat
def tw8593792283575061512:=Nat
def tw13304550591149548552:=Nat
def tw14393366716764141704:=Nat
def tw17555311851532724392:=Nat
def tw14829734143228379368:=Nat
def tw15038862561024354632:=Nat
def tw12848082439424451944:=Nat
def tw2440466264278199752:=Nat
def tw2479744626043032072:=Nat
def tw15834785486336371272:=Nat
def tw15703241453454308968:=Nat
def tw13792314029838905992:=Nat
def tw2927884007191997064:=Nat
def tw4091652052831754952:=Nat
def tw17160972192024835784:=Nat
def tw10232213069861534600:=Nat
def tw2643383930293156840:=Nat
def tw5219537495242538984:=Nat
def tw12238343790101050409:=Nat
def tw17338844986250591337:=Nat
def tw8830030286939246793:=Nat
def tw11785075663006642409:=Nat
def tw3545803738947105033:=Nat
def tw16519222740684228905:=Nat
def tw9933533661350926697:=Nat
def tw13058835637799995753:=Nat
def tw14795783103961072009:=Nat
def tw17909446877858597257:=Nat
def tw4898246257185287657:=Nat
def tw4560044361485847113:=Nat
def tw1585829755818269257:=Nat
def tw17213624844690316873:=Nat
def tw53736135943281257:=Nat
def tw14508949786135127657:=Nat
def tw4671251788936613545:=Nat
def tw7239406955085204169:=Nat
def tw17642621905245531849:=Nat
def tw10049366780719698889:=Nat
def tw13366571782607724521:=Nat
def tw10748576993318201354:=Nat
def tw12834777760262154282:=Nat
def tw468445770344568938:=Nat
def tw18399021438913617034:=Nat
def tw9860620538954765450:=Nat
def tw4321376130599049514:=Nat
def tw6953177413203931466:=Nat
def tw12438842328197216618:=Nat
def tw13803597276498497930:=Nat
def tw7760199008437164458:=Nat
def tw1973697933929393578:=Nat
def tw5542048742774276778:=Nat
def tw9042788641411146442:=Nat
def tw2446312315749343018:=Nat
def tw3162130740725892970:=Nat
def tw9696909523277293482:=Nat
def tw6672613918962960330:=Nat
def tw9787739997810079755:=Nat
def tw9765321191658713163:=Nat
def tw7647379048665469067:=Nat
def tw14108533029359191211:=Nat
def tw2652868525735577771:=Nat
def tw14420126000871449771:=Nat
def tw9075985367339152555:=Nat
def tw11796136051052492075:=Nat
def tw7615117743488661835:=Nat
def tw11285821864157215083:=Nat
def tw2797862836139237771:=Nat
def tw12423240095478710699:=Nat
def tw2618013458951222731:=Nat
def tw13129229199210934731:=Nat
def tw14640715097431441899:=Nat
def tw11319414079436112395:=Nat
def tw4697769826361460299:=Nat
def tw1877127993439805003:=Nat
def tw17329903991704725099:=Nat
def tw4874061303986535019:=Nat
def tw10130002324746404491:=Nat
def tw13331760350465775243:=Nat
def tw8473054116981255947:=Nat
def tw15007485752939546411:=Nat
def tw13674079611235165995:=Nat
def tw8434567089351179115:=Nat
def tw2801528386816405451:=Nat
def tw15203779099251851243:=Nat
def tw14472406017464679436:=Nat
def tw12236947201085668364:=Nat
def tw9075811986778485068:=Nat
def tw9932260285094613356:=Nat
def tw14784720940060732876:=Nat
def tw715743112892299756:=Nat
def tw6585882992578768428:=Nat
def tw16249618840453604940:=Nat
def tw12775402107306780236:=Nat
def tw3862011334581945964:=Nat
def tw4477339206442409612:=Nat
def tw15814005008585871020:=Nat
def tw6121078850633741036:=Nat
def tw12538374609934427980:=Nat
def tw5952510074228332364:=Nat
def tw3112608110425130892:=Nat
def tw1168875692267773836:=Nat
def tw4571113104802612140:=Nat
def tw17384799125742358476:=Nat
def tw12408849071017238541:=Nat
def tw5437586046105821421:=Nat
def tw1183345048436952301:=Nat
def tw8195577522586862029:=Nat
def tw13143800837978011181:=Nat
def tw14106802087138966093:=Nat
def tw8225650592288566893:=Nat
def tw2579589034732632717:=Nat
def tw12554699261090044653:=Nat
def tw16781788162041298701:=Nat
def tw3345331319509829421:=Nat
def tw9400283152632523597:=Nat
def tw3698414491085521837:=Nat
def tw7587526985949423565:=Nat
def tw8432151075065834606:=Nat
def tw11198810763252150382:=Nat
def tw16775540557635675278:=Nat
def tw11634432065875530926:=Nat
def tw5368403323557966030:=Nat
def tw2781320242350531854:=Nat
def tw15030209494730382638:=Nat
def tw6176093005956255054:=Nat
def tw13079537908126171502:=Nat
def tw12248470592753161582:=Nat
def tw11551548807565886990:=Nat
def tw18142981981236842030:=Nat
def tw2670073129341858382:=Nat
def tw4586599855385749102:=Nat
def tw15504929660698389102:=Nat
def tw13003987674747149966:=Nat
def tw13891958302064308942:=Nat
def tw17936553593365338894:=Nat
def tw4963416540224079758:=Nat
def tw15223557760445050798:=Nat
def tw15802876256796261326:=Nat
def tw17719729988733994990:=Nat
def tw5851503328318536783:=Nat
def tw1435007422647767279:=Nat
def tw162865803582171439:=Nat
def tw965371347642597743:=Nat
def tw8739776507860666767:=Nat
def tw15308267012215505327:=Nat
def tw16891351372203843055:=Nat
def tw1141123641097110063:=Nat
def tw12126235321385204367:=Nat
def tw9142447897507031727:=Nat
def tw9694084726837074671:=Nat
def tw5478518647632097007:=Nat
def tw16481799711599376143:=Nat
def tw3665058090157423407:=Nat
def tw12038272273449974607:=Nat
def tw11379750157211881359:=Nat
def tw1188038602554326959:=Nat
def tw698938926985372655:=Nat
def tw15178459488316591184:=Nat
def tw14570485202059533392:=Nat
def tw4294564664822373616:=Nat
def tw6625331444531394832:=Nat
def tw2296294708333966672:=Nat
def tw1928813617149377872:=Nat
def tw9117549935505312112:=Nat
def tw18270936328068028784:=Nat
def tw220106308625112464:=Nat
def tw2428048725417338256:=Nat
def tw17827314782939882928:=Nat
def tw14434012277931523696:=Nat
def tw10313412698274271920:=Nat
def tw11478003444607165168:=Nat
def tw9027544770568820592:=Nat
def tw8175248045906259920:=Nat
def tw9790713506480609393:=Nat
def tw4375752368190495889:=Nat
def tw2439481409030217905:=Nat
def tw11911078102684112081:=Nat
def tw6147257084291083473:=Nat
def tw9564124888443952369:=Nat
def tw3275302112924418289:=Nat
def tw17632366484793235729:=Nat
def tw10132660802818504977:=Nat
def tw14629504775784659409:=Nat
def tw16251264594902213137:=Nat
def tw5756426484494657041:=Nat
def tw10265388387645344337:=Nat
def tw4180298104441178769:=Nat
def tw8599728608552367761:=Nat
def tw2822927629546962577:=Nat
def tw11511815511497100945:=Nat
def tw16422719435443023537:=Nat
def tw6913500229778418385:=Nat
def tw5942831084007903953:=Nat
def tw6739439631392738097:=Nat
def tw1573019073872441137:=Nat
def tw11458671801234119537:=Nat
def tw11171508052066949041:=Nat
def tw6219209896846766065:=Nat
def tw9420195465924566194:=Nat
def tw15013707807679606962:=Nat
def tw6310629731539283442:=Nat
def tw10946709826303312370:=Nat
def tw11105952436224868882:=Nat
def tw10225979596505237138:=Nat
def tw215921198425394930:=Nat
def tw2903991259279049650:=Nat
def tw6100147078124790770:=Nat
def tw14083123089750742131:=Nat
def tw1769976732769916339:=Nat
def tw2806456662769075667:=Nat
def tw9881644145462812147:=Nat
def tw14094779302856538611:=Nat
def tw17775435365672140307:=Nat
def tw17556108572719217171:=Nat
def tw17022079373217320499:=Nat
def tw2858778344445326035:=Nat
def tw10501423350833837811:=Nat
def tw7931489724136580883:=Nat
def tw80673605921632019:=Nat
def tw12235856107987154771:=Nat
def tw6290528981258205107:=Nat
def tw8406089345411811283:=Nat
def tw9557002266730727411:=Nat
def tw7862571415363943444:=Nat
def tw18086178240722176052:=Nat
def tw16237294541706791988:=Nat
def tw5570146880531423316:=Nat
def tw11508830983381749940:=Nat
def tw2773218698212699380:=Nat
def tw2788822808746913076:=Nat
def tw5253200281694645556:=Nat
def tw16140994294643073396:=Nat
def tw9511369173321246100:=Nat
def tw14351300572728616404:=Nat
def tw2441954785617639956:=Nat
def tw14942645801240690420:=Nat
def tw12437702133044893460:=Nat
def tw9230349114917774100:=Nat
def tw7208814065111874356:=Nat
def tw8885897249250248500:=Nat
def tw4210898992431565652:=Nat
def tw1404439639645062996:=Nat
def tw15173738689082983316:=Nat
def tw9834928230245343124:=Nat
def tw6312327753245166516:=Nat
def tw15995556751959879604:=Nat
def tw17759765664482498581:=Nat
def tw2331888442791180405:=Nat
def tw17818799578800654485:=Nat
def tw10164258616325350613:=Nat
def tw251221865834819797:=Nat
def tw16873000698062382357:=Nat
def tw809161387810795925:=Nat
def tw6694063962673639925:=Nat
def tw242302845737564757:=Nat
def tw10835567706749425301:=Nat
def tw16563435472256721589:=Nat
def tw14846917009390878485:=Nat
def tw12701068797179396917:=Nat
def tw3636520361444795253:=Nat
def tw13164155492356337589:=Nat
def tw15036630355495269301:=Nat
def tw6187336654104632309:=Nat
def tw9465394809117753366:=Nat
def tw14203215732580227126:=Nat
def tw10999454429774732342:=Nat
def tw16153659369080706198:=Nat
def tw12728427285181435094:=Nat
def tw12883880497040647446:=Nat
def tw13111685228311550486:=Nat
def tw9236849235201007158:=Nat
def tw5629828024378077750:=Nat
def tw16366193603573372470:=Nat
def tw2495649492949461590:=Nat
def tw14875060229299276406:=Nat
def tw11835403121996684918:=Nat
def tw6544691486277893782:=Nat
def tw13783883774962891414:=Nat
def tw4829687352845651638:=Nat
def tw14475811892283700982:=Nat
def tw9203124083336742678:=Nat
def tw10367755420322437910:=Nat
def tw12265559543386106678:=Nat
def tw14111259207402566486:=Nat
def tw2623481794283410326:=Nat
def tw4856323383642701718:=Nat
def tw2993081781933525910:=Nat
def tw17060663280587106262:=Nat
def tw1393215845775303735:=Nat
def tw15676094385992442999:=Nat
def tw2937066112248853655:=Nat
def tw14870144301790649559:=Nat
def tw18422165593411110135:=Nat
def tw4573965129639545079:=Nat
def tw1007510267199416567:=Nat
def tw1783735523749735735:=Nat
def tw11360332529292265815:=Nat
def tw2117296136393486679:=Nat
def tw15903201718184233367:=Nat
def tw13494828650384143863:=Nat
def tw3924993338779858423:=Nat
def tw678836609095450199:=Nat
def tw12674700571560046295:=Nat
def tw657716008070583031:=Nat
def tw10326282582357383927:=Nat
def tw15307545229172271895:=Nat
def tw11882493502683777943:=Nat
def tw16510162254194916279:=Nat
def tw1694352230682629111:=Nat
def tw4906236546128978935:=Nat
def tw7216015589968535576:=Nat
def tw1646293136351162488:=Nat
def tw14489371828037720216:=Nat
def tw15793750356929035416:=Nat
def tw10102770550887365816:=Nat
def tw12168853967741753560:=Nat
def tw4869045371056970968:=Nat
def tw13332405755365459288:=Nat
def tw1262542401772813720:=Nat
def tw11133866262571177432:=Nat
def tw14354080687993615832:=Nat
def tw8804548703671353848:=Nat
def tw7754625378636474968:=Nat
def tw11081345532566130296:=Nat
def tw5015538935896730232:=Nat
def tw11482966078519698072:=Nat
def tw5437682017438988056:=Nat
def tw13533798584108590968:=Nat
def tw14197655713980141432:=Nat
def tw5016033312420662200:=Nat
def tw805880499087900600:=Nat
def tw10013363941442221048:=Nat
def tw3928811612320919609:=Nat
def tw12712034427373442169:=Nat
def tw484675893558799481:=Nat
def tw6074243919184687353:=Nat
def tw2647079244933564697:=Nat
def tw13546345026344532249:=Nat
def tw15650450433086895449:=Nat
def tw4445906540304953689:=Nat
def tw9021935798030369177:=Nat
def tw4944126097808464313:=Nat
def tw12574848657149242873:=Nat
def tw6827244744709545497:=Nat
def tw16496743744474201657:=Nat
def tw3062115684701181561:=Nat
def tw15807660809969175161:=Nat
def tw5564351174925914745:=Nat
def tw3440527641755547289:=Nat
def tw3539002325741145945:=Nat
def tw18174998158532650841:=Nat
def tw12945836862389802841:=Nat
def tw15981592876803329945:=Nat
def tw6032952888953019289:=Nat
def tw4813485470625313689:=Nat
def tw4577538389928628121:=Nat
def tw17834386053585660825:=Nat
def tw13676316991695456282:=Nat
def tw157339377100553562:=Nat
def tw644410792402861562:=Nat
def tw14049028468974739226:=Nat
def tw11888099414897324890:=Nat
def tw8668506933005719418:=Nat
def tw13964688263648855962:=Nat
def tw1439220463833964474:=Nat
def tw10992202026632947771:=Nat
def tw14969698428804283515:=Nat
def tw16515047324342040763:=Nat
def tw15468823938528789691:=Nat
def tw17132954833613898971:=Nat
def tw1262082016159775995:=Nat
def tw15108818779781113115:=Nat
def tw4337660292460152219:=Nat
def tw5077359119493922331:=Nat
def tw6014703661575591483:=Nat
def tw16518752975973608027:=Nat
def tw18192179176137151163:=Nat
def tw9082445628920720091:=Nat
def tw2070326509359789883:=Nat
def tw498125943214056283:=Nat
def tw7654008821754482523:=Nat
def tw12549886993891334043:=Nat
def tw16325370493962946491:=Nat
def tw3250601486767594459:=Nat
def tw17574668160230818844:=Nat
def tw2023327012943488092:=Nat
def tw13449762522238742844:=Nat
def tw8383960473245445468:=Nat
def tw15061912949850416636:=Nat
def tw2824621850538176060:=Nat
def tw14051476766787082972:=Nat
def tw17009796400847003388:=Nat
def tw4794120940022615804:=Nat
def tw12769578078539184892:=Nat
def tw3850514823815085916:=Nat
def tw2143119549129837564:=Nat
def tw15154617974169501821:=Nat
def tw11420837474428051613:=Nat
def tw12795011737844157757:=Nat
def tw4774276213814149501:=Nat
def tw14982175805324664221:=Nat
def tw12028148780182732349:=Nat
def tw14831724952022493821:=Nat
def tw8007125741601275517:=Nat
def tw18249971310169331357:=Nat
def tw9146723454692469437:=Nat
def tw14890463348683366109:=Nat
def tw4942531195969808125:=Nat
def tw12068687053025089437:=Nat
def tw15720267424988236701:=Nat
def tw5791197700093259709:=Nat
def tw8210301188220062685:=Nat
def tw11988126684449056926:=Nat
def tw5762556377824484638:=Nat
def tw4939269062338693438:=Nat
def tw10736356735747054910:=Nat
def tw6011877467441612158:=Nat
def tw6392583669156123038:=Nat
def tw4530464438167710110:=Nat
def tw122492788795337246:=Nat
def tw1285585448479418910:=Nat
def tw17294817653915810398:=Nat
def tw14387502134323504830:=Nat
def tw13705265324603157246:=Nat
def tw9179950106995351358:=Nat
def tw9322458135835488126:=Nat
def tw11402155125083065246:=Nat
def tw225381793667075038:=Nat
def tw8194687959023209438:=Nat
def tw16469680209765665055:=Nat
def tw15812899351016214815:=Nat
def tw5630653866393705759:=Nat
def tw764838472439877951:=Nat
def tw16418095458539081151:=Nat
def tw1431218048743182783:=Nat
def tw15586451382579900863:=Nat
def tw2149429867634705919:=Nat
def tw15975008908867839583:=Nat
def tw2845696576065911391:=Nat
def tw4639631046117172863:=Nat
def tw1908999755261830847:=Nat
def tw12236664015740762975:=Nat
def tw4097475396838614911:=Nat
def tw14737676294042045343:=Nat
def tw17844354226574700479:=Nat
def tw6709614621586571263:=Nat
end PySem.W.Fast
namespace L2
open PySem PySem.Spec PyProof.Rows
abbrev Key:=Sum Int Str
noncomputable def VS:Key->aE->Bool
 | .inl k,v=>Value.isInt k v
 | .inr x,v=>Value.isStrOf x v
noncomputable def adI (w:dh):Key->Int
 | .inl k=>hashInt k
 | .inr x=>hashStr w x
def dJ:∀{k:Key} {v:aE},VS k v=true->(∃i t,k=Sum.inl i/\v=Value.int i t)\/(∃x t,k=Sum.inr x/\v=Value.str x t)
 | .inl i,v,h=>by
   obtain ⟨t,e⟩:=Value.isInt_shape (k:=i) (v:=v) h
   exact .inl ⟨i,t,rfl,e⟩
 | .inr x,v,h=>by
   obtain ⟨t,e⟩:=Value.isStrOf_shape (x:=x) (v:=v) h
   exact .inr ⟨x,t,rfl,e⟩
def Zj (a b:Int):decide ((Sum.inl a:Key)=Sum.inl b)=(a==b):=-by
 by_cases e:a=b
 ·subst e;simp
 ·have h:¬(Sum.inl a:Key)=Sum.inl b:=λq=>e (Sum.inl.inj q)
  rw [g9 h]
  exact (Mw.mpr e).symm
def Zm (a b:Str):decide ((Sum.inr a:Key)=Sum.inr b)=decide (a=b):=-by
 by_cases e:a=b
 ·subst e;simp
 ·have h:¬(Sum.inr a:Key)=Sum.inr b:=λq=>e (Sum.inr.inj q)
  rw [g9 h,g9 e]
def Zk (a:Int) (b:Str):decide ((Sum.inl a:Key)=Sum.inr b)=false:=g9 (λq=>nomatch q)
def Zl (a:Str) (b:Int):decide ((Sum.inr a:Key)=Sum.inl b)=false:=g9 (λq=>nomatch q)
noncomputable def LX (prog:fP) (w:dh):PySem.KeyKind prog w Key where
 is:=VS
 hash:=adI w
 inj:=λv a b ha hb=>by
  rcases dJ ha with ⟨i,t,rfl,rfl⟩ | ⟨x,t,rfl,rfl⟩
  ·rcases dJ hb with ⟨j,u,rfl,e⟩ | ⟨y,u,rfl,e⟩
   ·injection e with e1 _;rw [e1]
   ·exact nomatch e
  ·rcases dJ hb with ⟨j,u,rfl,e⟩ | ⟨y,u,rfl,e⟩
   ·exact nomatch e
   ·injection e with e1 _;rw [e1]
 byValue:=λk v h=>by
  rcases dJ h with ⟨i,t,rfl,rfl⟩ | ⟨x,t,rfl,rfl⟩ <;> rfl
 pyHash:=λhv h=>by
  rcases dJ hv with ⟨i,t,rfl,rfl⟩ | ⟨x,t,rfl,rfl⟩
  ·exact wpAny_pyHash_int h
  ·exact wpAny_pyHash_str h
 eqBool:=λhu hv h=>by
  rcases dJ hu with ⟨i,t,rfl,rfl⟩ | ⟨x,t,rfl,rfl⟩
  ·rcases dJ hv with ⟨j,u,rfl,rfl⟩ | ⟨y,u,rfl,rfl⟩
   ·rw [Zj] at h;exact wpAny_eqBool_int h
   ·rw [Zk] at h;exact WM i t y u _ _ _ _ h
  ·rcases dJ hv with ⟨j,u,rfl,rfl⟩ | ⟨y,u,rfl,rfl⟩
   ·rw [Zl] at h;exact WN x t j u _ _ _ _ h
   ·rw [Zm] at h;exact wpAny_eqBool_str h
 «strs»:=λk x t v h=>by
  rcases dJ h with ⟨i,u,rfl,e⟩ | ⟨y,u,rfl,e⟩
  ·exact nomatch e
  ·injection e with e1 _
   subst e1
   cases v <;> rfl
inductive V where
 | bG | bl (b:Bool) | int (i:Int) | str (x:Str) | Ov (b:Array UInt8) | YM (b:UInt64) | ref (a:af) | ty (n:String)
 deriving DecidableEq
def RelV:V->aE->Prop
 | .bG,u=>u=Value.none
 | .bl b,u=>u=Value.bool b
 | .int i,u=>∃t,u=Value.int i t
 | .str x,u=>∃t,u=Value.str x t
 | .Ov b,u=>∃t,u=Value.bytes b t
 | .YM b,u=>∃t,u=Value.float b t
 | .ref a,u=>u=Value.ref a
 | .ty n,u=>u=Value.type n
abbrev Vals:0#m->List aE->Prop:=Paired RelV
def Vals.length (r:Vals xs us):xs.length=us.length:=Paired.length r
def Vals.get:∀{xs:0#m} {us:List aE} {i:Nat} {x:V},Vals xs us->xs[i]?=some x->∃u,us[i]?=some u/\RelV x u
 | _,_,_,_,.nil,e=>by simp at e
 | _,_,0,_,.cons r _,e=>by simp at e;subst e;exact ⟨_,rfl,r⟩
 | _,_,i+1,x,.cons _ t,e=>by
   obtain ⟨u,h1,h2⟩:=Vals.get (i:=i) (x:=x) t (by simpa using e)
   exact ⟨u,by simpa using h1,h2⟩
def Vals.set (r:RelV x u):∀{xs:0#m} {us:List aE} (i:Nat),Vals xs us->Vals (xs.set i x) (us.set i u)
 | _,_,_,.nil=>.nil
 | _,_,0,.cons _ t=>.cons r t
 | _,_,i+1,.cons q t=>.cons q (Vals.set r i t)
def Vals.append:∀{xs ys:0#m} {us ws:List aE},Vals xs us->Vals ys ws->Vals (xs++ys) (us++ws)
 | _,_,_,_,.nil,s=>s
 | _,_,_,_,.cons r t,s=>.cons r (Vals.append t s)
def Vals.take:∀{xs:0#m} {us:List aE} (n:Nat),Vals xs us->Vals (xs.take n) (us.take n)
 | _,_,0,_=>.nil
 | _,_,_+1,.nil=>.nil
 | _,_,n+1,.cons r t=>.cons r (Vals.take n t)
def Vals.drop:∀{xs:0#m} {us:List aE} (n:Nat),Vals xs us->Vals (xs.drop n) (us.drop n)
 | _,_,0,r=>r
 | _,_,_+1,.nil=>.nil
 | _,_,n+1,.cons _ t=>Vals.drop n t
def Cd:Option V->Option aE->Prop
 | some v,some u=>RelV v u
 | none,none=>True
 | _,_=>False
def KV {κ:Type}:List (κ×V)->List (κ×aE)->Prop:=Paired λ(p:κ×V) (q:κ×aE)=>p.1=q.1/\RelV p.2 q.2
noncomputable def kV:Key->V
 | .inl i=>.int i
 | .inr x=>.str x
inductive HO where
 /-- a list -/
 | lst (xs:0#m)
 /-- a tuple (never changes) -/
 | tup (xs:0#m)
 /-- a dict whose keys are ints and texts;one whose keys are tuples of ints and texts (the empty one is both) -/
 | dK (kvs:List (Key×V)) | dT (kvs:List (List Key×V))
 /-- a set of ints: its members,its size -/
 | set (S:Int->Bool) (n:Nat)
 /-- an instance of the class at C,its dict at dx,its attributes -/
 | ins (C dx:af) (fs:List (Str×V))
 /-- the dict of the instance at x -/
 | own (x:af)
 /-- the dict of an exception -/
 | xd (fs:List (Str×V))
 /-- a bound method,f of x -/
 | met (f x:af)
 /-- a range object lo,lo+1,.. below hi -/
 | rng (lo hi:Int)
 /-- a thing that is known to the object (the script;a dict while a loop walks it): read,never written while it is so -/
 | LG (o:Obj) (u:HO)
 /-- a code object's table -/
 | tbl (ps:Array aE)
 /-- any other thing,by what is true of its one object (a def of one's own: SetO a S n:=HO.ext λh=>..) -/
 | ext (φ:cA->Prop)
abbrev Hp:=af->Option HO
noncomputable def upd (H:Hp) (a:af) (o:HO):Hp:=λb=>if b=a then some o else H b
def au:upd H a o a=some o:=by unfold upd;rw [if_pos rfl]
def aJ (h:b≠a):upd H a o b=H b:=by unfold upd;rw [if_neg h]
def pC:upd (upd H a o) a u=upd H a u:=-by
 funext b;unfold upd;split <;> rfl
def bh {H:Hp} (h:H a=some o) (h':H b=none):a≠b:=-by
 intro e;subst e;rw [h] at h';cases h'
section
variable (P:fP) (w:dh)
def fm (H:Hp) (h:cA) (a:af):HO->Prop
 | .lst xs=>xs.length<=sizeLine/\∃(its:List aE) (n:Nat),Vals xs its/\h.get? a=some { cls:=.type "list",data:=.seq its.toArray n }
 | .tup xs=>xs.length<=sizeLine/\∃its:List aE,Vals xs its/\IsTup h a its.toArray
 | .dK kvs=>kvs.length<=sizeLine/\(a==sysModules)=false/\∃vs,KV kvs vs/\h.DictOf (LX P w) a vs
 | .dT kvs=>kvs.length<=sizeLine/\(a==sysModules)=false/\∃xs:List (List Key×af×aE),
  Paired (λ(p:List Key×V) (q:List Key×af×aE)=>p.1=q.1/\H q.2.1=some (.tup (p.1.map kV))/\RelV p.2 q.2.2) kvs xs /\
  ∃o es ep,h.get? a=some o/\o.ExactDict/\o.data=.dict es ep/\es.toList=xs.map (entryOfKey (tupleKind (LX P w)))/\(xs.map (·.1)).Nodup
 | .set S n=>h.SetOf (intKind P w) a S n
 | .ins C dx fs=>H dx=some (.own a)/\fs.length<=1000/\dx≠a/\h.get? a=some (xB C dx) /\
  ∃mA,h.Ns1 dx mA/\(∀f,Cd (fs.lookup f) (mA f))/\Sy mA (fs.map (·.1))
 | .own _=>∃o,h.get? a=some o
 | .xd fs=>∃mA,h.Ns1 a mA/\∀f,Cd (fs.lookup f) (mA f)
 | .rng lo hi=>∃t u v,h.get? a=some { cls:=.type "range",data:=.fields #[.int lo t,.int hi u,.int 1 v] }
 | .LG o u=>h.get? a=some o/\fm H h a u
 | .tbl ps=>h.get? a=some { cls:=.none,data:=.fields ps }
 | .met f x=>h.get? a=some (Sg (.ref f) (.ref x))
 | .ext φ=>φ h/\(∃o,h.get? a=some o)/\∀h1 h2:cA,φ h1->(∀o,h1.get? a=some o->h2.get? a=some o)->φ h2
def vf (H:Hp) (h:cA):Prop:=∀a o,H a=some o->fm P w H h a o
end
def fm.lt (x:fm P w H h a o):a<h.objs.size:=-by
 cases o with
 | lst xs=>obtain ⟨_,_,_,_,e⟩:=x;exact eO e
 | tup xs=>obtain ⟨_,_,_,p⟩:=x;exact p.lt
 | dK kvs=>obtain ⟨_,_,_,_,o,_,_,e,_⟩:=x;exact eO e
 | dT kvs=>obtain ⟨_,_,_,_,o,_,_,e,_⟩:=x;exact eO e
 | set S n=>obtain ⟨o,_,_,_,e,_⟩:=x;exact eO e
 | ins C dx fs=>obtain ⟨_,_,_,e,_⟩:=x;exact eO e
 | own y=>obtain ⟨_,e⟩:=x;exact eO e
 | xd fs=>obtain ⟨_,⟨_,_,_,e,_⟩,_⟩:=x;exact eO e
 | rng lo hi=>obtain ⟨_,_,_,e⟩:=x;exact eO e
 | LG ob u=>obtain ⟨e,_⟩:=x;exact eO e
 | tbl ps=>exact eO (show h.get? a=some _ from x)
 | met f y=>exact eO (show h.get? a=some _ from x)
 | ext φ=>obtain ⟨_,⟨_,e⟩,_⟩:=x;exact eO e
def Paired.abf:∀{l₁:List α} {l₂:List β},Paired F l₁ l₂->(∀a b,F a b->G a b)->Paired G l₁ l₂
 | _,_,.nil,_=>.nil
 | _,_,.cons r t,f=>.cons (f _ _ r) (Paired.abf t f)
def fm.stay (x:fm P w H h a o) (k:∀b u,(b=a\/H b=some (.own a))->h.get? b=some u->h'.get? b=some u)
 (ho:∀b,H b=some (.own a)->H' b=some (.own a)) (ht:∀b xs,H b=some (.tup xs)->H' b=some (.tup xs)):fm P w H' h' a o:=-by
 induction o with
 | lst xs=>obtain ⟨z,D,n,r,e⟩:=x;exact ⟨z,D,n,r,k _ _ (.inl rfl) e⟩
 | tup xs=>obtain ⟨z,D,r,A,e,c⟩:=x;exact ⟨z,D,r,A,k _ _ (.inl rfl) e,c⟩
 | dK kvs=>obtain ⟨z,y,vs,r,A,es,B,e,c⟩:=x;exact ⟨z,y,vs,r,A,es,B,k _ _ (.inl rfl) e,c⟩
 | dT kvs=>
   obtain ⟨z,y,xs,r,A,es,B,e,c⟩:=x
   exact ⟨z,y,xs,Paired.abf r λp q z=>⟨z.1,ht _ _ z.2.1,z.2.2⟩,A,es,B,k _ _ (.inl rfl) e,c⟩
 | set S n=>obtain ⟨A,es,B,t,e,c⟩:=x;exact ⟨A,es,B,t,k _ _ (.inl rfl) e,c⟩
 | ins C dx fs=>
   obtain ⟨d,z,ne,e,E,⟨G,es,B,e2,c⟩,r⟩:=x
   exact ⟨ho _ d,z,ne,k _ _ (.inl rfl) e,E,⟨G,es,B,k _ _ (.inr d) e2,c⟩,r⟩
 | own y=>obtain ⟨A,e⟩:=x;exact ⟨A,k _ _ (.inl rfl) e⟩
 | xd fs=>obtain ⟨E,⟨G,es,B,e,c⟩,r⟩:=x;exact ⟨E,⟨G,es,B,k _ _ (.inl rfl) e,c⟩,r⟩
 | rng lo hi=>obtain ⟨t,u,v,e⟩:=x;exact ⟨t,u,v,k _ _ (.inl rfl) e⟩
 | LG A u ih=>obtain ⟨e,q⟩:=x;exact ⟨k _ _ (.inl rfl) e,ih q⟩
 | tbl ps=>
   have e:h.get? a=some { cls:=.none,data:=.fields ps }:=x
   show h'.get? a=some { cls:=.none,data:=.fields ps }
   exact k a _ (.inl rfl) e
 | met f y=>
   have e:h.get? a=some (Sg (.ref f) (.ref y)):=x
   show h'.get? a=some (Sg (.ref f) (.ref y))
   exact k a _ (.inl rfl) e
 | ext φ=>obtain ⟨p,⟨o,e⟩,st⟩:=x;exact ⟨st _ _ p λo q=>k _ _ (.inl rfl) q,⟨o,k _ _ (.inl rfl) e⟩,st⟩
def vf.lt (x:vf P w H h) (e:H a=some o):a<h.objs.size:=(x a o e).lt
def vf.fresh {a:af} (x:vf P w H h) (e:h.objs.size<=a):H a=none:=-by
 cases q:H a with
 | none=>rfl
 | some u=>exact absurd (pD (x.lt q) e) (BV _)
def vf.kept (x:vf P w H h) (k:∀b u,h.get? b=some u->h'.get? b=some u):vf P w H h':=λa o e=>
 (x a o e).stay (λb u _ q=>k b u q) (λ_ q=>q) λ_ _ q=>q
def vf.laid {a:af} (x:vf P w H h) (k:∀b u,h.get? b=some u->h'.get? b=some u) (hp:h.objs.size<=a) (new:fm P w (upd H a o) h' a o):vf P w (upd H a o) h':=λb u e=>by
 have hn:=x.fresh hp
 by_cases hb:b=a
 ·subst hb;rw [au] at e;cases e;exact new
 ·rw [aJ hb] at e
  exact (x b u e).stay (λc v _ q=>k c v q) (λc q=>by rw [aJ (bh q hn)];exact q) λc xs q=>by rw [aJ (bh q hn)];exact q
def Rd (H:Hp) (a:af) (u:HO):Prop:=H a=some u\/∃o,H a=some (.LG o u)
def Rd.ok (r:Rd H a u) (x:vf P w H h):fm P w H h a u:=-by
 rcases r with r | ⟨o,r⟩
 ·exact x a u r
 ·obtain ⟨_,q⟩:=x a _ r
  exact q
def Mut:Option HO->Prop
 | some (.lst _)=>True
 | some (.dK _)=>True
 | some (.dT _)=>True
 | some (.set _ _)=>True
 | some (.ins _ _ _)=>True
 | some (.ext _)=>True
 | _=>False
def vf.write (ok:vf P w H h) (mu:Mut (H x)) (he:e=x\/H e=some (.own x)) (k:∀b u,b≠e->h.get? b=some u->h'.get? b=some u) (heo:∃u,h'.get? e=some u)
 (new:fm P w (upd H x o') h' x o'):vf P w (upd H x o') h':=λb u q=>by
 have abk:∀c y,H c=some (.own y)->c≠x:=λc y r z=>by subst z;rw [r] at mu;exact mu
 have adV:∀c xs,H c=some (.tup xs)->c≠x:=λc xs r z=>by subst z;rw [r] at mu;exact mu
 by_cases hb:b=x
 ·subst hb;rw [au] at q;cases q;exact new
 ·rw [aJ hb] at q
  by_cases Y9:b=e
  ·have q':H b=some (.own x):=by
    rcases he with z | z
    ·exact absurd (Y9.trans z) hb
    ·rw [Y9];exact z
   rw [q] at q';cases q'
   obtain ⟨v,p⟩:=heo
   exact ⟨v,by rw [Y9];exact p⟩
  ·refine (ok b u q).stay (λc v n r=>k c v ?_ r) (λc r=>by rw [aJ (abk c b r)];exact r) λc xs r=>by rw [aJ (adV c xs r)];exact r
   rcases n with rfl | n
   ·exact Y9
   ·rintro rfl
    rcases he with z | z
    ·exact abk c b n z
    ·rw [n] at z;cases z;exact hb rfl
structure Un (fs ex:List af) (H H':Hp) (h h':cA):Prop where
 keep:∀b o,h.get? b=some o->H b=none->b∉fs->b∉ex->h'.get? b=some o
 slot:∀b o,h.get? b=some o->H b=none->b∈fs->b∉ex->∃sl,h'.get? b=some { o with slots:=sl }
 free:∀b o,h.get? b=some o->H b=none->b∉ex->H' b=none
 there:∀b o,h.get? b=some o->b∉ex->∃o',h'.get? b=some o'
 tups:∀b xs,H b=some (.tup xs)->H' b=some (.tup xs)
 D6:∀b o u,H b=some (.LG o u)->H' b=some (.LG o u)
 HR:∀b ps,H b=some (.tbl ps)->∃more,H' b=some (.tbl (ps++more))
def Un.any (u:Un fs ex H H1 h h1)  (q:h.get? b=some ob) (n:H b=none) (hx:b∉ex):∃sl,h1.get? b=some { ob with slots:=sl }:=-by
 by_cases hb:b∈fs
 ·exact u.slot b ob q n hb hx
 ·exact ⟨ob.slots,u.keep b ob q n hb hx⟩
def Un.kept (k:∀b u,h.get? b=some u->h'.get? b=some u):Un fs ex H H h h':=
 ⟨λb ob q _ _ _=>k b ob q,λb ob q _ _ _=>⟨ob.slots,k b ob q⟩,λ_ _ _ n _=>n,λb ob q _=>⟨ob,k b ob q⟩,λ_ _ q=>q,λ_ _ _ q=>q,λ_ ps q=>⟨#[],by rw [q];simp⟩⟩
def Un.refl:Un fs ex H H h h:=Un.kept λ_ _ q=>q
def Un.laid {h:cA} {a:af} (k:∀b u,h.get? b=some u->h'.get? b=some u) (hp:h.objs.size<=a) (hn:H a=none):Un fs ex H (upd H a o) h h' where
 keep:=λb u q _ _ _=>k b u q
 slot:=λb u q _ _ _=>⟨u.slots,k b u q⟩
 free:=λb u q n _=>by rw [aJ (lU (pD (eO q) hp))];exact n
 there:=λb u q _=>⟨u,k b u q⟩
 tups:=λb xs q=>by rw [aJ (bh q hn)];exact q
 D6:=λb u xs q=>by rw [aJ (bh q hn)];exact q
 HR:=λb ps q=>⟨#[],by rw [aJ (bh q hn),q];simp⟩
def Un.write (mu:Mut (H x)) (he:e=x\/H e=some (.own x)) (k:∀b u,b≠e->h.get? b=some u->h'.get? b=some u) (heo:∃u,h'.get? e=some u):Un fs ex H (upd H x o) h h':=-by
 have A:∀b,H b=none->b≠x:=λb n z=>by subst z;rw [n] at mu;exact mu
 have v:∀b,H b=none->b≠e:=λb n z=>by
  subst z
  rcases he with r | r
  ·exact A b n r
  ·rw [n] at r;cases r
 have p:∀b u,H b=some u->¬Mut (some u)->b≠x:=λb u q B z=>by subst z;rw [q] at mu;exact B mu
 refine ⟨λb u q n _ _=>k b u (v b n) q,λb u q n _ _=>⟨u.slots,k b u (v b n) q⟩,λb u q n _=>by rw [aJ (A b n)];exact n,λb u q _=>?_,
  λb D q=>by rw [aJ (p b _ q λz=>z)];exact q,λb u D q=>by rw [aJ (p b _ q λz=>z)];exact q,λb ps q=>⟨#[],by rw [aJ (p b _ q λz=>z),q];simp⟩⟩
 by_cases Y9:b=e
 ·subst Y9;exact heo
 ·exact ⟨u,k b u Y9 q⟩
noncomputable def trk (h:cA) (H:Hp):List af:=(fN h.objs.size).filter λa=>(H a).isSome
def Eb (h:cA) (H:Hp):cA:=PySem.W.hideAll h (trk h H)
def ND (h:cA) (H:Hp):(Eb h H).objs.size=h.objs.size:=PySem.W.hideAll_size _ _
def Px (e:h.get? b=some o) (n:H b=none):(Eb h H).get? b=some o:=
 PySem.W.hideAll_get _ e λhm=>by
  have q:(H b).isSome=true:=(Im.mp hm).2
  rw [n] at q;simp at q
def UH (e:(Eb h H).get? b=some o):h.get? b=some o/\H b=none:=-by
 have n:h.get? b=some o:=PySem.W.of_hideAll (trk h H) e
 refine ⟨n,?_⟩
 cases q:H b with
 | none=>rfl
 | some x=>
   have p:b∈trk h H:=Im.mpr ⟨tP.mpr (eO n),by simp [q]⟩
   have z:(Eb h H).get? b=none:=PySem.W.hideAll_none (trk h H) p
   rw [z] at e;cases e
structure Mod (K:bJ) (mg:0#h) (base:cA):Prop where
 kin:K.In base
 glob:base.Ns dZ mg
 blt:∃mb,base.Ns builtinsNs mb/\∀x:Str,x ≠ "__name__"->mb x=rW x
 nolimit:base.NoLimit
structure Cx where
 prog:fP
 w:dh
 K:bJ
 mg:Str->Option aE
 base:cA
 A:mK
 N:List Str
 s₀:aZ
 H₀:Hp
 env:Env
 outer:List Env
 stack:List Env
 ex:List af
 fn:Str->Bool
 calm:Bool
 pn:List (af×Obj)
 xe:aE->aZ->Prop
noncomputable def frs (l:List Env):List af:=l.filterMap (·.frame)
noncomputable abbrev Cx.fs (X:Cx):List af:=frs X.outer
def Vis (sc:oB) (x:Str):Prop:=sc.names.lookup x=some .local\/sc.names.lookup x=some .cell\/sc.names.lookup x=some .free
def Loc (sc:oB) (x:Str):Prop:=sc.names.lookup x=some .local\/sc.names.lookup x=some .cell
def Look (env:Env) (h:cA) (m:0#h) (x:Str) (u:aE):Prop:=
 (env.kindOf x=some .local/\m x=some u)\/((env.kindOf x=some .cell\/env.kindOf x=some .free)/\∃c,env.cells.lookup x=some c/\h.IsCell c (some u))
structure Cx.Ok (X:Cx):Prop where
 mod:Mod X.K X.mg X.base
 kind:X.env.scope.kind=.function
 glob:X.env.globals=dZ
 blt:X.env.builtins=builtinsNs
 above:X.s₀.heap.objs.size<=X.env.locals
 inj:∀x y c,X.env.cells.lookup x=some c->X.env.cells.lookup y=some c->x=y
 has:∀x,(X.env.kindOf x=some .cell\/X.env.kindOf x=some .free)->∃c,X.env.cells.lookup x=some c
 VE:∀x c,X.fn x=true->X.env.cells.lookup x=some c->X.s₀.heap.objs.size<=c
 hd:X.calm=true->X.A.handled=none
 frames:X.A.frames=some X.stack
 stk:X.stack=X.outer\/(X.stack=X.env::X.outer/\X.env.frame=some X.env.locals)
 exf:∀b∈X.ex,b≠X.env.locals/\∀x c,X.env.cells.lookup x=some c->c≠b
 bs:∀b o,X.base.get? b=some o->X.s₀.heap.get? b=some o/\X.H₀ b=none
 VD:X.base.objs.size<=X.s₀.heap.objs.size
 Qa:∀b o,X.base.get? b=some o->b∉X.ex
 TZ:∀b∈X.ex,b∉X.fs
 xV:X.s₀.heap.FunFrames X.base X.outer
 YO:∀b∈X.fs,X.H₀ b=none
structure Inv (X:Cx) (pins:0#k) (σ:List (Option V)) (H:Hp) (s:aZ):Prop where
 ok:X.Ok
 os:s.os=X.s₀.os
 bare:vc s.gens
 base:Un X.fs X.ex X.H₀ H X.s₀.heap s.heap
 loc:∃m,s.heap.Ns X.env.locals m/\∀(i:Nat) (x:Str) (v:V),X.N[i]?=some x->σ[i]?=some (some v)->Vis X.env.scope x->∃u,RelV v u/\Look X.env s.heap m x u
 cell:∀x c,X.env.cells.lookup x=some c->∃v,s.heap.IsCell c v
 free:H X.env.locals=none
 rS:∀x c,X.env.cells.lookup x=some c->H c=none
 pin:∀p∈X.pn++pins,s.heap.get? p.1=some p.2/\H p.1=none/\p.1≠X.env.locals/\p.1∉X.fs/\∀v,p.2.data≠.cell v
 hok:vf X.prog X.w H s.heap
 len:σ.length=X.N.length
def Cx.Ok.adT {X:Cx} (ok:X.Ok)  (e:X.base.get? b=some o):b∉X.fs:=λhb=>by
 have:=(ok.xV.mem hb).1
 rw [e] at this;cases this
def Inv.bs (I:0#d):∀b o,X.base.get? b=some o->s.heap.get? b=some o/\H b=none:=λb o e=>
 ⟨I.base.keep b o (I.ok.bs b o e).1 (I.ok.bs b o e).2 (I.ok.adT e) (I.ok.Qa b o e),I.base.free b o (I.ok.bs b o e).1 (I.ok.bs b o e).2 (I.ok.Qa b o e)⟩
def Inv.bk (I:0#d):∀b o,X.base.get? b=some o->s.heap.get? b=some o:=λb o e=>(I.bs b o e).1
def Inv.mod (I:0#d):Mod X.K X.mg X.base:=I.ok.mod
def Inv.yb (I:0#d):X.K.In s.heap:=I.ok.mod.kin.keeps I.bk
def Inv.lt (I:0#d):X.env.locals<s.heap.objs.size:=let ⟨_,hn,_⟩:=I.loc;hn.lt
def Inv.sz (I:0#d):X.s₀.heap.objs.size<=s.heap.objs.size:=iy I.ok.above (tR I.lt)
def Inv.adU (I:0#d) {a:af} (h:s.heap.objs.size<=a):a∉X.fs:=λhb=>by
 obtain ⟨_,o,ho,_⟩:=I.ok.xV.mem hb
 exact absurd (pD (eO ho) (iy I.sz h)) (BV _)
def Inv.Yp (I:0#d):∀x c,X.env.cells.lookup x=some c->c≠X.env.locals:=λx c e z=>by
 obtain ⟨v,o,ho,hd⟩:=I.cell x c e
 obtain ⟨m,⟨o',es,ep,ho',hd',_⟩,_⟩:=I.loc
 rw [z,ho'] at ho;cases ho;rw [hd'] at hd;cases hd
def Inv.xV (I:0#d):s.heap.FunFrames X.base X.outer:=-by
 have all:∀(l:List Env),(∀b∈frs l,b∈X.fs)->X.s₀.heap.FunFrames X.base l->s.heap.FunFrames X.base l:=by
  intro l
  induction l with
  | nil=>intro _ _;trivial
  | cons env r ih=>
    intro v D
    obtain ⟨B,⟨L,o,u,E,G,A⟩,J⟩:=D
    have n:L∈X.fs:=v L (by unfold frs;rw [Sa,u];exact BN)
    obtain ⟨sl,e⟩:=I.base.slot L o G (I.ok.YO L n) n λz=>I.ok.TZ L z n
    exact ⟨B,⟨L,_,u,E,e,A⟩,ih (λb p=>v b (by unfold frs;rw [Sa,u];exact CQ _ p)) J⟩
 exact all X.outer (λ_ p=>p) I.ok.xV
def Inv.stack (I:0#d):s.heap.FunFrames X.base X.stack:=-by
 rcases I.ok.stk with e | ⟨e,n⟩
 ·rw [e];exact I.xV
 ·rw [e]
  obtain ⟨m,p,_⟩:=I.loc
  refine .cons (by rw [I.ok.kind];decide) n p ?_ I.xV
  exact Heap.get?_none_of_le (iy I.ok.VD I.ok.above)
def Inv.F0 (I:0#d):∀b∈frs X.stack,b∈X.env.locals::X.fs:=λb hb=>by
 rcases I.ok.stk with e | ⟨e,hf⟩
 ·rw [e] at hb;exact CQ _ hb
 ·rw [e] at hb
  unfold frs at hb
  rw [Sa,hf] at hb
  exact hb
def Inv.Mf (I:0#d):∀b∈frs X.stack,H b=none:=λb hb=>by
 rcases jG.mp (I.F0 b hb) with e | hb
 ·rw [e];exact I.free
 ·obtain ⟨_,o,ho,_⟩:=I.ok.xV.mem hb
  exact I.base.free b o ho (I.ok.YO b hb) λz=>I.ok.TZ b z hb
def Inv.step {ch:List af} (I:0#d)
 (hch:∀b∈ch,(b∈X.ex\/X.s₀.heap.objs.size<=b)/\b≠X.env.locals/\(∀x c,X.env.cells.lookup x=some c->c≠b)/\∀p∈X.pn++pins,p.1≠b)
 (keep:∀b o,b≠X.env.locals->b∉X.fs->b∉ch->s.heap.get? b=some o->H b=none->h'.get? b=some o)
 (slot:∀b o,b≠X.env.locals->b∈X.fs->b∉ch->s.heap.get? b=some o->H b=none->∃sl,h'.get? b=some { o with slots:=sl }) (free:∀b o,b∉ch->s.heap.get? b=some o->H b=none->H' b=none)
 (there:∀b o,b∉ch->s.heap.get? b=some o->∃o',h'.get? b=some o')
 (tups:∀b xs,H b=some (.tup xs)->H' b=some (.tup xs)) (D6:∀b o u,H b=some (.LG o u)->H' b=some (.LG o u)) (HR:∀b ps,H b=some (.tbl ps)->∃more,H' b=some (.tbl (ps++more)))
 (ns:∀m,s.heap.Ns X.env.locals m->h'.Ns X.env.locals m) (hok:vf X.prog X.w H' h') (hg:vc g') :
 Inv X pins σ H' { s with heap:=h',gens:=g',drawn:=d',toks:=t' }:=-by
 have L:∀b o,X.s₀.heap.get? b=some o->b≠X.env.locals:=λb o e=>lU (pD (eO e) I.ok.above)
 have E:∀b o,X.s₀.heap.get? b=some o->b∉X.ex->b∉ch:=λb o e A G=>by
  rcases (hch b G).1 with z | z
  ·exact A z
  ·exact absurd (pD (eO e) z) (BV _)
 have B:∀x c,X.env.cells.lookup x=some c->∀v,s.heap.IsCell c v->h'.IsCell c v:=λx c e v ⟨o,J,M⟩=>by
  have D:c∉ch:=λz=>(hch c z).2.2.1 x c e rfl
  by_cases hc:c∈X.fs
  ·obtain ⟨sl,q⟩:=slot c o (I.Yp x c e) hc D J (I.rS x c e)
   exact ⟨_,q,M⟩
  ·exact ⟨o,keep c o (I.Yp x c e) hc D J (I.rS x c e),M⟩
 refine ⟨I.ok,I.os,hg,⟨λb o e n G A=>?_,λb o e n G A=>?_,λb o e n A=>?_,λb o e A=>?_,λb xs e=>tups b xs (I.base.tups b xs e),λb o xs e=>D6 b o xs (I.base.D6 b o xs e),λb ps e=>?_⟩,?_,λx c e=>?_,?_,λx c e=>?_,λp O=>?_,hok,I.len⟩
 ·exact keep b o (L b o e) G (E b o e A) (I.base.keep b o e n G A) (I.base.free b o e n A)
 ·obtain ⟨sl,e1⟩:=I.base.slot b o e n G A
  obtain ⟨N,e2⟩:=slot b _ (L b o e) G (E b o e A) e1 (I.base.free b o e n A)
  exact ⟨N,e2⟩
 ·obtain ⟨o',e1⟩:=I.base.there b o e A
  exact free b o' (E b o e A) e1 (I.base.free b o e n A)
 ·obtain ⟨o',e1⟩:=I.base.there b o e A
  exact there b o' (E b o e A) e1
 ·obtain ⟨U,e1⟩:=I.base.HR b ps e
  obtain ⟨Y,e2⟩:=HR b _ e1
  exact ⟨U++Y,by rw [e2,Array.append_assoc]⟩
 ·obtain ⟨m,S,R⟩:=I.loc
  refine ⟨m,ns m S,λi x v e1 e2 e3=>?_⟩
  obtain ⟨u,r,l⟩:=R i x v e1 e2 e3
  refine ⟨u,r,?_⟩
  rcases l with l | ⟨k,c,e,z⟩
  ·exact .inl l
  ·exact .inr ⟨k,c,e,B x c e _ z⟩
 ·obtain ⟨v,z⟩:=I.cell x c e
  exact ⟨v,B x c e v z⟩
 ·obtain ⟨m,⟨o,_,_,J,_⟩,_⟩:=I.loc
  exact free _ o (λz=>(hch _ z).2.1 rfl) J I.free
 ·obtain ⟨v,o,J,M⟩:=I.cell x c e
  exact free c o (λz=>(hch c z).2.2.1 x c e rfl) J (I.rS x c e)
 ·obtain ⟨e,n,ne,Q,d⟩:=I.pin p O
  have D:p.1∉ch:=λz=>(hch p.1 z).2.2.2 p O rfl
  exact ⟨keep p.1 p.2 ne Q D e n,free p.1 p.2 D e n,ne,Q,d⟩
def Inv.un (I:0#d) (u:Un X.fs [] H H' s.heap h') (hok:vf X.prog X.w H' h'):Inv X pins σ H' { s with heap:=h',toks:=t' }:=-by
 obtain ⟨m,⟨o,es,ep,D,r⟩,_⟩:=id I.loc
 obtain ⟨sl,E⟩:=u.any D I.free 0#t
 exact I.step (g':=s.gens) (d':=s.drawn) (ch:=[]) (λ_ z=>nomatch z) (λb o _ B _ e n=>u.keep b o e n B 0#t) (λb o _ B _ e n=>u.slot b o e n B 0#t) (λb o _ e n=>u.free b o e n 0#t) (λb o _ e=>u.there b o e 0#t) u.tups u.D6 u.HR (λm' G=>by
  obtain ⟨o',A,v,p,J⟩:=G
  rw [D] at p;cases p
  exact ⟨_,A,v,E,J⟩) hok I.bare
def Inv.call (I:0#d) (u:Un (frs X.stack) ch H H' s.heap h') (hok:vf X.prog X.w H' h') (hg:vc g')
 (hch:∀b∈ch,(b∈X.ex\/X.s₀.heap.objs.size<=b)/\b≠X.env.locals/\(∀x c,X.env.cells.lookup x=some c->c≠b)/\∀p∈X.pn++pins,p.1≠b) :
 Inv X pins σ H' { s with heap:=h',gens:=g',drawn:=d',toks:=t' }:=-by
 obtain ⟨m,⟨o,es,ep,G,r⟩,_⟩:=id I.loc
 obtain ⟨sl,E⟩:=u.any G I.free λz=>(hch _ z).2.1 rfl
 exact I.step (ch:=ch) hch (λb o E J v e n=>u.keep b o e n (λz=>(jG.mp (I.F0 b z)).elim E J) v) (λb o _ _ v e n=>u.any e n v) (λb o v e n=>u.free b o e n v) (λb o v e=>u.there b o e v) u.tups u.D6 u.HR (λm' L=>by
  obtain ⟨o',D,B,A,M⟩:=L
  rw [G] at A;cases A
  exact ⟨_,D,B,E,M⟩) hok hg
def Inv.turned (I:0#d) (k:∀b o,b≠it->s.heap.get? b=some o->h'.get? b=some o) (hn:H it=none) (hL:it≠X.env.locals)
 (h1:it∈X.ex\/X.s₀.heap.objs.size<=it) (h2:∀x c,X.env.cells.lookup x=some c->c≠it) (h3:∀p∈X.pn++pins,p.1≠it):Inv X pins σ H { s with heap:=h',toks:=t' }:=-by
 have B:∀b u,H b=some u->b≠it:=λb u e z=>by rw [z,hn] at e;cases e
 refine I.step (g':=s.gens) (d':=s.drawn) (ch:=[it]) (λb E=>?_) (λb o _ _ A e _=>k b o (λz=>A (by simp [z])) e) (λb o _ _ A e _=>⟨o.slots,k b o (λz=>A (by simp [z])) e⟩) (λ_ _ _ _ n=>n)
  (λb o A e=>⟨o,k b o (λz=>A (by simp [z])) e⟩) (λ_ _ e=>e) (λ_ _ _ e=>e) (λb ps e=>⟨#[],by rw [e];simp⟩) (λm G=>?_) (λb u e=>?_) I.bare
 ·have e:b=it:=by simpa using E
  subst e
  exact ⟨h1,hL,h2,h3⟩
 ·obtain ⟨o,es,D,J,r⟩:=G
  exact ⟨o,es,D,k _ o (jS hL) J,r⟩
 ·refine (I.hok b u e).stay (λc v A q=>k c v ?_ q) (λ_ q=>q) λ_ _ q=>q
  rcases A with z | z
  ·rw [z];exact B b u e
  ·exact B c _ z
def Inv.tok (I:0#d) (t:Nat):Inv X pins σ H { s with toks:=t }:=I.un (h':=s.heap) (t':=t) Un.refl I.hok
def Inv.kept (I:0#d) (k:∀b u,s.heap.get? b=some u->h'.get? b=some u):Inv X pins σ H { s with heap:=h',toks:=t' }:=I.un (Un.kept k) (I.hok.kept k)
def Inv.laid {a:af} (I:0#d) (k:∀b u,s.heap.get? b=some u->h'.get? b=some u) (hp:s.heap.objs.size<=a) (new:fm X.prog X.w (upd H a o) h' a o) :
 Inv X pins σ (upd H a o) { s with heap:=h',toks:=t' }:=I.un (Un.laid k hp (I.hok.fresh hp)) (I.hok.laid k hp new)
def Inv.write (I:0#d) (mu:Mut (H x)) (he:e=x\/H e=some (.own x)) (k:∀b u,b≠e->s.heap.get? b=some u->h'.get? b=some u) (heo:∃u,h'.get? e=some u)
 (new:fm X.prog X.w (upd H x o) h' x o):Inv X pins σ (upd H x o) { s with heap:=h',toks:=t' }:=I.un (Un.write mu he k heo) (I.hok.write mu he k heo new)
def Inv.L7 (I:0#d) (h:∀p∈abn,s.heap.get? p.1=some p.2/\H p.1=none/\p.1≠X.env.locals/\p.1∉X.fs/\∀v,p.2.data≠.cell v):Inv X abn σ H s:=
 ⟨I.ok,I.os,I.bare,I.base,I.loc,I.cell,I.free,I.rS,λp hp=>(iw.mp hp).elim (λz=>I.pin p (HX _ z)) (h p),I.hok,I.len⟩
def Hs {N:List Str} (hN:N.Nodup) {i:Nat} (a:N[i]?=some x) (b:N[j]?=some x):i=j:=-by
 obtain ⟨h1,e1⟩:=kM.mp a
 obtain ⟨h2,e2⟩:=kM.mp b
 exact (List.getElem_inj hN).mp (e1.trans e2.symm)
def Ds {X:Cx} {pins:0#k} {σ:List (Option V)} {H:Hp} {s:aZ} {M:Model} {A:mK} {E:aE->aZ->Prop} {i:Nat} {x:Str} {v:V} {u:aE} {Q:Unit->aZ->Prop} (I:0#d) (hN:X.N.Nodup) (hi:X.N[i]?=some x) (hx:Loc X.env.scope x) (r:RelV v u)
 (h:∀s',Inv X pins (σ.set i (some v)) H s'->(∃a,DJ a s.heap s'.heap/\(a=X.env.locals\/X.env.cells.lookup x=some a))->Q () s') (hf:0#j:=by first | exact .inl rfl | exact .inr rfl | assumption):bS M A (storeName X.env x u) Q E s:=-by
 obtain ⟨m,hn,hl⟩:=id I.loc
 have Z:(X.env.scope.kind==.class||(X.env.scope.kind==.module&&X.env.locals != X.env.globals))=false:=by rw [I.ok.kind];rfl
 have U:i<σ.length:=by rw [I.len];exact (kM.mp hi).1
 have Yp:=I.Yp
 have D:∀{a:af} {S:cA},(∃o,s.heap.get? a=some o/\H a=none)->DJ a s.heap S->vf X.prog X.w H S:=λ{a S} ha B b ob e=>by
  obtain ⟨_,_,J⟩:=ha
  refine (I.hok b ob e).stay (λc w' G q=>(B.2 c ?_).trans q) (λ_ q=>q) λ_ _ q=>q
  rintro rfl
  rcases G with rfl | G
  ·rw [J] at e;cases e
  ·rw [J] at G;cases G
 rcases hx with L | L
 ·refine wpAny_storeName_local L hn (λS ae B=>?_) Z
  obtain ⟨oL,_,_,ag,_⟩:=id hn
  refine h _ ⟨I.ok,I.os,I.bare,⟨λb o e n O hx=>?_,λb o e n O hx=>?_,I.base.free,λb o e hx=>?_,I.base.tups,I.base.D6,I.base.HR⟩,⟨_,ae,λj y v' e1 e2 e3=>?_⟩,λy c e=>?_,I.free,I.rS,λp hp=>?_,D ⟨oL,ag,I.free⟩ B,by simpa using I.len⟩ ⟨_,B,.inl rfl⟩
  ·exact (B.2 b (lU (pD (eO e) I.ok.above))).trans (I.base.keep b o e n O hx)
  ·obtain ⟨sl,e1⟩:=I.base.slot b o e n O hx
   exact ⟨sl,(B.2 b (lU (pD (eO e) I.ok.above))).trans e1⟩
  ·obtain ⟨o',e1⟩:=I.base.there b o e hx
   exact ⟨o',(B.2 b (lU (pD (eO e) I.ok.above))).trans e1⟩
  ·by_cases hj:j=i
   ·subst hj
    rw [hi] at e1;cases e1
    rw [Wo U] at e2
    cases e2
    exact ⟨u,r,.inl ⟨L,by simp⟩⟩
   ·rw [WG (jS hj)] at e2
    obtain ⟨u',r',q⟩:=hl j y v' e1 e2 e3
    refine ⟨u',r',?_⟩
    rcases q with ⟨k,e⟩ | ⟨k,c,e,z⟩
    ·refine .inl ⟨k,?_⟩
     have:y≠x:=λe=>hj (Hs hN e1 (e▸hi))
     simp [this,e]
    ·exact .inr ⟨k,c,e,z.sameBut B (Yp y c e)⟩
  ·obtain ⟨w',z⟩:=I.cell y c e
   exact ⟨w',z.sameBut B (Yp y c e)⟩
  ·obtain ⟨e,n,ne,nf,d⟩:=I.pin p hp
   exact ⟨(B.2 p.1 ne).trans e,n,ne,nf,d⟩
 ·have R:X.fn x=true:=by
   rcases hf with z | z
   ·exact z
   ·rw [z] at L;cases L
  obtain ⟨c,G⟩:=I.ok.has x (.inl L)
  obtain ⟨w',z⟩:=I.cell x c G
  refine wpAny_storeName_cell I.ok.kind L G z (λS Y B=>?_)
  obtain ⟨oc,ac,ad⟩:=id z
  refine h { s with heap:=S } ⟨I.ok,I.os,I.bare,⟨λb o e n O hx=>?_,λb o e n O hx=>?_,I.base.free,λb o e hx=>?_,I.base.tups,I.base.D6,I.base.HR⟩,⟨m,hn.sameBut B (jS (Yp x c G)),λj y v' e1 e2 e3=>?_⟩,λy c' e=>?_,I.free,I.rS,λp hp=>?_,D ⟨oc,ac,I.rS x c G⟩ B,by simpa using I.len⟩ ⟨c,B,.inr G⟩
  ·exact (B.2 b (lU (pD (eO e) (I.ok.VE x c R G)))).trans (I.base.keep b o e n O hx)
  ·obtain ⟨sl,e1⟩:=I.base.slot b o e n O hx
   exact ⟨sl,(B.2 b (lU (pD (eO e) (I.ok.VE x c R G)))).trans e1⟩
  ·obtain ⟨o',e1⟩:=I.base.there b o e hx
   exact ⟨o',(B.2 b (lU (pD (eO e) (I.ok.VE x c R G)))).trans e1⟩
  ·by_cases hj:j=i
   ·subst hj
    rw [hi] at e1;cases e1
    rw [Wo U] at e2
    cases e2
    exact ⟨u,r,.inr ⟨.inl L,c,G,Y⟩⟩
   ·rw [WG (jS hj)] at e2
    obtain ⟨u',r',q⟩:=hl j y v' e1 e2 e3
    refine ⟨u',r',?_⟩
    rcases q with q | ⟨k,c',e,z'⟩
    ·exact .inl q
    ·refine .inr ⟨k,c',e,z'.sameBut B ?_⟩
     rintro rfl
     exact hj (Hs hN e1 (I.ok.inj _ _ _ e G▸hi))
  ·by_cases hcc:c'=c
   ·subst hcc;exact ⟨_,Y⟩
   ·obtain ⟨w2,z2⟩:=I.cell y c' e
    exact ⟨w2,z2.sameBut B hcc⟩
  ·obtain ⟨e,n,ne,nf,d⟩:=I.pin p hp
   refine ⟨(B.2 p.1 ?_).trans e,n,ne,nf,d⟩
   intro q
   rw [q,ac] at e
   have q':oc=p.2:=tO e
   exact d w' (by rw [<- q'];exact ad)
def lT {X:Cx} {pins:0#k} {σ:List (Option V)} {H:Hp} {s:aZ} {M:Model} {A:mK} {E:aE->aZ->Prop} {i:Nat} {x:Str} {v:V} {u:aE} {Q:Unit->aZ->Prop} (I:0#d) (hN:X.N.Nodup) (hi:X.N[i]?=some x) (hx:Loc X.env.scope x) (r:RelV v u)
 (h:∀s',Inv X pins (σ.set i (some v)) H s'->Q () s') (hf:0#j:=by first | exact .inl rfl | exact .inr rfl | assumption):bS M A (storeName X.env x u) Q E s:=
 Ds I hN hi hx r (λs' I' _=>h s' I') hf
def Inv.VF (I:0#d) (ho:s'.os=s.os) (u:Un (frs X.stack) ch H H' s.heap s'.heap) (hok:vf X.prog X.w H' s'.heap) (hg:vc s'.gens)
 (hch:∀b∈ch,(b∈X.ex\/X.s₀.heap.objs.size<=b)/\b≠X.env.locals/\(∀x c,X.env.cells.lookup x=some c->c≠b)/\∀p∈X.pn++pins,p.1≠b):Inv X pins σ H' s':=-by
 obtain ⟨h',g',d',t',n⟩:=s'
 have e:n=s.os:=ho
 subst e
 exact I.call (g':=g') (t':=t') (d':=d') u hok hg hch
abbrev XK:=aE->Option af->Hp->Prop
abbrev St:=List (Option V)
abbrev VK:=V->Hp->Prop
abbrev TE:=St->Hp->VK->Prop
abbrev TT:=St->Hp->(Bool->Hp->Prop)->Prop
abbrev TA:=St->Hp->(List V->Hp->Prop)->Prop
structure Ends where
 nx:St->Hp->Prop
 rt:VK
 bk:St->Hp->Prop:=λ_ _=>False
 ct:St->Hp->Prop:=λ_ _=>False
abbrev TS:=Ends->St->Hp->Prop
def EP (X:Cx) (pins:0#k) (σ:St) (Q:VK) (u:aE) (s':aZ):Prop:=∃v H',Inv X pins σ H' s'/\RelV v u/\Q v H'
def TP (X:Cx) (pins:0#k) (σ:St) (Q:Bool->Hp->Prop) (b:Bool) (s':aZ):Prop:=∃H',Inv X pins σ H' s'/\Q b H'
def AP (X:Cx) (pins:0#k) (σ:St) (Q:0#m->Hp->Prop) (us:List aE) (s':aZ):Prop:=∃vs H',Inv X pins σ H' s'/\Vals vs us/\Q vs H'
def SP (X:Cx) (pins:0#k) (D:Ends) (f:Flow) (s':aZ):Prop:=
 match f with
 | .next=>∃σ' H',Inv X pins σ' H' s'/\D.nx σ' H'
 | .brk=>∃σ' H',Inv X pins σ' H' s'/\D.bk σ' H'
 | .cont=>∃σ' H',Inv X pins σ' H' s'/\D.ct σ' H'
 | .ret u=>∃v σ' H',Inv X pins σ' H' s'/\RelV v u/\D.rt v H'
def PE (X:Cx) (e:aW) (t:TE):Prop:=
 ∀(pins:0#k) (s:aZ) (σ:St) (H:Hp) (Q:VK),Inv X pins σ H s->t σ H Q->bS 0#A X.A (eval e X.env) (EP X pins σ Q) X.xe s
def PT (X:Cx) (e:aW) (t:TT):Prop:=
 ∀(pins:0#k) (s:aZ) (σ:St) (H:Hp) (Q:Bool->Hp->Prop),Inv X pins σ H s->t σ H Q->bS 0#A X.A (isTrue e X.env (eval e X.env)) (TP X pins σ Q) X.xe s
def PW (X:Cx) (e:aW) (t:TT):Prop:=
 ∀(whole:Sem aE) (pins:0#k) (s:aZ) (σ:St) (H:Hp) (Q:Bool->Hp->Prop),Inv X pins σ H s->t σ H Q->bS 0#A X.A (isTrue e X.env whole) (TP X pins σ Q) X.xe s
def PW.pt (h:PW X e t):PT X e t:=h _
def PA (X:Cx) (es:List aW) (t:TA):Prop:=
 ∀(pos:Pos) (pins:0#k) (s:aZ) (σ:St) (H:Hp) (Q:0#m->Hp->Prop),Inv X pins σ H s->t σ H Q->bS 0#A X.A (spliced (gB pos (bf es X.env))) (AP X pins σ Q) X.xe s
def PS (X:Cx) (st:aO) (t:TS):Prop:=
 ∀(pins:0#k) (s:aZ) (σ:St) (H:Hp) (D:Ends),Inv X pins σ H s->t D σ H->bS 0#A X.A (exec st X.env) (SP X pins D) X.xe s
def IF (X:Cx) (st:List aO) (t:TS):Prop:=
 ∀(pins:0#k) (s:aZ) (σ:St) (H:Hp) (D:Ends),Inv X pins σ H s->t D σ H->bS 0#A X.A (execs st X.env) (SP X pins D) X.xe s
def gP (h:bS M A t Q E s) (hQ:∀a s,Q a s->Q' a s):bS M A t Q' E s:=oq h hQ λ_ _ x=>x
def Vk (i:Nat):TE:=λσ H Q=>∃v,σ[i]?=some (some v)/\Q v H
def tC (v:V):TE:=λ_ H Q=>Q v H
def ZG (hN:X.N[i]?=some x) (hv:Vis X.env.scope x) (hd:0#g:=by decide) (hcd:(x==("__classdict__":Str))=false:=by decide):PE X (.Name x pos) (Vk i):=-by
 intro A s J H Q I h
 obtain ⟨v,e,h⟩:=h
 obtain ⟨m,G,D⟩:=I.loc
 obtain ⟨u,r,l⟩:=D i x v hN e hv
 have p:EP X A J Q u s:=⟨v,H,I,r,h⟩
 rcases l with ⟨z,E⟩ | ⟨z,c,B,n⟩
 ·exact SW (wpAny_loadName_local I.ok.kind z G E p) hd
 ·rcases z with z | z
  ·exact SW (wpAny_loadName_cell I.ok.kind z B n p) hd
  ·exact SW (wpAny_loadName_free I.ok.kind z B n p hcd) hd
def AF {X:Cx} {i j pos}:PE X (.Constant (.int i) j pos) (tC (.int i)):=λ_ _ _ H _ I h=>wpAny_Constant_int ⟨.int i,H,I.tok _,⟨_,rfl⟩,h⟩
def Qw {X:Cx} {b j pos}:PE X (.Constant (.bool b) j pos) (tC (.bl b)):=λ_ _ _ H _ I h=>Constant_bool ⟨.bl b,H,I,rfl,h⟩
def J1 {X:Cx} {j pos}:PE X (.Constant .none j pos) (tC .bG):=λ_ _ _ H _ I h=>Constant_none ⟨.bG,H,I,rfl,h⟩
def J3 {X:Cx} {x j pos}:PE X (.Constant (.str x) j pos) (tC (.str x)):=λ_ _ _ H _ I h=>Calls.Constant_str ⟨.str x,H,I.tok _,⟨_,rfl⟩,h⟩
def Gl (X:Cx) (x:Str):Prop:=X.env.kindOf x=some .globalImplicit
def Ei {σ:St} (I:0#d) (hg:Gl X x) (hm:X.mg x=some u) (h:Q u s)
 (hd:0#g:=by decide):bS 0#A X.A (eval (.Name x pos) X.env) Q E s:=
 Wh I.ok.kind hg (Calls.loadGlobal_global (by rw [I.ok.glob];exact I.mod.glob.keeps I.bk) hm h) hd
def sJ {σ:St} (I:0#d) (hg:Gl X x) (hm:X.mg x=none) (hv:rW x=some u) (h:Q u s)
 (hn:x ≠ "__name__":=by decide) (hd:0#g:=by decide):bS 0#A X.A (eval (.Name x pos) X.env) Q E s:=-by
 obtain ⟨mb,n,p⟩:=I.mod.blt
 exact Wh I.ok.kind hg (Calls.loadGlobal_builtin (by rw [I.ok.glob];exact I.mod.glob.keeps I.bk) hm (by rw [I.ok.blt];exact n.keeps I.bk) ((p x hn).trans hv) h) hd
def L6 (hg:Gl X x) (hm:X.mg x=some u) (r:RelV v u) (hd:0#g:=by decide):PE X (.Name x pos) (tC v):=
 λ_ _ _ H _ I h=>Ei I hg hm ⟨v,H,I,r,h⟩ hd
def UR (hg:Gl X x) (hm:X.mg x=none) (hv:rW x=some u) (r:RelV v u) (hn:x ≠ "__name__":=by decide) (hd:0#g:=by decide):PE X (.Name x pos) (tC v):=
 λ_ _ _ H _ I h=>sJ I hg hm hv ⟨v,H,I,r,h⟩ hn hd
def tB (t:TE):TT:=λσ H Q=>t σ H λx H1=>∃c,x=.bl c/\Q c H1
def Kf {X:Cx} {e:aW} {t:TE} (h:PE X e t) (he:∀whole,isTrue e X.env whole=(do let v <- whole;xM e.pos;holding [v] (truthy v)):=by intro _;rfl):PT X e (tB t):=by
 intro n s D H Q I z
 refine isTrue_plain (gP (h n s D H _ I z) λv s1 ⟨x,p,u,B,A⟩=>?_) (he _)
 obtain ⟨d,rfl,q⟩:=A
 cases B
 exact MC ⟨p,u,q⟩
def aag (t u:TT):TT:=λσ H Q=>t σ H λc H1=>if c=true then u σ H1 Q else Q false H1
def tOr (t u:TT):TT:=λσ H Q=>t σ H λc H1=>if c=true then Q true H1 else u σ H1 Q
def aal (t:TT):TT:=λσ H Q=>t σ H λc H1=>Q (!c) H1
def EU (ha:PT X a tA):PW X (.BoolOp .And [a] pos) tA:=-by
 intro wh n s p H Q I h
 refine isTrue_and (gP (ha n s p H Q I h) λc s1 e=>?_)
 cases c with
 | true=>exact isTrue_and_nil e
 | false=>exact e
def lG (ha:PT X a tA):PW X (.BoolOp .Or [a] pos) tA:=-by
 intro wh n s p H Q I h
 refine isTrue_or (gP (ha n s p H Q I h) λc s1 e=>?_)
 cases c with
 | false=>exact isTrue_or_nil e
 | true=>exact e
def lF (ha:PT X a tA) (hb:PW X (.BoolOp .And (b::rest) pos) tB'):PW X (.BoolOp .And (a::b::rest) pos) (aag tA tB'):=-by
 intro B n s z H Q I h
 refine isTrue_and (gP (ha n s z H _ I h) λc A ⟨p,u,v⟩=>?_)
 cases c with
 | true=>exact hb B n A z p Q u v
 | false=>exact ⟨p,u,v⟩
def QK (ha:PT X a tA) (hb:PW X (.BoolOp .Or (b::rest) pos) tB'):PW X (.BoolOp .Or (a::b::rest) pos) (tOr tA tB'):=-by
 intro B n s z H Q I h
 refine isTrue_or (gP (ha n s z H _ I h) λc A ⟨p,u,v⟩=>?_)
 cases c with
 | true=>exact ⟨p,u,v⟩
 | false=>exact hb B n A z p Q u v
def oU (ha:PT X a tA):PT X (.UnaryOp .Not a pos) (aal tA):=-by
 intro n s u H Q I h
 exact isTrue_not (ha n s u H (λc p=>Q (!c) p) I h)
def Ry (ta tb:TE):TE:=λσ H Q=>ta σ H λx H1=>∃c,x=.bl c/\if c=true then tb σ H1 Q else Q (.bl false) H1
def RG (ta:TE):TE:=λσ H Q=>ta σ H λx H1=>∃c,x=.bl c/\Q (.bl (!c)) H1
def oR {X:Cx} {a:aW} {pos:Pos} {op} {t:TE} (h:PE X a t):PE X (.BoolOp op [a] pos) t:=λpins s σ H Q I hw=>BoolOp_one (h pins s σ H Q I hw)
def lC (ha:PE X a ta) (hb:PE X (.BoolOp .And (b::rest) pos) tb):PE X (.BoolOp .And (a::b::rest) pos) (Ry ta tb):=-by
 intro n s A H Q I h
 refine BoolOp_and (gP (ha n s A H _ I h) λv D ⟨x,u,z,B,p⟩=>?_)
 obtain ⟨c,rfl,p⟩:=p
 cases B
 refine MC ?_
 cases c with
 | true=>exact hb n D A u Q z p
 | false=>exact ⟨.bl false,u,z,rfl,p⟩
def J2 (ha:PE X a ta):PE X (.UnaryOp .Not a pos) (RG ta):=-by
 intro n s B H Q I h
 refine UnaryOp_ (gP (ha n s B H _ I h) λv s1 ⟨x,u,z,A,p⟩=>?_)
 obtain ⟨c,rfl,p⟩:=p
 cases A
 exact not_of (MC ⟨.bl (!c),u,z,rfl,p⟩)
def tIf (t:TT) (ta tb:TE):TE:=λσ H Q=>t σ H λc H1=>if c=true then ta σ H1 Q else tb σ H1 Q
def AE (hc:PT X c tA) (ha:PE X a ta) (hb:PE X b tb):PE X (.IfExp c a b pos) (tIf tA ta tb):=-by
 intro n s p H Q I h
 refine wpAny_IfExp (gP (hc n s p H _ I h) λd A ⟨u,v,z⟩=>?_)
 cases d with
 | true=>exact ha n A p u Q v z
 | false=>exact hb n A p u Q v z
def bw (K:bJ) (H:Hp) (a:af) (xs:0#m):Prop:=
 Rd H a (.lst xs) \/
  ∃(o:Obj) (its:Array aE) (n:Nat),K.lookup a=some o/\o.cls=.type "list"/\o.dict=none/\o.data=.seq its n/\its.size<=sizeLine/\Vals xs its.toList
def ny (K:bJ) (H:Hp) (a:af) (xs:0#m):Prop:=
 Rd H a (.tup xs) \/
  ∃(o:Obj) (its:Array aE) (n:Nat),K.lookup a=some o/\o.cls=.type "tuple"/\o.data=.seq its n/\its.size<=sizeLine/\Vals xs its.toList
noncomputable def ade:aE->Option V
 | .none=>some .bG
 | .bool b=>some (.bl b)
 | .int i _=>some (.int i)
 | .str x _=>some (.str x)
 | .bytes b _=>some (.Ov b)
 | .float b _=>some (.YM b)
 | .ref a=>some (.ref a)
 | .type n=>some (.ty n)
 | _=>none
def RelV.abs (r:RelV x u):ade u=some x:=-by
 cases x with
 | bG=>cases r;rfl
 | bl _=>cases r;rfl
 | int _=>obtain ⟨t,rfl⟩:=r;rfl
 | str _=>obtain ⟨t,rfl⟩:=r;rfl
 | Ov _=>obtain ⟨t,rfl⟩:=r;rfl
 | YM _=>obtain ⟨t,rfl⟩:=r;rfl
 | ref _=>cases r;rfl
 | ty _=>cases r;rfl
def RelV.inj (r:RelV x u) (q:RelV y u):x=y:=tO (r.abs.symm.trans q.abs)
def Vals.inj:∀{xs ys:0#m} {us:List aE},Vals xs us->Vals ys us->xs=ys
 | _,_,_,.nil,.nil=>rfl
 | _,_,_,.cons r t,.cons r' t'=>by rw [r.inj r',Vals.inj t t']
def bw.of {K:bJ} (h:H a=some (.lst xs)):bw K H a xs:=.inl (.inl h)
def ny.of {K:bJ} (h:H a=some (.tup xs)):ny K H a xs:=.inl (.inl h)
def Inv.list {σ:St} (I:0#d) (h:bw X.K H a xs):∃its:List aE,Vals xs its/\PlainL s.heap a its.toArray/\xs.length<=sizeLine:=-by
 rcases h with h | ⟨o,its,n,v,p,u,A,hz,r⟩
 ·obtain ⟨z,its,n,r,e⟩:=h.ok I.hok
  exact ⟨its,r,⟨_,n,e,rfl,rfl,rfl⟩,z⟩
 ·refine ⟨its.toList,r,⟨o,n,I.yb a o v,p,u,by simpa using A⟩,?_⟩
  have e:=r.length
  simp only [Sb] at e
  simp?
def Inv.tuple {σ:St} (I:0#d) (h:ny X.K H a xs):∃its:List aE,Vals xs its/\IsTup s.heap a its.toArray/\xs.length<=sizeLine:=-by
 rcases h with h | ⟨o,its,n,v,u,A,hz,r⟩
 ·obtain ⟨z,its,r,p⟩:=h.ok I.hok
  exact ⟨its,r,p,z⟩
 ·refine ⟨its.toList,r,⟨o,I.yb a o v,u,n,by simpa using A⟩,?_⟩
  have e:=r.length
  simp only [Sb] at e
  simp?
def Inv.uA {σ:St} (I:0#d) (h:bw X.K H a xs) (h':bw X.K H a ys):xs=ys:=-by
 obtain ⟨u,r,⟨o,n,e,_,_,d⟩,_⟩:=I.list h
 obtain ⟨p,A,⟨o',n',z,_,_,v⟩,_⟩:=I.list h'
 rw [e] at z;cases z
 rw [d] at v
 injection v with d1 _
 have:u=p:=by simpa using congrArg Xx d1
 subst this
 exact r.inj A
def Inv.Oi {σ:St} (I:0#d) (h:ny X.K H a xs) (h':ny X.K H a ys):xs=ys:=-by
 obtain ⟨u,r,⟨o,e,_,n,d⟩,_⟩:=I.tuple h
 obtain ⟨p,A,⟨o',z,_,n',v⟩,_⟩:=I.tuple h'
 rw [e] at z;cases z
 rw [d] at v
 injection v with d1 _
 have:u=p:=by simpa using congrArg Xx d1
 subst this
 exact r.inj A
noncomputable abbrev Cx.CP (X:Cx) (E:aE->aZ->Prop):Cx:={ X with xe:=E }
noncomputable abbrev Cx.nox (X:Cx):Cx:=X.CP λ_ _=>False
def Cx.Ok.CP {X:Cx} (ok:X.Ok) (E:aE->aZ->Prop):(X.CP E).Ok:=
 ⟨ok.mod,ok.kind,ok.glob,ok.blt,ok.above,ok.inj,ok.has,ok.VE,ok.hd,ok.frames,ok.stk,ok.exf,ok.bs,ok.VD,ok.Qa,ok.TZ,ok.xV,ok.YO⟩
def Cx.Ok.qN {X:Cx} (ok:(X.CP E).Ok):X.Ok:=
 ⟨ok.mod,ok.kind,ok.glob,ok.blt,ok.above,ok.inj,ok.has,ok.VE,ok.hd,ok.frames,ok.stk,ok.exf,ok.bs,ok.VD,ok.Qa,ok.TZ,ok.xV,ok.YO⟩
def Inv.CP {σ:St} (I:0#d) (E:aE->aZ->Prop):Inv (X.CP E) pins σ H s:=⟨I.ok.CP E,I.os,I.bare,I.base,I.loc,I.cell,I.free,I.rS,I.pin,I.hok,I.len⟩
def Inv.qN {σ:St} (I:Inv (X.CP E) pins σ H s):Inv X pins σ H s:=⟨I.ok.qN,I.os,I.bare,I.base,I.loc,I.cell,I.free,I.rS,I.pin,I.hok,I.len⟩
def SP.qN (h:SP (X.CP E) pins D f s'):SP X pins D f s':=-by
 cases f with
 | next=>obtain ⟨n,p,I,q⟩:=h;exact ⟨n,p,I.qN,q⟩
 | brk=>obtain ⟨n,p,I,q⟩:=h;exact ⟨n,p,I.qN,q⟩
 | cont=>obtain ⟨n,p,I,q⟩:=h;exact ⟨n,p,I.qN,q⟩
 | ret u=>obtain ⟨v,n,p,I,r,q⟩:=h;exact ⟨v,n,p,I.qN,r,q⟩
def IF.nox {st:List aO} (h:IF X.nox st t):IF X st t:=λpins s σ H D I hw=>
 oq (h pins s σ H D (I.CP _) hw) (λ_ _ q=>q.qN) λ_ _ z=>ou z
def RE:TS:=λD σ H=>D.nx σ H
def BI (t u:TS):TS:=λD σ H=>t { D with nx:=u D } σ H
def EO {X:Cx}:IF X [] RE:=λ_ _ σ H _ I h=>ML ⟨σ,H,I,h⟩
def AK {X:Cx} {st:aO} {rest:List aO} {t u:TS} (h1:PS X st t) (h2:IF X rest u):IF X (st::rest) (BI t u):=-by
 intro n s E H D I h
 refine W5 (gP (h1 n s E H { D with nx:=u D } I h) λf B q=>?_)
 cases f with
 | next=>
   obtain ⟨p,z,A,q⟩:=q
   exact h2 n B p z D A q
 | ret v=>exact q
 | brk=>exact q
 | cont=>exact q
def ER {X:Cx} {st:aO} {t:TS} (h1:PS X st t):IF X [st] t:=-by
 intro n s p H D I h
 refine W5 (gP (h1 n s p H D I h) λf s1 q=>?_)
 cases f with
 | next=>exact ML q
 | ret v=>exact q
 | brk=>exact q
 | cont=>exact q
def Rz:TS:=λD σ H=>D.ct σ H
def qq:PS X (.Continue pos) Rz:=λ_ _ σ H _ I h=>wpAny_Continue ⟨σ,H,I,h⟩
def Inv.quiet {σ:St} (I:0#d):interactive X.env=false:=by simp [interactive,I.ok.kind]
def RA (te:TE):TS:=λD σ H=>te σ H λ_ H1=>D.nx σ H1
def EK {X:Cx} {e:aW} {te:TE} {pos:Pos} (he:PE X e te) (hs:kr e none pos.line X.env=pure false:=by rfl):PS X (.Expr e pos) (RA te):=-by
 intro n s p H D I h
 exact wpAny_Expr_any (gP (he n s p H _ I h) λv s1 ⟨x,u,z,r1,A⟩=>⟨p,u,z,A⟩) I.quiet hs
def aan (te:TE):TS:=λD σ H=>te σ H D.rt
def Ke {X:Cx} {e:aW} {te:TE} {pos:Pos} (he:PE X e te):PS X (.Return (some e) pos) (aan te):=-by
 intro n s p H D I h
 exact wpAny_Return_some (gP (he n s p H _ I h) λv s1 ⟨x,u,z,B,A⟩=>⟨x,p,u,z,B,A⟩)
def aaj (c:TT) (t u:TS):TS:=λD σ H=>c σ H λb H1=>if b=true then t D σ H1 else u D σ H1
def QJ {X:Cx} {t u:TS} {pos:Pos} {c:aW} {a b:List aO} {tc:TT} (hc:PT X c tc) (ha:IF X a t) (hb:IF X b u):PS X (.If c a b pos) (aaj tc t u):=-by
 intro n s p H D I h
 refine wpAny_If (gP (hc n s p H _ I h) λd B ⟨v,z,A⟩=>?_)
 cases d with
 | true=>exact ha n B p v D z A
 | false=>exact hb n B p v D z A
def RD:TS:=λ_ _ _=>False
def lE {st:aO}:PS X st RD:=λ_ _ _ _ _ _ h=>h.elim
abbrev TG:=V->St->Hp->(St->Hp->Prop)->Prop
abbrev VA:=List V->St->Hp->(St->Hp->Prop)->Prop
def PG (X:Cx) (target:aW) (t:TG):Prop:=
 ∀(pins:0#k) (s:aZ) (σ:St) (H:Hp) (v:V) (u:aE) (Q:St->Hp->Prop),Inv X pins σ H s->RelV v u->t v σ H Q ->
  bS 0#A X.A (assign target X.env u) (λ_ s'=>∃σ' H',Inv X pins σ' H' s'/\Q σ' H') X.xe s
def PGs (X:Cx) (ts:List aW) (t:VA):Prop:=
 ∀(pins:0#k) (s:aZ) (σ:St) (H:Hp) (vs:0#m) (us:List aE) (Q:St->Hp->Prop),Inv X pins σ H s->Vals vs us->t vs σ H Q ->
  bS 0#A X.A (assignInOrder ((ow ts X.env).map (·.2)) us) (λ_ s'=>∃σ' H',Inv X pins σ' H' s'/\Q σ' H') X.xe s
abbrev aaA:=V->V->V->Hp->(Hp->Prop)->Prop
def Yg (X:Cx) (t:aaA):Prop:=
 ∀(pins:0#k) (s:aZ) (σ:St) (H:Hp) (o i v:V) (ov iv u:aE) (Q:Hp->Prop),Inv X pins σ H s->RelV o ov->RelV i iv->RelV v u->t o i v H Q ->
  bS 0#A X.A (setItem ov iv u) (λ_ s'=>∃H',Inv X pins σ H' s'/\Q H') X.xe s
def jf (i:Nat):TG:=λv σ H Q=>Q (σ.set i (some v)) H
def EJ {X:Cx} {pos:Pos} {i:Nat} {x:Str} (hN:X.N.Nodup) (hi:X.N[i]?=some x) (hx:Loc X.env.scope x) (hf:0#j:=by first | exact .inl rfl | exact .inr rfl | assumption):PG X (.Name x pos) (jf i):=-by
 intro pins s σ H v u Q I r h
 exact WT (lT I hN hi hx r (λs' n=>⟨_,H,n,h⟩) hf)
def Pd:VA:=λvs σ H Q=>vs=[]/\Q σ H
def uo (t:TG) (u:VA):VA:=λvs σ H Q=>∃v r,vs=v::r/\t v σ H λσ' H'=>u r σ' H' Q
def kH {X:Cx}:PGs X [] Pd:=-by
 intro pins s n H vs us Q I r h
 obtain ⟨e,h⟩:=h
 subst e
 cases r
 exact Sh ⟨n,H,I,h⟩
def AG {X:Cx} {e:aW} {es:List aW} {t:TG} {u:VA} (h1:PG X e t) (h2:PGs X es u)
 (hs:(ow (e::es) X.env).map (·.2)=assign e X.env::(ow es X.env).map (·.2):=by rfl):PGs X (e::es) (uo t u):=-by
 intro n s E H vs us Q I r h
 obtain ⟨v,vr,e1,h⟩:=h
 subst e1
 cases r with
 | cons r rr=>
   rw [hs]
   refine DA (gP (h1 n s E H _ _ _ I r h) λ_ D ⟨p,z,A,B⟩=>?_)
   exact h2 n D p z _ _ Q A rr B
def Nk (K:bJ) (n:Nat) (t:VA):TG:=λv σ H Q=>∃a xs,v=.ref a/\ny K H a xs/\xs.length=n/\t xs σ H Q
def ZI (hc:X.calm=true) (h:PGs X es t)
 (hn:(ow es X.env).length=n:=by rfl) (hst:(ow es X.env).findIdx? (·.1)=none:=by rfl):PG X (.Tuple es k pos) (Nk X.K n t):=-by
 intro p s B H v u Q I r z
 obtain ⟨a,N,e1,J,G,z⟩:=z
 subst e1
 cases r
 obtain ⟨its,A,L,hz⟩:=I.tuple J
 refine assign_Tuple_tuple (I.ok.hd hc) L (by simp [hn,<- G,A.length]) hst λE M=>?_
 have D:Inv X p B H { s with heap:=E }:=I.kept (t':=s.toks) λb o e=>M b o (lU (eO e)) e
 exact h p _ B H N _ Q D (by simpa using A) z
def YS (to ti:TE) (t:aaA):TG:=λv σ H Q=>to σ H λo H1=>ti σ H1 λi H2=>t o i v H2 λH3=>Q σ H3
def J7 (ho:PE X o to) (hi:PE X i ti) (hs:Yg X t)
 (ha:∀v,assign (.Subscript o i pos) X.env v=(do
   let ov <- holding [v] (eval o X.env)
   let iv <- holding [v,ov] (eval i X.env)
   xM pos
   holding [v,ov,iv] (setItem ov iv v)
   release [v,ov,iv] []):=by intro _;rfl):PG X (.Subscript o i pos) (YS to ti t):=-by
 intro n s p H v u Q I r h
 rw [ha]
 refine fO (Sv (gP (ho n s p H _ I h) λov R ⟨x,z,D,N,J⟩=>?_))
 refine fO (Sv (gP (hi n R p z _ D J) λiv S ⟨y,A,E,O,L⟩=>?_))
 refine fO (Iw (fO (Sv (gP (hs n S p A x y v ov iv u _ E N O r L) λ_ s3 ⟨B,G,M⟩=>?_))))
 exact wpAny_release ⟨p,B,G,M⟩
def CO (te:TE) (g:TG):TS:=λD σ H=>te σ H λx H1=>g x σ H1 D.nx
def Ka (he:PE X e te) (hg:PG X tg g) (hs:swapsWithSole [tg] e pos.line X.env=pure false:=by rfl) (hw:swappedStores [tg] e X.env=pure none:=by rfl)
 (h1:(ow [tg] X.env).map (·.2)=[assign tg X.env]:=by rfl):PS X (.Assign [tg] e pos) (CO te g):=-by
 intro n s p H D I h
 refine wpAny_Assign_stores (gP (he n s p H _ I h) λv E ⟨x,u,z,B,A⟩=>?_) hs hw
 rw [h1]
 exact gP (hg n E p u x v _ z B A) λ_ s2 q=>q
def EN {X:Cx} {pos:Pos} {i:Nat} {x:Str} {e:aW} {te:TE} {pos':Pos} (hN:X.N.Nodup) (hi:X.N[i]?=some x) (hx:Loc X.env.scope x) (he:PE X e te) (hs:kr e (some (.Name x pos')) pos.line X.env=pure false:=by rfl) (hf:0#j:=by first | exact .inl rfl | exact .inr rfl | assumption) :
 PS X (.Assign [.Name x pos'] e pos) (CO te (jf i)):=-by
 intro n s E H D I h
 refine wpAny_Assign_Name (gP (he n s E H _ I h) λv s1 ⟨y,p,u,B,A⟩=>?_) hs
 exact lT u hN hi hx B (λs2 z=>⟨_,p,z,A⟩) hf
def aam (i j:Nat) (ta:TA):TS:=λD σ H=>ta σ H λvs H1=>∃v w,vs=[v,w]/\D.nx ((σ.set i (some v)).set j (some w)) H1
def EL (hc:X.calm=true) (hN:X.N.Nodup) (hi:X.N[i]?=some x) (hj:X.N[j]?=some y) (hij:i≠j)
 (hx:X.env.scope.names.lookup x=some .local) (hy:X.env.scope.names.lookup y=some .local) (ha:PA X [a,b] ta)
 (hw:swappedStores [.Tuple [.Name x px,.Name y py] kt pt] (.Tuple [a,b] k2 N4) X.env=pure (some [x,y]))
 (hs:swapsWithSole [.Tuple [.Name x px,.Name y py] kt pt] (.Tuple [a,b] k2 N4) pos.line X.env=pure false:=by rfl) :
 PS X (.Assign [.Tuple [.Name x px,.Name y py] kt pt] (.Tuple [a,b] k2 N4) pos) (aam i j ta):=-by
 intro n s O H D I h
 rw [Xf]
 refine fO (Iw ?_)
 rw [hs]
 refine fO (nu ?_)
 rw [if_neg 0#s]
 refine fO (Tuple_ (gP (ha _ n s O H _ I h) λus u ⟨vs,L,Q,Y,G⟩=>?_))
 obtain ⟨v,w,e1,G⟩:=G
 subst e1
 obtain ⟨z,B,rfl,Z,J⟩:∃z B,us=[z,B]/\RelV v z/\RelV w B:=by
  cases Y with
  | cons p q=>
    cases q with
    | cons p' q'=>
      cases q'
      exact ⟨_,_,rfl,p,p'⟩
 refine Si ?_ (by show 2<=sizeLine;decide)
 have R:Inv X n O L { u with heap:=u.heap.push { cls:=.type "tuple",data:=.seq [z,B].toArray } }:=Q.kept (t':=u.toks) λb o e=>oA _ e
 rw [hw]
 refine fO (nu ?_)
 show bS 0#A X.A (do rule "assign.swapped-stores";let items <- unpackItems (.ref u.heap.objs.size) 2 none;assignInOrder [λv=>rZ X.env y v,λv=>rZ X.env x v] items.reverse;pure Flow.next) _ _ _
 refine fO (wpAny_rule (fO (WU (items:=#[z,B]) (I.ok.hd hc) (M0 u.heap _) λh' E=>?_)))
 have S:=R.kept (h':=h') (t':=u.toks) λb o e=>E b o (lU (eO e)) e
 show bS _ _ (assignInOrder [λv=>rZ X.env y v,λv=>rZ X.env x v] [B,z] >>= λ_=>pure Flow.next) _ _ _
 refine fO (DA (Ir (lT S hN hj (.inl hy) J (λs2 U=>?_) (.inr hy))))
 refine DA (Ir (lT U hN hi (.inl hx) Z (λs3 M=>Sh (nu ?_)) (.inr hx)))
 rw [List.set_comm _ _ (jS hij)] at M
 exact ⟨_,L,M,G⟩
def BJ (c:TT) (tb:TS):TS:=λD σ H=>∃W:Nat->St->Hp->Prop,(∃m,W m σ H)/\∀m σ H,W m σ H ->
 c σ H λb H1=>if b=true then ∃N:St->Hp->Prop,(∀σ' H',N σ' H'->∃m',m'<m/\W m' σ' H')/\tb { D with nx:=N,ct:=N,bk:=D.nx } σ H1 else D.nx σ H1
def jP (hp:M6 0#A X.A X.env X.xe) (hc:PT X c tc) (hb:IF X body tb):PS X (.While c body [] pos) (BJ tc tb):=-by
 intro p s σ H D I h
 obtain ⟨W,⟨m0,w0⟩,E⟩:=h
 refine wpAny_While (codeAny_whileLoop (λn s'=>∃σ' H',Inv X p σ' H' s'/\W n σ' H') ?_ m0 ⟨σ,H,I,w0⟩)
 rintro n s1 ⟨z,S,I1,w1⟩
 refine BR hp (gP (hc p s1 z S _ I1 (E n z S w1)) λb s2 ⟨U,Y,G⟩=>?_)
 cases b with
 | true=>
   obtain ⟨N,Z,G⟩:=G
   rw [if_pos rfl]
   refine BR hp (gP (hb p s2 z U _ Y G) λf s3 J=>?_)
   cases f with
   | next=>
     obtain ⟨u,B,L,Q⟩:=J
     obtain ⟨O,M,R⟩:=Z u B Q
     exact ⟨O,M,u,B,L,R⟩
   | cont=>
     obtain ⟨u,B,L,Q⟩:=J
     obtain ⟨O,M,R⟩:=Z u B Q
     exact ⟨O,M,u,B,L,R⟩
   | brk=>exact J
   | ret v=>exact J
 | false=>
   rw [if_neg nv]
   exact ML ⟨z,U,Y,G⟩
structure It where
 go:Nat->Hp->Prop
 OG:Nat->Hp->V->Hp->Prop
 stop:Nat->Hp->Prop
def xS (X:Cx) (pins:0#k) (H:Hp) (b:af):Prop:=
 H b=none/\b≠X.env.locals/\b∉X.fs/\(b∈X.ex\/X.s₀.heap.objs.size<=b)/\(∀x c,X.env.cells.lookup x=some c->c≠b)/\∀p∈X.pn++pins,p.1≠b
def Inv.Je {σ:St} {b:af} (I:0#d) (hb:s.heap.objs.size<=b) (hn:H' b=none):xS X pins H' b:=-by
 refine ⟨hn,SA (pD I.lt hb),I.adU hb,.inr (iy I.sz hb),λx c e z=>?_,λp n z=>?_⟩
 ·obtain ⟨v,q⟩:=I.cell x c e
  exact absurd (pD q.lt (by rw [z];exact hb)) (BV _)
 ·exact absurd (pD (eO (I.pin p n).1) (by rw [z];exact hb)) (BV _)
structure Turn (P:fP) (w:dh) (K:bJ) (tg:aW) (J:It) (fp:List af) (it:af) (tn:Nat->cA->Prop):Prop where
 mem:it∈fp
 obj:∀i h,tn i h->∀b∈fp,∃o,h.get? b=some o/\∀v,o.data≠.cell v
 keep:∀i h h',tn i h->(∀b∈fp,∀o,h.get? b=some o->h'.get? b=some o)->tn i h'
 item:∀(X:Cx),X.prog=P->X.w=w->X.K=K->X.calm=true->∀(i:Nat) (pins:0#k) (s:aZ) (σ:St) (H:Hp) (E:aE->aZ->Prop),Inv X pins σ H s->(∀b∈fp,xS X pins H b)->tn i s.heap->J.go i H ->
  bS (model P w) X.A (pyNext (.ref it)) (λr s1=>∃u,r=some u /\
   bS (model P w) X.A (letOwnedTupleGo tg (.ref it) u) (λ_ s2=>∃x H',Inv X pins σ H' s2/\RelV x u/\J.OG i H x H'/\tn (i+1) s2.heap/\∀b∈fp,H' b=none) E s1) E s
 done:∀(X:Cx),X.prog=P->X.w=w->X.K=K->X.calm=true->∀(i:Nat) (pins:0#k) (s:aZ) (σ:St) (H:Hp) (E:aE->aZ->Prop),Inv X pins σ H s->(∀b∈fp,xS X pins H b)->tn i s.heap->J.stop i H ->
  bS (model P w) X.A (pyNext (.ref it)) (λr s1=>r=none/\Inv X pins σ H s1) E s
 self:∀(A:mK) (i:Nat) (s:aZ) (Q:aE->aZ->Prop) (E:aE->aZ->Prop),tn i s.heap->Q (.ref it) s->bS (model P w) A (pyIter (.ref it)) Q E s
abbrev TI:=St->Hp->(It->Hp->Prop)->Prop
def PIE (X:Cx) (pins:0#k) (σ:St) (tg:aW) (R:It->Hp->Prop) (itv:aE) (s2:aZ):Prop:=
 ∃(it:af) (fp:List af) (tn:Nat->cA->Prop) (J:It) (H':Hp),itv=.ref it/\Inv X pins σ H' s2/\Turn X.prog X.w X.K tg J fp it tn/\tn 0 s2.heap/\(∀b∈fp,xS X pins H' b)/\R J H'
def PI (X:Cx) (tg iter:aW) (wi:TI):Prop:=
 ∀(pins:0#k) (s:aZ) (σ:St) (H:Hp) (R:It->Hp->Prop),Inv X pins σ H s->wi σ H R ->
  bS 0#A X.A (eval iter X.env) (λv s1=>bS 0#A X.A (pyIter v) (PIE X pins σ tg R) X.xe s1) X.xe s
def Pg (ho:s.heap.get? it=some o) (hc:o.cls=.type n) (hd:o.data=.fields vs)
 (hn:["enumerate","zip","dict_itemiterator","dict_reverseitemiterator","odict_iterator","itertools.zip_longest","itertools.pairwise"].contains n=false) (hQ:Q () s):bS M A (letOwnedTupleGo tg (.ref it) u) Q E s:=-by
 unfold letOwnedTupleGo
 cases tg <;> first
  | exact nu hQ
  | (cases u <;> first
      | exact nu hQ
      | (refine fO (wpAny_load ho ?_)
         rw [hc,hd]
         show bS M A (if (["enumerate","zip","dict_itemiterator","dict_reverseitemiterator","odict_iterator","itertools.zip_longest","itertools.pairwise"].contains n&&vs[0]?==some (rawInt _))=true then _ else _) Q E s
         rw [if_neg (by intro h;rw [hn,Bool.false_and] at h;cases h)]
         exact nu hQ))
def Yc (K:bJ) (a:af):It:=
 ⟨λi H=>∃xs x,bw K H a xs/\xs[i]?=some x,λi H x H'=>H'=H/\∀xs,bw K H a xs->xs[i]?=some x,λi H=>∃xs,bw K H a xs/\xs.length<=i⟩
def Yd (K:bJ) (a:af):It:=
 ⟨λi H=>∃xs x,ny K H a xs/\xs[i]?=some x,λi H x H'=>H'=H/\∀xs,ny K H a xs->xs[i]?=some x,λi H=>∃xs,ny K H a xs/\xs.length<=i⟩
def S7 (lo:Int) (n:Nat):It:=⟨λi _=>i<n,λi H x H'=>H'=H/\x=.int (lo+i),λi _=>n<=i⟩
def Ol {K:bJ} (a it:af):Turn P w K tg (Yc K a) [it] it (λi h=>h.IsListIter it a i) where
 mem:=by simp
 obj:=λi h st b hb=>by
  have e:b=it:=by simpa using hb
  subst e
  obtain ⟨o,e,c,d⟩:=st
  exact ⟨o,e,λv z=>by rw [d] at z;cases z⟩
 keep:=λi h h' st k=>st.at λo e=>k it 0#t o e
 item:=-by
  intro X Q S O hc i n s σ H E I B st R
  subst Q S O
  obtain ⟨xs,x,D,U⟩:=R
  obtain ⟨Y,Z,p,hz⟩:=I.list D
  obtain ⟨u,hu,ru⟩:=Z.get U
  obtain ⟨G,J,f2,L,M,N⟩:=B it 0#t
  refine wpAny_pyNext_list_item st p.isList (x:=u) (by simpa using hu) λh' A sb=>?_
  have I1:Inv X n σ H { s with heap:=h' }:=I.turned (t':=s.toks) (λb o hb e=>(sb.2 b hb).trans e) G J L M N
  obtain ⟨o,e,c,d⟩:=id A
  exact ⟨u,rfl,Pg (s:={ s with heap:=h' }) e c d 0#s ⟨x,H,I1,ru,⟨rfl,λys hy=>by rw [I.uA hy D];exact U⟩,A,λb hb=>(B b hb).1⟩⟩
 done:=by
  intro X Q S O hc i n s σ H E I B st R
  subst Q S O
  obtain ⟨xs,D,U⟩:=R
  obtain ⟨Y,Z,p,hz⟩:=I.list D
  obtain ⟨G,J,f2,L,M,N⟩:=B it 0#t
  have hl:=Z.length
  exact wpAny_pyNext_list_end (I.ok.hd hc) st p.isList (by simp;simp?) λh' eb=>⟨rfl,I.turned (t':=s.toks) (λb o hb e=>eb b o hb e) G J L M N⟩
 self:=λ_ _ _ _ _ st h=>wpAny_pyIter_listiter st h
def K6 {K:bJ} (a it:af):Turn P w K tg (Yd K a) [it] it (λi h=>h.IsTupleIter it a i) where
 mem:=by simp
 obj:=λi h st b hb=>by
  have e:b=it:=by simpa using hb
  subst e
  obtain ⟨o,e,c,d⟩:=st
  exact ⟨o,e,λv z=>by rw [d] at z;cases z⟩
 keep:=λi h h' st k=>st.at λo e=>k it 0#t o e
 item:=-by
  intro X R U Q hc i n s σ H E I D st S
  subst R U Q
  obtain ⟨xs,x,G,Y⟩:=S
  obtain ⟨A,Z,p,hz⟩:=I.tuple G
  obtain ⟨u,hu,ru⟩:=Z.get Y
  obtain ⟨J,L,f2,M,N,O⟩:=D it 0#t
  refine wpAny_pyNext_tuple_item st (show s.heap.IsTuple a A.toArray from p) (x:=u) (by simpa using hu) λh' B sb=>?_
  have I1:Inv X n σ H { s with heap:=h' }:=I.turned (t':=s.toks) (λb o hb e=>(sb.2 b hb).trans e) J L M N O
  obtain ⟨o,e,c,d⟩:=id B
  exact ⟨u,rfl,Pg (s:={ s with heap:=h' }) e c d 0#s ⟨x,H,I1,ru,⟨rfl,λys hy=>by rw [I.Oi hy G];exact Y⟩,B,λb hb=>(D b hb).1⟩⟩
 done:=by
  intro X R U Q hc i n s σ H E I D st S
  subst R U Q
  obtain ⟨xs,G,Y⟩:=S
  obtain ⟨A,Z,p,hz⟩:=I.tuple G
  obtain ⟨J,L,f2,M,N,O⟩:=D it 0#t
  have hl:=Z.length
  exact wpAny_pyNext_tuple_end (I.ok.hd hc) st (show s.heap.IsTuple a A.toArray from p) (by simp;simp?) λh' eb=>⟨rfl,I.turned (t':=s.toks) (λb o hb e=>eb b o hb e) J L M N O⟩
 self:=λ_ _ _ _ _ st h=>wpAny_pyIter_tupleiter st h
def K5 {K:bJ} (it:af) (lo:Int) (n:Nat):Turn P w K tg (S7 lo n) [it] it (λi h=>IsRangeIter h it (lo+(i:Nat)*1) ((n:Int)-(i:Nat)) 1) where
 mem:=by simp
 obj:=λi h st b hb=>by
  have e:b=it:=by simpa using hb
  subst e
  exact ⟨_,st,λv z=>by
   have z':Data.fields _=Data.cell v:=z
   cases z'⟩
 keep:=λi h h' st k=>k it 0#t _ st
 item:=-by
  intro X N R M O i p s U H E I A st Q
  subst N R M
  obtain ⟨B,D,f2,G,J,L⟩:=A it 0#t
  have W:=Walks.range (prog:=X.prog) (w:=X.w) (I.ok.hd O) it lo 1 n
  refine W.item i s _ _ Q st λv h' S hv u kk=>?_
  obtain ⟨t,rfl⟩:=hv
  have Y:Inv X p U H { s with heap:=h',toks:=S }:=I.turned (λb o hb e=>kk b o (by simpa using hb) e) B D G J L
  refine ⟨_,rfl,Pg (s:={ s with heap:=h',toks:=S }) (n := "range_iterator") u rfl rfl 0#s ⟨.int (lo+i),H,Y,⟨t,?_⟩,⟨rfl,rfl⟩,u,λb hb=>(A b hb).1⟩⟩
  rw [Int.mul_one]
 done:=by
  intro X N R M O i p s U H E I A st Q
  subst N R M
  obtain ⟨B,D,f2,G,J,L⟩:=A it 0#t
  exact wpAny_pyNext_range_end (I.ok.hd O) st (by have:n<=i:=Q;simp?) λh' Z=>⟨rfl,I.turned (t':=s.toks) (λb o hb e=>Z b o hb e) B D G J L⟩
 self:=λ_ _ _ _ _ st h=>wpAny_pyIter_rangeiter st h
def LJ (K:bJ) (tl:TE):TI:=λσ H R=>tl σ H λx H1=>∃a,x=.ref a/\(∃xs,bw K H1 a xs)/\R (Yc K a) H1
def Ut (K:bJ) (tl:TE):TI:=λσ H R=>tl σ H λx H1=>∃a,x=.ref a/\(∃xs,ny K H1 a xs)/\R (Yd K a) H1
def UY (hl:PE X l tl):PI X tg l (LJ X.K tl):=-by
 intro n s J H R I h
 refine gP (hl n s J H _ I h) λv z ⟨x,A,u,G,E⟩=>?_
 obtain ⟨a,e,⟨xs,D⟩,q⟩:=E
 subst e
 cases G
 obtain ⟨its,rv,p,hz⟩:=u.list D
 refine wpAny_pyIter_list p.isList ?_
 refine ⟨z.heap.objs.size,[z.heap.objs.size],_,_,A,rfl,u.kept (t':=z.toks) λb o e=>oA _ e,Ol a _,⟨_,Gb _ rfl,rfl,rfl⟩,λb B=>?_,q⟩
 have e:b=z.heap.objs.size:=by simpa using B
 subst e
 exact u.Je (d8 _) (u.hok.fresh (d8 _))
def ZJ (hl:PE X l tl):PI X tg l (Ut X.K tl):=-by
 intro n s L H R I h
 refine gP (hl n s L H _ I h) λv u ⟨x,B,z,J,G⟩=>?_
 obtain ⟨a,e,⟨xs,E⟩,q⟩:=G
 subst e
 cases J
 obtain ⟨A,rv,p,hz⟩:=z.tuple E
 refine wpAny_pyIter_tuple (show u.heap.IsTuple a A.toArray from p) ?_
 refine ⟨u.heap.objs.size,[u.heap.objs.size],_,_,B,rfl,z.kept (t':=u.toks) λb o e=>oA _ e,K6 a _,⟨_,Gb _ rfl,rfl,rfl⟩,λb D=>?_,q⟩
 have e:b=u.heap.objs.size:=by simpa using D
 subst e
 exact z.Je (d8 _) (z.hok.fresh (d8 _))
def HH {σ:St} {lo:Int} (I:0#d) (h1:-(2 ^ 62)<=lo) (h2:lo<2 ^ 62) (h3:-(2 ^ 62)<=hi) (h4:hi<2 ^ 62)
 (q:R (S7 lo (hi-lo).toNat) H):bS 0#A X.A (pyIter (.ref s.heap.objs.size)) (PIE X pins σ tg R) E { s with heap:=s.heap.push { cls:=.type "range",data:=.fields #[.int lo t,.int hi u,.int 1 v] },toks:=tk }:=-by
 refine wpAny_pyIter_range (IsRange.new ..) (small_one h1 h2 h3 h4) ?_
 have n:Inv X pins σ H { s with heap:=s.heap.push { cls:=.type "range",data:=.fields #[.int lo t,.int hi u,.int 1 v] },toks:=tk }:=I.kept λb o e=>oA _ e
 refine ⟨(s.heap.push { cls:=.type "range",data:=.fields #[.int lo t,.int hi u,.int 1 v] }).objs.size,[(s.heap.push { cls:=.type "range",data:=.fields #[.int lo t,.int hi u,.int 1 v] }).objs.size],_,_,H,rfl,
  n.kept (t':=tk) λb o e=>oA _ e,K5 _ lo (hi-lo).toNat,?_,λb p=>?_,q⟩
 ·have e1:lo+((0:Nat):Int)*1=lo:=by simp
  have e2:(((hi-lo).toNat:Nat):Int)-((0:Nat):Int)=acL lo hi 1:=by rw [rangeSize_one];split <;> simp?
  show IsRangeIter _ _ (lo+((0:Nat):Int)*1) ((((hi-lo).toNat:Nat):Int)-((0:Nat):Int)) 1
  rw [e1,e2]
  exact Gb _ rfl
 ·have e:b=(s.heap.push { cls:=.type "range",data:=.fields #[.int lo t,.int hi u,.int 1 v] }).objs.size:=by simpa using p
  subst e
  exact n.Je (d8 _) (n.hok.fresh (d8 _))
def PB (ta:TA):TI:=λσ H R=>ta σ H λvs H1=>∃j:Int,vs=[.int j]/\-(2 ^ 62)<=j/\j<2 ^ 62/\R (S7 0 j.toNat) H1
def PC (ta:TA):TI:=λσ H R=>ta σ H λvs H1=>∃i j:Int,vs=[.int i,.int j]/\(-(2 ^ 62)<=i/\i<2 ^ 62/\-(2 ^ 62)<=j/\j<2 ^ 62)/\R (S7 i (j-i).toNat) H1
def iM (hg:Gl X "range") (hm:X.mg "range"=none) (ha:PA X [a] ta) (hs:bf [a] X.env=[(false,eval a X.env)]:=by rfl):PI X tg (.Call (.Name "range" p) [a] [] pos) (PB ta):=-by
 intro n s B H R I h
 refine Call_ (sJ I hg hm boot_range (S4 (gP (ha pos n s B H _ I h) λus s1 ⟨vs,H1,v,A,u⟩=>?_) hs rfl))
 obtain ⟨j,e,u,z,q⟩:=u
 subst e
 cases A with
 | cons r rr=>
   cases rr
   obtain ⟨t,rfl⟩:=r
   exact call_range_1 (HH v 0#r 0#r u z (by simpa using q))
def nV (hg:Gl X "range") (hm:X.mg "range"=none) (ha:PA X [a,b] ta) (hs:bf [a,b] X.env=[(false,eval a X.env),(false,eval b X.env)]:=by rfl) (hs2:bf [b] X.env=[(false,eval b X.env)]:=by rfl) :
 PI X tg (.Call (.Name "range" p) [a,b] [] pos) (PC ta):=-by
 intro n s E H R I h
 refine Call_ (sJ I hg hm boot_range (S4 (gP (ha pos n s E H _ I h) λus s1 ⟨vs,H1,v,D,u⟩=>?_) (by rw [hs,hs2]) (by rw [hs2];rfl)))
 obtain ⟨i,j,e,⟨u,z,A,B⟩,q⟩:=u
 subst e
 cases D with
 | cons r rr=>
   cases rr with
   | cons r' rr=>
     cases rr
     obtain ⟨t,rfl⟩:=r
     obtain ⟨t',rfl⟩:=r'
     exact call_range_2 (HH v u z A B q)
def aai (wi:TI) (g:TG) (tb:TS):TS:=λD σ H=>wi σ H λJ H1=>∃W:Nat->Nat->St->Hp->Prop,(∃m,W 0 m σ H1)/\∀i m σ H,W i m σ H ->
 (J.stop i H/\D.nx σ H)\/(J.go i H/\∃N:St->Hp->Prop,(∀σ' H',N σ' H'->∃m',m'<m/\W (i+1) m' σ' H')/\∀x H',J.OG i H x H'->g x σ H' λσ2 H2=>tb { D with nx:=N,ct:=N,bk:=D.nx } σ2 H2)
noncomputable def AI (fp:List af) (h:cA):List (af×Obj):=fp.filterMap λb=>(h.get? b).map λo=>(b,o)
def oN (hb:b∈fp) (e:h.get? b=some o):(b,o)∈AI fp h:=WO.mpr ⟨b,hb,by rw [e];rfl⟩
def NS (hp:p∈AI fp h):p.1∈fp/\h.get? p.1=some p.2:=-by
 obtain ⟨b,u,e⟩:=WO.mp hp
 cases q:h.get? b with
 | none=>rw [q] at e;cases e
 | some o=>
   rw [q] at e
   have n:(b,o)=p:=tO e
   subst n
   exact ⟨u,q⟩
def Inv.pinned {σ:St} (I:0#d) (hf:∀b∈fp,xS X pins H b) (ho:∀b∈fp,∃o,s.heap.get? b=some o/\∀v,o.data≠.cell v):Inv X (pins++AI fp s.heap) σ H s:=
 I.L7 λp hp=>(iw.mp hp).elim (λz=>I.pin p (B5 _ z)) λz=>by
  obtain ⟨hb,e⟩:=NS z
  obtain ⟨f0,f1,f2,_⟩:=hf p.1 hb
  obtain ⟨o,e',d⟩:=ho p.1 hb
  rw [e] at e';cases e'
  exact ⟨e,f0,f1,f2,d⟩
def Inv.qM {σ:St} (I:Inv X (pins++pl) σ H s):Inv X pins σ H s:=I.L7 λp hp=>I.pin p (B5 _ (HX _ hp))
def Kd {X:Cx} {tg:aW} {iter:aW} {body:List aO} {wi:TI} {g:TG} {tb:TS} {pos:Pos} (hp:M6 0#A X.A X.env X.xe) (hc:X.calm=true) (hi:PI X tg iter wi) (hg:PG X tg g) (hb:IF X body tb)
 (hs:∀x,Ge iter X.env x=pure x:=by intro _;rfl):PS X (.For tg iter body [] pos) (aai wi g tb):=-by
 intro p s σ H D I h
 refine wpAny_For (gP (hi p s σ H _ I h) λv s1 h1=>gP h1 λitv s2 h2=>?_) hs
 obtain ⟨it,R,tn,J,H2,e,I2,T,ag,f2,W,⟨m0,w0⟩,ac⟩:=h2
 subst e
  -- what stays true of the iterator's objects through the loop
 have O:∀{H':Hp},(∀b∈R,H' b=none)->∀b∈R,xS X p H' b:=λhn b hb=>⟨hn b hb,(f2 b hb).2⟩
 refine codeAny_forLoop_any (λn s'=>∃i σ' H',Inv X p σ' H' s'/\tn i s'.heap/\(∀b∈R,H' b=none)/\W i n σ' H') ?_ m0 ⟨0,σ,H2,I2,ag,λb hb=>(f2 b hb).1,w0⟩
 rintro n s3 ⟨i,L,H3,I3,Y,S,w3⟩
 rcases ac i n L H3 w3 with ⟨Z,qn⟩ | ⟨go,N,hN,step⟩
 ·refine BR hp (gP (T.done X rfl rfl rfl hc i p s3 L H3 X.xe I3 (O S) Y Z) λr s4 ⟨hr,I4⟩=>?_)
  subst hr
  exact ML ⟨L,H3,I4,qn⟩
 ·refine BR hp (gP (T.item X rfl rfl rfl hc i p s3 L H3 X.xe I3 (O S) Y go) λr s4 ⟨u,hr,h4⟩=>?_)
  subst hr
  refine BR hp (gP h4 λ_ s5 zz=>?_)
  obtain ⟨x,H5,I5,r5,y5,Q,ae⟩:=zz
  have ad:=I5.pinned (O ae) (T.obj _ _ Q)
  refine BR hp (gP (hg _ s5 L H5 x u _ ad r5 (step x H5 y5)) λ_ s6 ⟨ai,H6,I6,q6⟩=>?_)
  refine BR hp (gP (hb _ s6 ai H6 _ I6 q6) λf s7 M=>?_)
  have G:∀{E:St} {z:Hp},Inv X (p++AI R s5.heap) E z s7->N E z->∃m,m<n/\∃i σ' H',Inv X p σ' H' s7/\tn i s7.heap/\(∀b∈R,H' b=none)/\W i m σ' H':=λ{E z} B U=>by
   obtain ⟨m',hm,w7⟩:=hN E z U
   refine ⟨m',hm,i+1,E,z,B.qM,T.keep _ _ _ Q λb hb o e=>(B.pin (b,o) (B5 _ (B5 _ (oN hb e)))).1,λb hb=>?_,w7⟩
   obtain ⟨o,e,d⟩:=T.obj _ _ Q b hb
   exact (B.pin (b,o) (B5 _ (B5 _ (oN hb e)))).2.1
  cases f with
  | next=>obtain ⟨E,z,B,U⟩:=M;exact G B U
  | cont=>obtain ⟨E,z,B,U⟩:=M;exact G B U
  | brk=>obtain ⟨E,z,B,M⟩:=M;exact ⟨E,z,B.qM,M⟩
  | ret v=>obtain ⟨x7,E,z,B,r7,M⟩:=M;exact ⟨x7,E,z,B.qM,r7,M⟩
def fu {K:bJ} {a:af} {g:TG} {tb:TS} {D:Ends} {σ:St} {H:Hp} (Pv:Nat->St->Hp->Prop) (h0:Pv 0 σ H) (hl:∀i σ H,i<=xs.length->Pv i σ H->bw K H a xs)
 (hs:∀i x σ H,xs[i]?=some x->Pv i σ H->g x σ H λσ2 H2=>tb { D with nx:=Pv (i+1),ct:=Pv (i+1),bk:=D.nx } σ2 H2) (hd:∀σ H,Pv xs.length σ H->D.nx σ H) :
 ∃W:Nat->Nat->St->Hp->Prop,(∃m,W 0 m σ H)/\∀i m σ H,W i m σ H ->
  ((Yc K a).stop i H/\D.nx σ H)\/((Yc K a).go i H/\∃N:St->Hp->Prop,(∀σ' H',N σ' H'->∃m',m'<m/\W (i+1) m' σ' H')/\∀x H',(Yc K a).OG i H x H'->g x σ H' λσ2 H2=>tb { D with nx:=N,ct:=N,bk:=D.nx } σ2 H2):=-by
 refine ⟨λi m σ H=>m=xs.length-i/\i<=xs.length/\Pv i σ H,⟨xs.length,by simp,lY _,h0⟩,?_⟩
 rintro i m σ H ⟨rfl,n,p⟩
 have q:=hl i σ H n p
 by_cases hlt:i<xs.length
 ·refine .inr ⟨⟨xs,xs[i],q,by simp [hlt]⟩,Pv (i+1),λσ' H' u=>⟨xs.length-(i+1),by simp?,rfl,hlt,u⟩,λx H' y=>?_⟩
  obtain ⟨e,y⟩:=y
  subst e
  exact hs i x σ _ (y xs q) p
 ·have e:i=xs.length:=by simp?
  subst e
  exact .inl ⟨⟨xs,q,d8 _⟩,hd σ H p⟩
def T6 {K:bJ} {a:af} {g:TG} {tb:TS} {D:Ends} {σ:St} {H:Hp} (Pv:Nat->St->Hp->Prop) (h0:Pv 0 σ H) (hl:∀i σ H,i<=xs.length->Pv i σ H->ny K H a xs)
 (hs:∀i x σ H,xs[i]?=some x->Pv i σ H->g x σ H λσ2 H2=>tb { D with nx:=Pv (i+1),ct:=Pv (i+1),bk:=D.nx } σ2 H2) (hd:∀σ H,Pv xs.length σ H->D.nx σ H) :
 ∃W:Nat->Nat->St->Hp->Prop,(∃m,W 0 m σ H)/\∀i m σ H,W i m σ H ->
  ((Yd K a).stop i H/\D.nx σ H)\/((Yd K a).go i H/\∃N:St->Hp->Prop,(∀σ' H',N σ' H'->∃m',m'<m/\W (i+1) m' σ' H')/\∀x H',(Yd K a).OG i H x H'->g x σ H' λσ2 H2=>tb { D with nx:=N,ct:=N,bk:=D.nx } σ2 H2):=-by
 refine ⟨λi m σ H=>m=xs.length-i/\i<=xs.length/\Pv i σ H,⟨xs.length,by simp,lY _,h0⟩,?_⟩
 rintro i m σ H ⟨rfl,n,p⟩
 have q:=hl i σ H n p
 by_cases hlt:i<xs.length
 ·refine .inr ⟨⟨xs,xs[i],q,by simp [hlt]⟩,Pv (i+1),λσ' H' u=>⟨xs.length-(i+1),by simp?,rfl,hlt,u⟩,λx H' y=>?_⟩
  obtain ⟨e,y⟩:=y
  subst e
  exact hs i x σ _ (y xs q) p
 ·have e:i=xs.length:=by simp?
  subst e
  exact .inl ⟨⟨xs,q,d8 _⟩,hd σ H p⟩
def iK {lo:Int} {n:Nat} {g:TG} {tb:TS} {D:Ends} {H:Hp} (Pv:Nat->St->Hp->Prop) (h0:Pv 0 σ H)
 (hs:∀i σ H,i<n->Pv i σ H->g (.int (lo+i)) σ H λσ2 H2=>tb { D with nx:=Pv (i+1),ct:=Pv (i+1),bk:=D.nx } σ2 H2) (hd:∀σ H,Pv n σ H->D.nx σ H) :
 ∃W:Nat->Nat->St->Hp->Prop,(∃m,W 0 m σ H)/\∀i m σ H,W i m σ H ->
  ((S7 lo n).stop i H/\D.nx σ H)\/((S7 lo n).go i H/\∃N:St->Hp->Prop,(∀σ' H',N σ' H'->∃m',m'<m/\W (i+1) m' σ' H')/\∀x H',(S7 lo n).OG i H x H'->g x σ H' λσ2 H2=>tb { D with nx:=N,ct:=N,bk:=D.nx } σ2 H2):=-by
 refine ⟨λi m σ H=>m=n-i/\i<=n/\Pv i σ H,⟨n,by simp,lY _,h0⟩,?_⟩
 rintro i m σ H ⟨rfl,hi,p⟩
 by_cases hlt:i<n
 ·refine .inr ⟨hlt,Pv (i+1),λσ' H' u=>⟨n-(i+1),by simp?,rfl,hlt,u⟩,λx H' y=>?_⟩
  obtain ⟨e,y⟩:=y
  subst e y
  exact hs i σ _ hlt p
 ·have e:i=n:=by simp?
  subst e
  exact .inl ⟨d8 _,hd σ H p⟩
def uZ (Pv:St->Hp->Prop) (μ:St->Hp->Nat) (h0:Pv σ H)
 (hs:∀σ H,Pv σ H->c σ H λb H1=>if b=true then tb { D with nx:=λσ' H'=>Pv σ' H'/\μ σ' H'<μ σ H,ct:=λσ' H'=>Pv σ' H'/\μ σ' H'<μ σ H,bk:=D.nx } σ H1 else D.nx σ H1)
 (mono:∀σ H Q Q',(∀b H1,Q b H1->Q' b H1)->c σ H Q->c σ H Q'):BJ c tb D σ H:=-by
 refine ⟨λm σ H=>m=μ σ H/\Pv σ H,⟨_,rfl,h0⟩,?_⟩
 rintro m σ H ⟨rfl,p⟩
 refine mono σ H _ _ (λb H1 q=>?_) (hs σ H p)
 cases b with
 | true=>exact ⟨_,λσ' H' ⟨n,l⟩=>⟨_,l,rfl,n⟩,q⟩
 | false=>exact q
abbrev R2:=V->V->Hp->VK->Prop
def qY (X:Cx) (f:aE->aE->Sem aE) (r:R2):Prop:=
 ∀(pins:0#k) (s:aZ) (σ:St) (H:Hp) (x y:V) (v u:aE) (Q:VK),Inv X pins σ H s->RelV x v->RelV y u->r x y H Q ->
  bS 0#A X.A (f v u) (EP X pins σ Q) X.xe s
def UnR (X:Cx) (f:aE->Sem aE) (r:V->Hp->VK->Prop):Prop:=
 ∀(pins:0#k) (s:aZ) (σ:St) (H:Hp) (x:V) (v:aE) (Q:VK),Inv X pins σ H s->RelV x v->r x H Q ->
  bS 0#A X.A (f v) (EP X pins σ Q) X.xe s
def je (X:Cx) (f:aE) (r:0#m->Hp->VK->Prop):Prop:=
 ∀(pins:0#k) (s:aZ) (σ:St) (H:Hp) (xs:0#m) (us:List aE) (Q:VK),Inv X pins σ H s->Vals xs us->r xs H Q ->
  bS 0#A X.A (call f us) (EP X pins σ Q) X.xe s
def RH (r:R2) (ta tb:TE):TE:=λσ H Q=>ta σ H λx H1=>tb σ H1 λy H2=>r x y H2 Q
def tUn (r:V->Hp->VK->Prop) (ta:TE):TE:=λσ H Q=>ta σ H λx H1=>r x H1 Q
def rI (C:Int->Int->Prop) (g:Int->Int->V):R2:=λx y H Q=>∃i j,x=.int i/\y=.int j/\C i j/\Q (g i j) H
def U1 (g:Int->Int->V):R2:=λx y H Q=>∃i j,x=.int i/\y=.int j/\Q (g i j) H
def rU (g:Int->V):V->Hp->VK->Prop:=λx H Q=>∃i,x=.int i/\Q (g i) H
def Ym {X:Cx} {a b:aW} {ta tb:TE} (ha:PE X a ta) (hb:PE X b tb)  {s:aZ} {σ:St} {H:Hp} {R:V->V->Hp->Prop} (I:0#d)
 (h:ta σ H λx H1=>tb σ H1 λy H2=>R x y H2) {Q:aE->aZ->Prop} {f:aE->aE->Sem aE}
 (hf:∀v u s2 x y H2,Inv X pins σ H2 s2->RelV x v->RelV y u->R x y H2->bS 0#A X.A (f v u) Q X.xe s2) :
 bS 0#A X.A (eval a X.env) (λv s₁=>bS 0#A X.A (eval b X.env) (λu s₂=>bS 0#A X.A (f v u) Q X.xe s₂) X.xe s₁) X.xe s:=-by
 refine gP (ha pins s σ H _ I h) λv G ⟨x,H1,n,D,z⟩=>?_
 refine gP (hb pins G σ H1 _ n z) λu s2 ⟨y,H2,p,E,B⟩=>?_
 exact hf v u s2 x y H2 p D E B
def QD {X:Cx} {a b:aW} {ta tb:TE} {pos:Pos} {op:Operator} {r:R2} (ho:qY X (mH op) r) (ha:PE X a ta) (hb:PE X b tb):PE X (.BinOp a op b pos) (RH r ta tb):=-by
 intro n s E H Q I h
 exact wpAny_BinOp (Ym ha hb I h λv u D x y p z A B q=>ho n D E p x y v u Q z A B q)
def QF {X:Cx} {a:aW} {ta:TE} {pos:Pos} {op:UnaryOp} {r:V->Hp->VK->Prop} (ho:UnR X (unaryOp op) r) (ha:PE X a ta):PE X (.UnaryOp op a pos) (tUn r ta):=-by
 intro n s p H Q I h
 exact UnaryOp_ (gP (ha n s p H _ I h) λv D ⟨x,u,z,B,A⟩=>ho n D p u x v Q z B A)
def opI {g:Int->Int->Int}
 (rule:∀(i j:Int) (t u:Tok) (s:aZ) (Q:aE->aZ->Prop) (E:aE->aZ->Prop),C i j->Q (.int (g i j) s.toks) { s with toks:=s.toks+1 }->bS 0#A X.A (f (.int i t) (.int j u)) Q E s) :
 qY X f (rI C λi j=>.int (g i j)):=-by
 intro pins s σ H x y v u Q I p z h
 obtain ⟨i,j,rfl,rfl,n,q⟩:=h
 obtain ⟨t,rfl⟩:=p
 obtain ⟨B,rfl⟩:=z
 exact rule i j t B s _ _ n ⟨.int (g i j),H,I.tok _,⟨_,rfl⟩,q⟩
def abl {g:Int->Int->Int}
 (rule:∀(i j:Int) (t u:Tok) (s:aZ) (Q:aE->aZ->Prop) (E:aE->aZ->Prop),Q (.int (g i j) s.toks) { s with toks:=s.toks+1 }->bS 0#A X.A (f (.int i t) (.int j u)) Q E s) :
 qY X f (U1 λi j=>.int (g i j)):=-by
 intro pins s σ H x y v u Q I n p h
 obtain ⟨i,j,rfl,rfl,q⟩:=h
 obtain ⟨t,rfl⟩:=n
 obtain ⟨z,rfl⟩:=p
 exact rule i j t z s _ _ ⟨.int (g i j),H,I.tok _,⟨_,rfl⟩,q⟩
def UO {g:Int->Int->Bool}
 (rule:∀(i j:Int) (t u:Tok) (s:aZ) (Q:aE->aZ->Prop) (E:aE->aZ->Prop),Q (.bool (g i j)) s->bS 0#A X.A (f (.int i t) (.int j u)) Q E s) :
 qY X f (U1 λi j=>.bl (g i j)):=-by
 intro pins s σ H x y v u Q I n p h
 obtain ⟨i,j,rfl,rfl,q⟩:=h
 obtain ⟨t,rfl⟩:=n
 obtain ⟨z,rfl⟩:=p
 exact rule i j t z s _ _ ⟨.bl (g i j),H,I,rfl,q⟩
def aav (i j:Int):Prop:=0<=j/\j<=1000000/\i.natAbs<2 ^ 64
def Th (i j:Int):Prop:=(-(2 ^ 64)<i/\i<2 ^ 64)\/(-(2 ^ 64)<j/\j<2 ^ 64)
def Th.ok (h:Th i j):IntMulOk i j:=-by
 rcases h with ⟨n,p⟩ | ⟨n,p⟩
 ·exact .of_left (Xo n p)
 ·exact .of_right (Xo n p)
def K8 (k:Nat):(0:Int)<=2 ^ k:=-by
 rw [two_pow_cast]
 exact Ia _
def cE:qY X (mH .Add) (U1 λi j=>.int (i+j)):=abl λ_ _ _ _ _ _ _ q=>add_int q
def cF:qY X (mH .Sub) (U1 λi j=>.int (i-j)):=abl λ_ _ _ _ _ _ _ q=>sub_int q
def iY:qY X (mH .Mod) (rI (λ_ j=>0<j) λi j=>.int (i % j)):=opI λi j _ _ _ _ _ hc q=>by
 have h1:(0:Int)<j:=hc
 exact mod_int' 0#r (by rw [Int.fmod_eq_emod_of_nonneg i 0#r];exact q)
def sQ:qY X (mH .Pow) (rI aav λi j=>.int (i ^ j.toNat)):=opI λ_ _ _ _ _ _ _ hc q=>pow_int_small hc.1 hc.2.1 hc.2.2 q
def Qu:qY X (mH .RShift) (rI (λ_ j=>0<=j) λi j=>.int (i/2 ^ j.toNat)):=opI λi j _ _ _ _ _ hc q=>
 rshift_int hc (by rw [B3 i (K8 _)];exact q)
def unI {g:Int->Int}
 (rule:∀(i:Int) (t:Tok) (s:aZ) (Q:aE->aZ->Prop) (E:aE->aZ->Prop),Q (.int (g i) s.toks) { s with toks:=s.toks+1 }->bS 0#A X.A (f (.int i t)) Q E s) :
 UnR X f (rU λi=>.int (g i)):=-by
 intro pins s σ H x v Q I n h
 obtain ⟨i,rfl,q⟩:=h
 obtain ⟨t,rfl⟩:=n
 exact rule i t s _ _ ⟨.int (g i),H,I.tok _,⟨_,rfl⟩,q⟩
def fM:UnR X (unaryOp .USub) (rU λi=>.int (-i)):=unI λ_ _ _ _ _ q=>neg_int q
noncomputable def Ve:V->V->Bool
 | .bG,.bG=>true | .bG,.int _=>true | .int _,.bG=>true | .bG,.bl _=>true | .bl _,.bG=>true | .bG,.str _=>true | .str _,.bG=>true
 | .int _,.int _=>true | .bl _,.bl _=>true | .str _,.str _=>true | .Ov _,.Ov _=>true
 | .int _,.str _=>true | .str _,.int _=>true | .bl _,.str _=>true | .str _,.bl _=>true
 | _,_=>false
def rEq:R2:=λx y H Q=>Ve x y=true/\Q (.bl (decide (x=y))) H
def rNe:R2:=λx y H Q=>Ve x y=true/\Q (.bl (!decide (x=y))) H
def Lu:decide (V.int i=V.int j)=(i==j):=-by
 rw [DC]
 simp
def O1:decide (V.bl i=V.bl j)=(i==j):=-by
 rw [DC]
 simp
def Lv:decide (V.str i=V.str j)=(i==j):=-by
 rw [DC]
 simp
def Lr:decide (V.Ov i=V.Ov j)=(i.toList==j.toList):=-by
 rw [DC]
 cases i
 cases j
 simp
def b9 {σ:St} (I:0#d) (q:Q (.bl k) H) (e:k=k'):EP X pins σ Q (.bool k') s:=-by
 subst e
 exact ⟨.bl k,H,I,rfl,q⟩
def cX:qY X (pQ .Eq) rEq:=-by
 intro pins s σ H x y v u Q I A n h
 obtain ⟨z,q⟩:=h
 cases x with
 | bG=>
   cases A
   cases y with
   | bG=>cases n;exact acn (b9 I q 0#t)
   | bl j=>cases n;exact aco (b9 I q 0#t)
   | int j=>obtain ⟨p,rfl⟩:=n;exact acz (b9 I q 0#t)
   | str j=>obtain ⟨p,rfl⟩:=n;exact acA (b9 I q 0#t)
   | _=>exact absurd (show false=true from z) nv
 | bl i=>
   cases A
   cases y with
   | bG=>cases n;exact acp (b9 I q 0#t)
   | bl j=>cases n;exact eq_bool (b9 I q O1)
   | str j=>obtain ⟨p,rfl⟩:=n;exact acq (b9 I q 0#t)
   | _=>exact absurd (show false=true from z) nv
 | int i=>
   obtain ⟨t,rfl⟩:=A
   cases y with
   | bG=>cases n;exact acB (b9 I q 0#t)
   | int j=>obtain ⟨p,rfl⟩:=n;exact eq_int (b9 I q Lu)
   | str j=>obtain ⟨p,rfl⟩:=n;exact acC (b9 I q 0#t)
   | _=>exact absurd (show false=true from z) nv
 | str i=>
   obtain ⟨t,rfl⟩:=A
   cases y with
   | bG=>cases n;exact acD (b9 I q 0#t)
   | bl j=>cases n;exact acr (b9 I q 0#t)
   | int j=>obtain ⟨p,rfl⟩:=n;exact acE (b9 I q 0#t)
   | str j=>obtain ⟨p,rfl⟩:=n;exact eq_str (b9 I q Lv)
   | _=>exact absurd (show false=true from z) nv
 | Ov i=>
   obtain ⟨t,rfl⟩:=A
   cases y with
   | Ov j=>obtain ⟨p,rfl⟩:=n;exact PySem.W.eq_bytes (b9 I q Lr)
   | _=>exact absurd (show false=true from z) nv
 | _=>cases y <;> exact absurd (show false=true from z) nv
def xm:qY X (pQ .NotEq) rNe:=-by
 intro pins s σ H x y v u Q I A n h
 obtain ⟨z,q⟩:=h
 cases x with
 | bG=>
   cases A
   cases y with
   | bG=>cases n;exact acs (b9 I q 0#t)
   | bl j=>cases n;exact acu (b9 I q 0#t)
   | int j=>obtain ⟨p,rfl⟩:=n;exact acF (b9 I q 0#t)
   | str j=>obtain ⟨p,rfl⟩:=n;exact acG (b9 I q 0#t)
   | _=>exact absurd (show false=true from z) nv
 | bl i=>
   cases A
   cases y with
   | bG=>cases n;exact acv (b9 I q 0#t)
   | bl j=>cases n;exact ne_bool (b9 I q (congrArg not O1))
   | str j=>obtain ⟨p,rfl⟩:=n;exact acw (b9 I q 0#t)
   | _=>exact absurd (show false=true from z) nv
 | int i=>
   obtain ⟨t,rfl⟩:=A
   cases y with
   | bG=>cases n;exact acH (b9 I q 0#t)
   | int j=>obtain ⟨p,rfl⟩:=n;exact ne_int (b9 I q (congrArg not Lu))
   | str j=>obtain ⟨p,rfl⟩:=n;exact acI (b9 I q 0#t)
   | _=>exact absurd (show false=true from z) nv
 | str i=>
   obtain ⟨t,rfl⟩:=A
   cases y with
   | bG=>cases n;exact acJ (b9 I q 0#t)
   | bl j=>cases n;exact acy (b9 I q 0#t)
   | int j=>obtain ⟨p,rfl⟩:=n;exact acK (b9 I q 0#t)
   | str j=>obtain ⟨p,rfl⟩:=n;exact ne_str (b9 I q (congrArg not Lv))
   | _=>exact absurd (show false=true from z) nv
 | Ov i=>
   obtain ⟨t,rfl⟩:=A
   cases y with
   | Ov j=>obtain ⟨p,rfl⟩:=n;exact PySem.W.ne_bytes (b9 I q (congrArg not Lr))
   | _=>exact absurd (show false=true from z) nv
 | _=>cases y <;> exact absurd (show false=true from z) nv
def qo:qY X (pQ .Lt) (U1 λi j=>.bl (decide (i<j))):=UO λ_ _ _ _ _ _ _ q=>lt_int q
def LY:qY X (pQ .LtE) (U1 λi j=>.bl (decide (i<=j))):=UO λ_ _ _ _ _ _ _ q=>le_int q
def fF:qY X (pQ .Gt) (U1 λi j=>.bl (decide (j<i))):=UO λ_ _ _ _ _ _ _ q=>gt_int q
def HE:qY X (pQ .GtE) (U1 λi j=>.bl (decide (j<=i))):=UO λ_ _ _ _ _ _ _ q=>ge_int q
def EF:qY X (pQ .Is) (λx y H Q=>y=.bG/\Q (.bl (decide (x=.bG))) H):=-by
 intro pins s σ H x y v u Q I n p h
 obtain ⟨rfl,q⟩:=h
 cases p
 refine is_none_gen (b9 I q ?_)
 cases x <;> first
  | (cases n;rfl)
  | (obtain ⟨t,rfl⟩:=n;rfl)
def kG:qY X (pQ .IsNot) (λx y H Q=>y=.bG/\Q (.bl (!decide (x=.bG))) H):=-by
 intro pins s σ H x y v u Q I n p h
 obtain ⟨rfl,q⟩:=h
 cases p
 refine isnot_none_gen (b9 I q ?_)
 cases x <;> first
  | (cases n;rfl)
  | (obtain ⟨t,rfl⟩:=n;rfl)
def aD (b:aW)  (h:op≠.In:=by decide) (h2:op≠.NotIn:=by decide):behindInMarks op b=false:=-by
 have e1:(op==CmpOp.In)=false:=by cases op <;> first | rfl | exact absurd rfl h
 have e2:(op==CmpOp.NotIn)=false:=by cases op <;> first | rfl | exact absurd rfl h2
 cases b <;> simp [behindInMarks,e1,e2]
def EH {X:Cx} {a b:aW} {ta tb:TE} {pos:Pos} {op:CmpOp} {r:R2} (ho:qY X (pQ op) r) (ha:PE X a ta) (hb:PE X b tb) (hm:behindInMarks op b=false):PE X (.Compare a [op] [b] pos) (RH r ta tb):=-by
 intro n s E H Q I h
 exact wpAny_Compare1 (Ym ha hb I h λv u D x y p z A B q=>ho n D E p x y v u Q z A B q) hm
def RJ (t:TE):TT:=λσ H Q=>t σ H λx H'=>∃k,x=.bl k/\Q k H'
def ES {X:Cx} {a b:aW} {ta tb:TE} {pos:Pos} {op:CmpOp} {r:R2} (ho:qY X (pQ op) r) (ha:PE X a ta) (hb:PE X b tb) (hm:behindInMarks op b=false):PT X (.Compare a [op] [b] pos) (RJ (RH r ta tb)):=-by
 intro n s p H Q I h
 refine wpAny_isTrue_Compare1 (gP (ha n s p H _ I h) λv U ⟨x,A,E,O,L⟩=>gP (hb n U p A _ E L) λu Y ⟨y,B,G,R,M⟩=>
  gP (ho n Y p B x y v u _ G O R M) λc s3 ⟨z,D,J,S,k,e,N⟩=>?_) hm
 subst e
 cases S
 exact MC ⟨D,J,N⟩
def Ej:(sizeLine:Nat)<2 ^ 63:=by rw [sizeLine_eq];decide
def vals1 (r:Vals [x] us):∃u,us=[u]/\RelV x u:=-by
 cases r with
 | cons r1 r2=>cases r2;exact ⟨_,rfl,r1⟩
def vals2 (r:Vals [x,y] us):∃u w',us=[u,w']/\RelV x u/\RelV y w':=-by
 cases r with
 | cons r1 r2=>
   cases r2 with
   | cons r3 r4=>cases r4;exact ⟨_,_,rfl,r1,r3⟩
def OT:je X (.builtin "abs") (λxs H Q=>∃i,xs=[.int i]/\Q (.int (if i<0 then -i else i)) H):=-by
 intro pins s σ H xs us Q I r h
 obtain ⟨i,rfl,q⟩:=h
 obtain ⟨u,rfl,t,rfl⟩:=vals1 r
 exact call_abs_int λu tk=>⟨.int (if i<0 then -i else i),H,I.tok _,⟨_,rfl⟩,q⟩
def Nf (hc:X.calm=true):je X (.builtin "max") (λxs H Q=>∃i j,xs=[.int i,.int j]/\Q (.int (if j>i then j else i)) H):=-by
 intro pins s σ H xs us Q I r h
 obtain ⟨i,j,rfl,q⟩:=h
 obtain ⟨u,w',rfl,⟨t,rfl⟩,⟨t',rfl⟩⟩:=vals2 r
 refine max_two_ints (I.ok.hd hc) λh' tk k=>⟨_,H,I.kept k,?_,q⟩
 by_cases hj:j>i
 ·rw [if_pos hj,if_pos hj];exact ⟨_,rfl⟩
 ·rw [if_neg hj,if_neg hj];exact ⟨_,rfl⟩
def Ng (hc:X.calm=true):je X (.builtin "min") (λxs H Q=>∃i j,xs=[.int i,.int j]/\Q (.int (if j<i then j else i)) H):=-by
 intro pins s σ H xs us Q I r h
 obtain ⟨i,j,rfl,q⟩:=h
 obtain ⟨u,w',rfl,⟨t,rfl⟩,⟨t',rfl⟩⟩:=vals2 r
 refine min_two_ints (I.ok.hd hc) λh' tk k=>⟨_,H,I.kept k,?_,q⟩
 by_cases hj:j<i
 ·rw [if_pos hj,if_pos hj];exact ⟨_,rfl⟩
 ·rw [if_neg hj,if_neg hj];exact ⟨_,rfl⟩
def qZ:je X (.type "int") (λxs H Q=>(∃i,xs=[.int i]/\Q (.int i) H)\/∃k,xs=[.bl k]/\Q (.int (if k then 1 else 0)) H):=-by
 intro pins s σ H xs us Q I r h
 rcases h with ⟨i,rfl,q⟩ | ⟨k,rfl,q⟩
 ·obtain ⟨u,rfl,t,rfl⟩:=vals1 r
  exact call_int_int ⟨.int i,H,I,⟨_,rfl⟩,q⟩
 ·obtain ⟨u,rfl,n⟩:=vals1 r
  cases n
  exact call_int_bool ⟨.int (if k then 1 else 0),H,I.tok _,⟨_,rfl⟩,q⟩
structure IU (h:cA) (x dx C:af) (mA:0#h):Prop where
 obj:h.get? x=some (xB C dx)
 ns:h.Ns1 dx mA
 ne:dx≠x
def NP {h:cA} (n:h.Ns1 dx mA):∃od,h.get? dx=some od/\∀name,MQ name od=some (mA name):=-by
 obtain ⟨o,es,ep,D,v,A,_,B⟩:=n
 refine ⟨o,D,λname=>?_⟩
 have e:=B name
 unfold nsFind findBy at e
 rw [<- Array.find?_toList] at e
 unfold MQ
 rw [v]
 dsimp only
 split
 ·rename_i y q
  rw [q] at e
  exact congrArg some e
 ·rename_i q
  rw [q] at e
  have a:es.toList.any (·.refKey)=false:=by
   rw [List.any_eq_false]
   intro y E
   obtain ⟨z,t,p⟩:=A y (Array.mem_toList_iff.mp E)
   simp [DictEntry.refKey,p]
  have u:¬es.toList.any (·.refKey)=true:=by rw [a];exact nv
  rw [if_neg u]
  exact congrArg some e
def IU.look (I:IU h x dx C mA):∃od,PySem.W.InstAt h x (xB C dx) C (some od)/\∀name,MQ name od=some (mA name):=
 let ⟨od,ho,hl⟩:=NP I.ns
 ⟨od,⟨I.obj,rfl,rfl,ho⟩,hl⟩
def get_map {K:bJ} (X:K.In s.heap) (I:IU s.heap x dx C mA) (hg:DB K C name=true) (hh:Ig K C=true)
 (ha:jF K (.ref C) name=some none) (hv:mA name=some v) (hv':W6 v=true) (h:Q v { s with toks:=s.toks+1 }) :
 bS (model prog w) A (getAttr (.ref x) name expr) Q E s:=-by
 obtain ⟨od,J,n⟩:=I.look
 exact PySem.W.get_value X J (Sd hg).1 (PySem.W.findObj_own hh ha rfl (by rw [n,hv])) hv' h
def Pe {K:bJ} (X:K.In s.heap) (I:IU s.heap x dx C mA) (hg:DB K C name=true)
 (hf:jF K (.ref C) name=some (some (.ref f))) (ht:xG K (.ref f)=true) (hv:mA name=none) (h:Q (.ref f,[.ref x]) s) :
 bS (model prog w) A (getMethod (.ref x) name pl) Q E s:=-by
 obtain ⟨p,J,n⟩:=I.look
 exact PySem.W.method_fn X J (Sd hg).1 (Sd hg).2 hf (rY.mp ht) (by show (MQ name p).map (·.isSome)=some false;rw [n,hv];rfl) h
def Vf {K:bJ} (X:K.In s.heap) (I:IU s.heap x dx C mA)
 (hs:jF K (.ref C) "__setattr__"=some (some (.builtin "object.__setattr__"))) (hp:MD K C=true) (ht:Sn K C name=some none) (hh:Ig K C=true)
 (hw:Sy mA ns) (hsz:ns.length<=sizeLine)
 (h:∀h',IU h' x dx C (λy=>if y=name then some v else mA y)->DJ dx s.heap h'->Q () { s with heap:=h',toks:=s.toks+2 }) :
 bS (model prog w) A (setAttr (.ref x) name v) Q E s:=-by
 obtain ⟨od,J,hl⟩:=I.look
 refine PySem.W.set_plain X J hs (PySem.W.osa_open (s:={ s with toks:=s.toks+1 }) (r:=none) X J hp ht λb=>?_)
 obtain ⟨cd,G,z⟩:=PySem.W.any_some hh
 have H:s.heap.get? x=some ⟨.ref C,some dx,.plain,#[]⟩:=I.obj
 refine fO (nu (fO (fO (wpAny_loadPart H (fO (ac0 (s:={ s with toks:=s.toks+1 }) (PySem.W.looks_clsIn X G) ?_))))))
 rw [z]
 refine nu (a:=some dx) (fO (nu (fO ?_)))
 refine wpAny_nsSet1 (s:={ s with toks:=s.toks+1 }) I.ns λh' n p=>?_
 obtain ⟨oD,esD,epD,D,B,u⟩:=n.count (ac4 name v hw)
 refine fO (wpAny_lookBehind D (by rw [B];exact pastItsLine_dict (iy u (by rw [BO];simp?))) ?_)
 exact nu (h _ ⟨(p.2 _ (jS I.ne)).trans I.obj,n,I.ne⟩ p)
def PX {s:aZ} {K:bJ} (X:K.In s.heap) (hm:MM K C=true)
 (hi:jF K (.ref C) "__init__"=some (some (.ref f))) (hf:PySem.W.typeIn K (.ref f)=some (.type "function"))
 (h:xN (model prog w) (A.under (.builtin "type.__call__" ⟨.ref C::vs,kw⟩)) (.call (.ref f) ⟨.ref (s.heap.objs.size+1)::vs,kw⟩) (PySem.W.InitBack (s.heap.objs.size+1) R)
   { s with heap:=(s.heap.push Gf).push (xB C s.heap.objs.size) }) :
 xN (model prog w) A (.call (.ref C) ⟨vs,kw⟩) R s:=-by
 obtain ⟨hh,g,d,t,os⟩:=s
 exact PySem.W.make_core (PySem.W.makes_of X hm) (PySem.W.looks_findIn X hi) (λself=>PySem.W.bind_fn X self hf) (.inl rfl) h
noncomputable def av (f:Str) (v:V):List (Str×V)->List (Str×V)
 | []=>[(f,v)]
 | (g,x)::r=>if g=f then (g,v)::r else (g,x)::av f v r
def xg (f g:Str) (v:V):∀fs:List (Str×V),(av f v fs).lookup g=if g=f then some v else fs.lookup g
 | []=>by
   show BX g [(f,v)]=_
   by_cases h:g=f
   ·have hb:(g==f)=true:=rY.mpr h
    simp only [BX,hb,if_pos h]
   ·have hb:(g==f)=false:=Mw.mpr h
    simp only [BX,hb,if_neg h]
 | (k,x)::r=>by
   have ih:=xg f g v r
   rw [show av f v ((k,x)::r)=(if k=f then (k,v)::r else (k,x)::av f v r) from rfl]
   by_cases hk:k=f
   ·rw [if_pos hk]
    by_cases h:g=k
    ·have hb:(g==k)=true:=rY.mpr h
     simp only [BX,hb,if_pos (h.trans hk)]
    ·have hb:(g==k)=false:=Mw.mpr h
     simp only [BX,hb,if_neg (λe:g=f=>h (e.trans hk.symm))]
   ·rw [if_neg hk]
    by_cases h:g=k
    ·have hb:(g==k)=true:=rY.mpr h
     simp only [BX,hb,if_neg (λe:g=f=>hk (h.symm.trans e))]
    ·have hb:(g==k)=false:=Mw.mpr h
     simp only [BX,hb]
     exact ih
def vE (f:Str) (v:V):∀fs:List (Str×V),f∈(av f v fs).map (·.1)/\∀g,g∈fs.map (·.1)->g∈(av f v fs).map (·.1)
 | []=>⟨by simp [av],λg h=>by simp at h⟩
 | (k,x)::r=>by
   obtain ⟨i1,i2⟩:=vE f v r
   rw [show av f v ((k,x)::r)=(if k=f then (k,v)::r else (k,x)::av f v r) from rfl]
   by_cases hk:k=f
   ·rw [if_pos hk]
    subst hk
    exact ⟨by simp,λg h=>by simpa using h⟩
   ·rw [if_neg hk]
    refine ⟨?_,λg h=>?_⟩
    ·rw [xF]
     exact CQ _ i1
    ·rw [xF] at h ⊢
     rcases jG.mp h with e | e
     ·exact jG.mpr (.inl e)
     ·exact CQ _ (i2 g e)
def wZ (f:Str) (v:V):∀fs:List (Str×V),(av f v fs).length<=fs.length+1
 | []=>by simp [av]
 | (k,x)::r=>by
   have ih:=wZ f v r
   rw [show av f v ((k,x)::r)=(if k=f then (k,v)::r else (k,x)::av f v r) from rfl]
   by_cases hk:k=f
   ·rw [if_pos hk,BO,BO];simp?
   ·rw [if_neg hk,BO,BO];simp?
def Cd.some_of (r:Cd (some v) o):∃u,o=some u/\RelV v u:=-by
 cases o with
 | none=>exact (show False from r).elim
 | some u=>exact ⟨u,rfl,r⟩
def Cd.none_of (r:Cd none o):o=none:=-by
 cases o with
 | none=>rfl
 | some u=>exact (show False from r).elim
def NB (r:RelV v u):W6 u=true:=-by
 cases v with
 | bG=>cases (show u=Value.none from r);rfl
 | bl b=>cases (show u=Value.bool b from r);rfl
 | int i=>obtain ⟨t,e⟩:=(show ∃t,u=Value.int i t from r);cases e;rfl
 | str x=>obtain ⟨t,e⟩:=(show ∃t,u=Value.str x t from r);cases e;rfl
 | Ov b=>obtain ⟨t,e⟩:=(show ∃t,u=Value.bytes b t from r);cases e;rfl
 | YM b=>obtain ⟨t,e⟩:=(show ∃t,u=Value.float b t from r);cases e;rfl
 | ref a=>cases (show u=Value.ref a from r);rfl
 | ty n=>cases (show u=Value.type n from r);rfl
def yI (hok:vf P w H h) (e:H a=some (.ins C dx fs)):∃mA,IU h a dx C mA/\(∀f,Cd (fs.lookup f) (mA f))/\Sy mA (fs.map (·.1))/\fs.length<=1000/\H dx=some (.own a):=-by
 obtain ⟨d,z,ne,p,mA,n,r,q⟩:=(show fm P w H h a (.ins C dx fs) from hok a _ e)
 exact ⟨mA,⟨p,n,ne⟩,r,q,z,d⟩
structure IK (K:bJ) (C:af):Prop where
 pg:DB K C S3=true
 hd:Ig K C=true
 po:MD K C=true
 sa:jF K (.ref C) "__setattr__"=some (some (.builtin "object.__setattr__"))
def IK.get {K:bJ} (c:IK K C) (f:Str):DB K C f=true:=c.pg
def mT (K:bJ) (C:af) (f:Str):Prop:=jF K (.ref C) f=some none
def mT.ab4 {K:bJ} (n:mT K C f):Sn K C f=some none:=-by
 unfold Sn
 rw [show jF K (.ref C) f=some none from n]
 rfl
structure Meth (K:bJ) (C:af) (m:Str) (f:af):Prop where
 at_:jF K (.ref C) m=some (some (.ref f))
 fn:xG K (.ref f)=true
 kp:ve K (.ref f)=true
def Ji {σ:St} (I:0#d) (e:H a=some (.ins C dx fs)) (c:IK X.K C) (n:mT X.K C f) (l:fs.lookup f=some v)
 (h:∀u s',Inv X pins σ H s'->RelV v u->Q u s'):bS 0#A A (getAttr (.ref a) f b) Q E s:=-by
 obtain ⟨B,O,r,_,_,_⟩:=yI I.hok e
 obtain ⟨u,z,p⟩:=Cd.some_of (v:=v) (o:=B f) (by rw [<- l];exact r f)
 exact get_map I.yb O (c.get f) c.hd n z (NB p) (h u _ (I.tok _) p)
def zR {σ:St} (I:0#d) (e:H a=some (.ins C dx fs)) (c:IK X.K C) (k:Meth X.K C m g) (l:fs.lookup m=none)
 (h:Q (.ref g,[.ref a]) s):bS 0#A A (getMethod (.ref a) m pl) Q E s:=-by
 obtain ⟨p,O,r,_,_,_⟩:=yI I.hok e
 have n:p m=none:=Cd.none_of (by rw [<- l];exact r m)
 exact Pe I.yb O (c.get m) k.at_ k.fn n h
def KH {σ:St} (I:0#d) (e:H a=some (.ins C dx fs)) (c:IK X.K C) (n:mT X.K C f) (hl:fs.length<1000) (ry:RelV y u)
 (h:∀s',Inv X pins σ (upd H a (.ins C dx (av f y fs))) s'->Q () s'):bS 0#A A (setAttr (.ref a) f u) Q E s:=-by
 obtain ⟨B,O,r,D,_,v⟩:=yI I.hok e
 have N:(fs.map (·.1)).length<=sizeLine:=by rw [iR,sizeLine_eq];simp?
 refine Vf I.yb O c.sa c.po n.ab4 c.hd D N λG p R=>h _ ?_
 have L:∃o,G.get? dx=some o:=let ⟨o,_,_,e',_⟩:=p.ns;⟨o,e'⟩
 refine I.write (x:=a) (e:=dx) (by rw [e];exact True.intro) (.inr v) (λb q J z=>(R.2 b J).trans z) L ?_
 refine ⟨by rw [aJ O.ne];exact v,?_,O.ne,p.obj,_,p.ns,λg=>?_,λg M=>?_⟩
 ·have:=wZ f y fs;simp?
 ·show Cd ((av f y fs).lookup g) (if g=f then some u else B g)
  rw [xg]
  by_cases q:g=f
  ·rw [if_pos q,if_pos q];exact ry
  ·rw [if_neg q,if_neg q];exact r g
 ·by_cases q:g=f
  ·rw [q];exact (vE f y fs).1
  ·refine (vE f y fs).2 g (D g λz=>M ?_)
   show (if g=f then some u else B g)=none
   rw [if_neg q];exact z
def Inv.made {σ:St} (I:0#d):Inv X pins σ (upd (upd H s.heap.objs.size (.own (s.heap.objs.size+1))) (s.heap.objs.size+1) (.ins C s.heap.objs.size []))
 { s with heap:=(s.heap.push Gf).push (xB C s.heap.objs.size) }:=-by
 have e1:(s.heap.push Gf).get? s.heap.objs.size=some Gf:=Gb s.heap rfl
 have e2:((s.heap.push Gf).push (xB C s.heap.objs.size)).get? (s.heap.objs.size+1)=some (xB C s.heap.objs.size):=by
  have:=Gb (s.heap.push Gf) (o:=xB C s.heap.objs.size) rfl
  rwa [Xk] at this
 have e3:(s.heap.push Gf).Ns s.heap.objs.size (λ_=>none):=⟨Gf,#[],_,e1,rfl,(λe p=>absurd p 0#t),λ_=>rfl⟩
 have n:=I.laid (a:=s.heap.objs.size) (o:=.own (s.heap.objs.size+1)) (h':=s.heap.push Gf) (t':=s.toks) (λb u q=>oA _ q) (d8 _) ⟨_,e1⟩
 refine n.laid (a:=s.heap.objs.size+1) (o:=.ins C s.heap.objs.size []) (t':=s.toks) (λb u q=>oA _ q) (Xy (Xk _ _)) ?_
 have ne:s.heap.objs.size≠s.heap.objs.size+1:=lU (W7 _)
 refine ⟨by rw [aJ ne,au],lY _,ne,e2,λ_=>none,(Heap.Ns1.of_empty e3).at λo q=>oA _ q,λ_=>True.intro,λy v=>absurd rfl v⟩
def Tz (hb:tQ e f env (eval e env)=eval e env)
 (h:bS (model prog w) A (eval e env) (λo s₁=>bS (model prog w) A (getAttr o f true) Q E s₁) E s):bS (model prog w) A (eval (.Attribute e f pos) env) Q E s:=
 Attribute_any_ h (by rw [arm_eval_Attribute,hb])
def aah (K:bJ) (ta:TE) (f:Str):TE:=λσ H Q=>ta σ H λx H1=>∃a C dx fs v,x=.ref a/\H1 a=some (.ins C dx fs)/\IK K C/\mT K C f/\fs.lookup f=some v/\Q v H1
def aab (K:bJ) (ta tv:TE) (f:Str):TS:=λD σ H=>tv σ H λy H1=>ta σ H1 λx H2=>∃a C dx fs,x=.ref a/\H2 a=some (.ins C dx fs)/\IK K C/\mT K C f/\fs.length<1000 /\
 D.nx σ (upd H2 a (.ins C dx (av f y fs)))
def JZ {X:Cx} {e:aW} {f:Str} {pos:Pos} {ta:TE} (he:PE X e ta) (hb:tQ e f X.env (eval e X.env)=eval e X.env):PE X (.Attribute e f pos) (aah X.K ta f):=-by
 intro p s M H Q I h
 refine Tz hb (gP (he p s M H _ I h) λu s1 L=>?_)
 obtain ⟨x,z,A,J,a,C,dx,fs,v,E,D,c,n,l,q⟩:=L
 subst E
 obtain rfl:u=Value.ref a:=J
 exact Ji A D c n l λu' s2 B G=>⟨v,z,B,G,q⟩
def Kc {X:Cx} {o value:aW} {f:Str} {pos pos':Pos} {ta tv:TE} (ha:PE X o ta) (hv:PE X value tv) (hs:kr value (some (.Attribute o f pos')) pos.line X.env=pure false):PS X (.Assign [.Attribute o f pos'] value pos) (aab X.K ta tv f):=-by
 intro p s v H D I h
 refine plainObj_wpAny_Assign_Attribute (gP (hv p s v H _ I h) λu Q ⟨y,z,A,O,q⟩=>gP (ha p Q v z _ A q) λL s2 R=>?_) hs
 obtain ⟨x,H2,B,N,a,C,dx,fs,J,G,c,n,l,M⟩:=R
 subst J
 obtain rfl:L=Value.ref a:=N
 exact KH B G c n l O λs3 E=>⟨v,_,E,M⟩
inductive tY (K:bJ) (H:Hp):V->aE->Prop where
 | bG:tY K H .bG (.type "NoneType")
 | bl (x:Bool):tY K H (.bl x) (.type "bool")
 | int (i:Int):tY K H (.int i) (.type "int")
 | str (x:Str):tY K H (.str x) (.type "str")
 | YM (x:UInt64):tY K H (.YM x) (.type "float")
 | lst {a:af} {xs:0#m} (e:H a=some (.lst xs)):tY K H (.ref a) (.type "list")
 | LG {a:af} {o:Obj} {xs:0#m} (e:H a=some (.LG o (.lst xs))):tY K H (.ref a) (.type "list")
 | tup {a:af} {xs:0#m} (e:H a=some (.tup xs)):tY K H (.ref a) (.type "tuple")
 | dK {a:af} {kvs:List (Key×V)} (e:H a=some (.dK kvs)):tY K H (.ref a) (.type "dict")
 | dT {a:af} {kvs:List (List Key×V)} (e:H a=some (.dT kvs)):tY K H (.ref a) (.type "dict")
 | ins {a C dx:af} {fs:List (Str×V)} (e:H a=some (.ins C dx fs)) (cl:IK K C) (ha:jF K (.ref C) "__class__"=some (some (.builtin "object.__class__")))
  (hn:PySem.W.specialIn K (.builtin "object.__class__") "__get__"=some (some (.builtin "getset_descriptor.__get__"))) (htk:PySem.W.takesIn K (.builtin "object.__class__")=some true)
  (hm:PySem.W.mroIn K C (.type "object")=some true):tY K H (.ref a) (.ref C)
def NK {σ:St} (I:0#d) (rx:RelV x u) (ty:tY X.K H x t) (e:BU X.K t c=some b) (h:∀tk,Q (.bool b) { s with toks:=tk }) :
 bS 0#A A (call (.builtin "isinstance") [u,c]) Q E s:=-by
 cases ty with
 | bG=>cases (show u=Value.none from rx);exact B8 PySem.W.kitx_none I.yb True.intro e (λz=>nomatch z) h
 | bl y=>cases (show u=Value.bool y from rx);exact B8 PySem.W.kitx_bool I.yb True.intro e (λz=>nomatch z) h
 | int i=>obtain ⟨t,q⟩:=(show ∃t,u=Value.int i t from rx);cases q;exact B8 PySem.W.kitx_int I.yb True.intro e (λz=>nomatch z) h
 | str y=>obtain ⟨t,q⟩:=(show ∃t,u=Value.str y t from rx);cases q;exact B8 PySem.W.kitx_str I.yb True.intro e (λz=>nomatch z) h
 | YM y=>obtain ⟨t,q⟩:=(show ∃t,u=Value.float y t from rx);cases q;exact B8 PySem.W.kitx_float I.yb True.intro e (λz=>nomatch z) h
 | @lst a B ea=>
   cases (show u=Value.ref a from rx)
   obtain ⟨_,_,n,_,v⟩:=(show fm X.prog X.w H s.heap a (.lst B) from I.hok a _ ea)
   exact B8 WV I.yb ⟨_,v,rfl⟩ e (λz=>nomatch z) h
 | @LG a ob B ea=>
   cases (show u=Value.ref a from rx)
   obtain ⟨_,_,_,n,_,v⟩:=(show fm X.prog X.w H s.heap a (.LG ob (.lst B)) from I.hok a _ ea)
   exact B8 WV I.yb ⟨_,v,rfl⟩ e (λz=>nomatch z) h
 | @tup a B ea=>
   cases (show u=Value.ref a from rx)
   obtain ⟨_,_,_,p⟩:=(show fm X.prog X.w H s.heap a (.tup B) from I.hok a _ ea)
   obtain ⟨o,v,D,_⟩:=p
   exact B8 PySem.W.kitx_tuple I.yb ⟨o,v,D⟩ e (λz=>nomatch z) h
 | @dK a kvs ea=>
   cases (show u=Value.ref a from rx)
   obtain ⟨_,_,vs,_,p⟩:=(show fm X.prog X.w H s.heap a (.dK kvs) from I.hok a _ ea)
   obtain ⟨o,es,G,v,D,_⟩:=p
   exact B8 WW I.yb ⟨o,v,D.1⟩ e (λz=>nomatch z) h
 | @dT a kvs ea=>
   cases (show u=Value.ref a from rx)
   obtain ⟨_,_,B,_,o,es,G,v,D,_⟩:=(show fm X.prog X.w H s.heap a (.dT kvs) from I.hok a _ ea)
   exact B8 WW I.yb ⟨o,v,D.1⟩ e (λz=>nomatch z) h
 | @ins a C dx fs ea cl ha hn htk hm=>
   cases (show u=Value.ref a from rx)
   obtain ⟨mA,O,_⟩:=yI I.hok ea
   obtain ⟨od,J,_⟩:=O.look
   exact B8 (PySem.W.kitx_own (cl.get _) cl.hd ha hn htk hm) I.yb J e (λz=>nomatch z) h
structure gY (k:Nat) (A:mK):Prop where
 hd:A.handled=none
 dp:A.depth+3*k+5<recursionLimit
 un:A.units+16*k+200<cLine
def gY.mono (r:gY k A) (h:j<=k):gY j A:=⟨r.hd,by have:=r.dp;simp?,by have:=r.un;simp?⟩
def gY.deeper (r:gY (k+1) A) (env:Env):gY k (A.deeper env):=
 ⟨r.hd,by have:=r.dp;show A.depth+1+3*k+5<_;simp?,by have:=r.un;show A.units+3+16*k+200<_;simp?⟩
def JE {A:mK}:(A.under (.builtin "type.__call__" ⟨.ref C::us,kw⟩)).depth=A.depth+1:=-by
 first | rfl | simp [SD,Code.weight,Code.isCreation,Code.isGuard,Code.isCaller,XH,SE,guardIds]
def JF {A:mK}:(A.under (.builtin "type.__call__" ⟨.ref C::us,kw⟩)).units=A.units+1:=-by
 first | rfl | simp [SD,Code.cUnits,XH,SE]
def gY.make (r:gY (k+1) A) (C:af) (us:List aE) (kw:List (Str×aE)):gY k (A.under (.builtin "type.__call__" ⟨.ref C::us,kw⟩)):=
 ⟨r.hd,by have:=r.dp;rw [JE];simp?,by have:=r.un;rw [JF];simp?⟩
def gY.depth (r:gY k A):A.depth<recursionLimit:=by have:=r.dp;simp?
def gY.units (r:gY k A):A.units+64<cLine:=by have:=r.un;simp?
def pA:TA:=λ_ H Q=>Q [] H
def eV (ta:TE) (tr:TA):TA:=λσ H Q=>ta σ H λx H1=>tr σ H1 λxs H2=>Q (x::xs) H2
def sR {X:Cx}:PA X [] pA:=λ_ _ _ _ H Q I h=>Calls.spliced_nil ⟨[],H,I,.nil,h⟩
def jJ {X:Cx} {e:aW} {es:List aW} {te:TE} {t:TA} (ha:PE X e te) (hr:PA X es t) (hs:0#i:=by rfl):PA X (e::es) (eV te t):=-by
 intro pos n s p H Q I h
 rw [hs]
 show bS _ _ (spliced ((false,eval e X.env)::gB pos (bf es X.env))) _ _ s
 refine Calls.spliced_cons (gP (ha n s p H _ I h) λu L ⟨x,v,A,G,D⟩=>?_)
 exact gP (hr pos n L p v _ A D) λus s2 ⟨M,z,B,J,E⟩=>⟨x::M,z,B,.cons G J,E⟩
def aao (t:TA):TE:=λσ H Q=>t σ H λxs H1=>xs.length<=sizeLine/\∀p,H1 p=none->Q (.ref p) (upd H1 p (.tup xs))
def aak (t:TA):TE:=λσ H Q=>t σ H λxs H1=>xs.length<=sizeLine/\∀p,H1 p=none->Q (.ref p) (upd H1 p (.lst xs))
def J4 {X:Cx} {es:List aW} {t:TA} {pos:Pos} {x1} (h:PA X es t):PE X (.Tuple es x1 pos) (aao t):=-by
 intro n s J H Q I D
 refine wpAny_Tuple_spliced (gP (h pos n s J H _ I D) λE p ⟨G,v,A,r,z,q⟩=>⟨by rw [<- r.length];exact z,?_⟩)
 have B:v p.heap.objs.size=none:=A.hok.fresh (d8 _)
 refine ⟨.ref p.heap.objs.size,upd v p.heap.objs.size (.tup G),A.laid (t':=p.toks) (λb u e=>oA _ e) (d8 _) ?_,rfl,q _ B⟩
 exact ⟨z,E,r,⟨_,Gb _ rfl,rfl,_,rfl⟩⟩
def J0 {X:Cx} {es:List aW} {t:TA} {pos:Pos} (h:PA X es t):PE X (.List es pos) (aak t):=-by
 intro n s J H Q I D
 refine wpAny_List_spliced (gP (h pos n s J H _ I D) λE p ⟨G,v,A,r,z,q⟩=>⟨by rw [<- r.length];exact z,?_⟩)
 have B:v p.heap.objs.size=none:=A.hok.fresh (d8 _)
 refine ⟨.ref p.heap.objs.size,upd v p.heap.objs.size (.lst G),A.laid (t':=p.toks) (λb u e=>oA _ e) (d8 _) ?_,rfl,q _ B⟩
 exact ⟨z,E,0,r,Gb _ rfl⟩
abbrev Sp:=List V->Hp->VK->XK->Prop
abbrev Ti:=List Env->Hp->aZ->XK->aE->aZ->Prop
structure IT (P:fP) (w:dh) (K:bJ) (mg:0#h) (base:cA) (A:mK) (outer:List Env) (s:aZ) (H:Hp):Prop where
 frames:A.frames=some outer
 mod:Mod K mg base
 bs:∀b o,base.get? b=some o->s.heap.get? b=some o/\H b=none
 VD:base.objs.size<=s.heap.objs.size
 xV:s.heap.FunFrames base outer
 YO:∀b∈frs outer,H b=none
 hok:vf P w H s.heap
 bare:vc s.gens
def CE (outer:List Env) (P:fP) (w:dh) (H:Hp) (s:aZ) (Q:VK) (u:aE) (s':aZ):Prop:=
 ∃v H',s'.os=s.os/\vc s'.gens/\Un (frs outer) [] H H' s.heap s'.heap/\vf P w H' s'.heap/\RelV v u/\Q v H'
def CR (CX:Ti) (outer:List Env) (P:fP) (w:dh) (H:Hp) (s:aZ) (Q:VK) (E:XK) (r:Result) (s':aZ):Prop:=
 match r with
 | .ok (.ret u)=>CE outer P w H s Q u s'
 | .ok _=>False
 | .error e=>CX outer H s E e s'
structure aX (P:fP) (w:dh) (K:bJ) (mg:0#h) (base:cA) (CX:Ti) (k:Nat) (f:af) (fd:fU) (ps:List Str) (sp:Sp):Prop where
 len:∀vs H Q E,sp vs H Q E->vs.length=ps.length
 run:∀(A:mK) (outer:List Env) (s:aZ) (H:Hp) (args:Args) (us:List aE) (vs:0#m) (Q:VK) (E:XK),gY k A->IT P w K mg base A outer s H->BindsTo s fd args (ps.zip us)->Vals vs us->sp vs H Q E ->
  xN (model P w) A (.call (.ref f) args) (CR CX outer P w H s Q E) s
def IT.make {K:bJ} (e:IT P w K mg base A outer s H) (C:af) (us:List aE) (kw:List (Str×aE)) :
 IT P w K mg base (A.under (.builtin "type.__call__" ⟨.ref C::us,kw⟩)) outer s H:=⟨by first | exact e.frames | (simpa [SD,Code.envs,SE,pushEnvs] using e.frames),e.mod,e.bs,e.VD,e.xV,e.YO,e.hok,e.bare⟩
def Inv.aaG {σ:St} (I:0#d):IT X.prog X.w X.K X.mg X.base X.A X.stack s H:=
 ⟨I.ok.frames,I.ok.mod,I.bs,iy I.ok.VD I.sz,I.stack,I.Mf,I.hok,I.bare⟩
def Inv.after {σ:St} (I:0#d) (h:CE X.stack X.prog X.w H s Q u s'):EP X pins σ Q u s':=-by
 obtain ⟨v,B,E,n,un,p,r,q⟩:=h
 obtain ⟨D,g,d,t,A⟩:=s'
 obtain rfl:A=s.os:=E
 exact ⟨v,B,I.call (h':=D) (g':=g) (d':=d) (t':=t) (ch:=[]) un p n (λb z=>absurd z 0#t),r,q⟩
def xx (sp:Sp) (Ca:0#m) (E:XK) (t:TA):TE:=λσ H Q=>t σ H λvs H1=>sp (vs++Ca) H1 Q E
def HQ (C:af) (m:Str) (sp:Sp) (Ca:0#m) (E:XK) (ta:TE) (t:TA):TE:=λσ H Q=>ta σ H λx H1=>∃a dx fs,x=.ref a/\H1 a=some (.ins C dx fs)/\fs.lookup m=none /\
 t σ H1 λvs H2=>sp (x::(vs++Ca)) H2 Q E
def RB (C:af) (sp:Sp) (Ca:0#m) (E:XK) (t:TA):TE:=λσ H Q=>t σ H λvs H1=>∀x dx,H1 x=none->H1 dx=none->dx≠x ->
 sp (.ref x::(vs++Ca)) (upd (upd H1 dx (.own x)) x (.ins C dx [])) (λv H2=>v=.bG/\Q (.ref x) H2) E
def Binds (K:bJ) (fd:fU) (ps:List Str) (ds:List aE):Prop:=
 ∀(s:aZ) (us:List aE),K.In s.heap->(us++ds).length=ps.length->BindsTo s fd ⟨us,[]⟩ (ps.zip (us++ds))
def Binds.all {K:bJ} (h:∀us:List aE,us.length=ps.length->BZ fd ⟨us,[]⟩=pure (ps.zip us)):Binds K fd ps []:=λs us _ hl=>by
 rw [Io] at hl ⊢
 exact .of_eq (h us hl)
def Passes (CX:Ti) (X:Cx) (E:XK):Prop:=∀(pins:0#k) (σ:St) (H:Hp) (s:aZ) (e:aE) (s':aZ),Inv X pins σ H s->CX X.stack H s E e s'->X.xe e s'
def Kn {σ:St} (F:aX X.prog X.w X.K X.mg X.base CX k f fd ps sp) (hr:gY k X.A) (hb:Binds X.K fd ps ds) (hd:Vals Ca ds) (hx:Passes CX X E)
 (I:0#d) (r:Vals vs us) (h:sp (vs++Ca) H Q E):bS 0#A X.A (call (.ref f) us) (EP X pins σ Q) X.xe s:=-by
 have p:Vals (vs++Ca) (us++ds):=r.append hd
 have v:(us++ds).length=ps.length:=by rw [<- p.length];exact F.len _ _ _ _ h
 refine wpAny_call (MR (F.run X.A X.stack s H ⟨us,[]⟩ (us++ds) (vs++Ca) Q E hr I.aaG (hb s us I.yb v) p h) λr s' n=>?_)
 cases r with
 | error e=>exact hx pins σ H s e s' I n
 | ok fl=>
   cases fl with
   | ret u=>exact I.after n
   | next=>exact ou n
   | brk=>exact ou n
   | cont=>exact ou n
def US (F:aX X.prog X.w X.K X.mg X.base CX k f fd ps sp) (hr:gY k X.A) (hg:Gl X x) (hm:X.mg x=some (.ref f)) (hk:ve X.K (.ref f)=true) (hb:Binds X.K fd ps ds) (hd:Vals Ca ds) (hx:Passes CX X E)
 (ha:PA X (e::es) t) (hdb:0#g:=by decide) (he:0#i:=by rfl) (hpl:0#n:=by rfl) :
 PE X (.Call (.Name x p) (e::es) [] pos) (xx sp Ca E t):=-by
 intro u s z H Q I h
 refine Mx (Ei I hg hm ?_ hdb)
 refine Se (h₀:=X.base) I.ok.mod.kin hk (gP (ha pos u s z H _ I h) λus s1 ⟨vs,H1,v,r,q⟩=>⟨v.yb,?_⟩) he hpl
 exact Kn F hr hb hd hx v r q
def UU {X:Cx} {CX:Ti} {k:Nat} {f C:af} {fd:fU} {ps:List Str} {sp:Sp} {Ca:0#m} {ds:List aE} {E:XK} {m:Str} {pos apos:Pos} {e o:aW} {es:List aW} {ta:TE} {t:TA} {pl:Sem Bool} (he:PE X o ta) (c:IK X.K C) (hm:Meth X.K C m f) (F:aX X.prog X.w X.K X.mg X.base CX k f fd ps sp) (hr:gY k X.A) (hb:Binds X.K fd ps ds) (hd:Vals Ca ds) (hx:Passes CX X E) (ha:PA X (e::es) t)
 (hst:0#i:=by rfl) (hpl:0#n:=by rfl)
 (ht:eval (.Call (.Attribute o m apos) (e::es) [] pos) X.env=(do
   let ov <- eval o X.env
   xM apos.atName
   let (f,first) <- holding [ov] (getMethod ov m pl)
   callWith pos f first (gB pos (bf (e::es) X.env)) (qS pos (qR [] X.env))):=by rfl) :
 PE X (.Call (.Attribute o m apos) (e::es) [] pos) (HQ C m sp Ca E ta t):=-by
 intro p s B H Q I h
 refine WB (pl:=pl) (gP (he p s B H _ I h) λu N O=>?_) ht
 obtain ⟨x,D,v,M,a,dx,fs,J,G,l,q⟩:=O
 subst J
 obtain rfl:u=Value.ref a:=M
 refine zR v G c hm l ?_
 refine Se (first:=[.ref a]) (h₀:=X.base) I.ok.mod.kin hm.kp (gP (ha pos p N B D _ v q) λus s2 ⟨vs,H2,z,r,L⟩=>⟨z.yb,?_⟩) hst hpl
 exact Kn (us:=.ref a::us) (vs:=.ref a::vs) F hr hb hd hx z (.cons rfl r) L
def QC {X:Cx} {CX:Ti} {k:Nat} {f C:af} {fd:fU} {ps:List Str} {sp:Sp} {Ca:0#m} {ds:List aE} {E:XK} {m:Str} {pos apos:Pos} {o:aW} {ta:TE} {pl:Sem Bool} (he:PE X o ta) (c:IK X.K C) (hm:Meth X.K C m f) (F:aX X.prog X.w X.K X.mg X.base CX k f fd ps sp) (hr:gY k X.A) (hb:Binds X.K fd ps ds) (hd:Vals Ca ds) (hx:Passes CX X E)
 (ht:eval (.Call (.Attribute o m apos) [] [] pos) X.env=(do
   let ov <- eval o X.env
   xM apos.atName
   let (f,first) <- holding [ov] (getMethod ov m pl)
   callWith pos f first (gB pos (bf [] X.env)) (qS pos (qR [] X.env))):=by rfl) :
 PE X (.Call (.Attribute o m apos) [] [] pos) (HQ C m sp Ca E ta pA):=-by
 intro n s G H Q I h
 refine WB (pl:=pl) (gP (he n s G H _ I h) λu s1 D=>?_) ht
 obtain ⟨x,H1,p,B,a,dx,fs,z,v,l,q⟩:=D
 subst z
 obtain rfl:u=Value.ref a:=B
 refine zR p v c hm l ?_
 exact PySem.W.callWith_K0 (first:=[.ref a]) p.yb hm.kp (Kn (us:=[.ref a]) (vs:=[.ref a]) F hr hb hd hx p (.cons rfl .nil) q)
structure Mk (K:bJ) (C f:af):Prop where
 makes:MM K C=true
 init:jF K (.ref C) "__init__"=some (some (.ref f))
 fn:xG K (.ref f)=true
 kp:ve K (.ref C)=true
def Q0 {σ:St} (M:Mk X.K C f) (F:aX X.prog X.w X.K X.mg X.base CX k f fd ps sp) (hr:gY (k+1) X.A) (hb:Binds X.K fd ps ds) (hd:Vals Ca ds)
 (hx:Passes CX X E) (I:0#d) (r:Vals vs us)
 (h:∀x dx,H x=none->H dx=none->dx≠x->sp (.ref x::(vs++Ca)) (upd (upd H dx (.own x)) x (.ins C dx [])) (λv H2=>v=.bG/\Q (.ref x) H2) E) :
 bS 0#A X.A (call (.ref C) us) (EP X pins σ Q) X.xe s:=-by
 have z:=h (s.heap.objs.size+1) s.heap.objs.size (I.hok.fresh (Iz _)) (I.hok.fresh (d8 _)) (lU (W7 _))
 have p:=Inv.made (C:=C) I
 have B:Vals (V.ref (s.heap.objs.size+1)::(vs++Ca)) (Value.ref (s.heap.objs.size+1)::(us++ds)):=.cons rfl (r.append hd)
 have L:(Value.ref (s.heap.objs.size+1)::us++ds).length=ps.length:=by
  have e:=B.length
  rw [F.len _ _ _ _ z] at e
  exact e.symm
 refine wpAny_call (PX (f:=f) I.yb M.makes M.init (rY.mp M.fn) (MR (F.run _ X.stack _ _ ⟨Value.ref (s.heap.objs.size+1)::us,[]⟩ (Value.ref (s.heap.objs.size+1)::(us++ds)) _ _ E (hr.make C us [])
  (p.aaG.make C us []) (hb _ (Value.ref (s.heap.objs.size+1)::us) p.yb L) B z) λr s' n=>?_))
 cases r with
 | error e=>exact hx pins σ _ _ e s' p n
 | ok fl=>
   cases fl with
   | ret u=>
     obtain ⟨v,D,G,O,J,N⟩:=p.after n
     subst J
     exact ⟨O,⟨V.ref (s.heap.objs.size+1),D,G,rfl,N⟩⟩
   | next=>exact ou n
   | brk=>exact ou n
   | cont=>exact ou n
def UT (M:Mk X.K C f) (F:aX X.prog X.w X.K X.mg X.base CX k f fd ps sp) (hr:gY (k+1) X.A) (hg:Gl X x) (hm:X.mg x=some (.ref C)) (hb:Binds X.K fd ps ds) (hd:Vals Ca ds) (hx:Passes CX X E)
 (ha:PA X (e::es) t) (hdb:0#g:=by decide) (he:0#i:=by rfl) (hpl:0#n:=by rfl) :
 PE X (.Call (.Name x p) (e::es) [] pos) (RB C sp Ca E t):=-by
 intro u s z H Q I h
 refine Mx (Ei I hg hm ?_ hdb)
 refine Se (h₀:=X.base) I.ok.mod.kin M.kp (gP (ha pos u s z H _ I h) λus s1 ⟨vs,H1,v,r,q⟩=>⟨v.yb,?_⟩) he hpl
 exact Q0 M F hr hb hd hx v r q
structure tW (N P:List Str) (sc:oB):Prop where
 kind:sc.kind=.function
 co:sc.isCoroutine=false
 gen:sc.isGenerator=false
 nd:N.Nodup
 pre:N.take P.length=P
 par:∀x∈P,sc.names.lookup x=some .local\/sc.names.lookup x=some .cell
 Zz:∀y∈sc.names,y.2≠.free
def C0 {kindOf:Str->Option u9}:∀{binds:List (Str×aE)} {m:0#h},(∀v,(x,v)∉binds)->xO kindOf binds m x=m x
 | [],_,_=>rfl
 | (n,v)::r,m,h=>by
   unfold xO
   rw [C0 λw hw=>h w (CQ _ hw)]
   split
   ·have:x≠n:=by rintro rfl;exact h v BN
    simp [this]
   ·rfl
def CY {kindOf:Str->Option u9}:∀{binds:List (Str×aE)} {m:0#h},(∀v,(x,v)∉binds)->xP kindOf binds m x=m x
 | [],_,_=>rfl
 | (n,v)::r,m,h=>by
   unfold xP
   rw [CY λw hw=>h w (CQ _ hw)]
   split
   ·rfl
   ·have:x≠n:=by rintro rfl;exact h v BN
    simp [this]
def CZ {kindOf:Str->Option u9}:∀{P:List Str} {vs:List aE} {i:Nat} {m:0#h},P.Nodup->P[i]?=some x->vs[i]?=some v->kindOf x=some .local ->
 xO kindOf (P.zip vs) m x=some v
 | [],_,_,_,_,h,_,_=>by simp at h
 | _::_,[],_,_,_,_,h,_=>by simp at h
 | p::P,w::vs,0,m,nd,h1,h2,hk=>by
   simp at h1 h2;subst h1;subst h2
   show xO kindOf ((p,w)::P.zip vs) m p=_
   unfold xO
   rw [C0 λv hv=>(MN.mp nd).1 (So hv).1,if_pos hk]
   simp
 | p::P,w::vs,i+1,m,nd,h1,h2,hk=>by
   show xO kindOf ((p,w)::P.zip vs) m x=_
   unfold xO
   exact CZ (i:=i) (MN.mp nd).2 (by simpa using h1) (by simpa using h2) hk
def CW {kindOf:Str->Option u9}:∀{P:List Str} {vs:List aE} {i:Nat} {m:0#h},P.Nodup->P[i]?=some x->vs[i]?=some v->kindOf x≠some .local ->
 xP kindOf (P.zip vs) m x=some v
 | [],_,_,_,_,h,_,_=>by simp at h
 | _::_,[],_,_,_,_,h,_=>by simp at h
 | p::P,w::vs,0,m,nd,h1,h2,hk=>by
   simp at h1 h2;subst h1;subst h2
   show xP kindOf ((p,w)::P.zip vs) m p=_
   unfold xP
   rw [CY λv hv=>(MN.mp nd).1 (So hv).1,if_neg hk]
   simp
 | p::P,w::vs,i+1,m,nd,h1,h2,hk=>by
   show xP kindOf ((p,w)::P.zip vs) m x=_
   unfold xP
   exact CW (i:=i) (MN.mp nd).2 (by simpa using h1) (by simpa using h2) hk
noncomputable def start (N:List Str) (vs:0#m):St:=vs.map some++nj (N.length-vs.length) none
noncomputable def IZ (CX:Ti) (P:fP) (w:dh) (K:bJ) (mg:0#h) (base:cA) (N:List Str) (qual:Str) (scope:oB) (f:af) (cd:aE) (A:mK) (outer:List Env) (s:aZ) (H:Hp) (E:XK):Cx where
 prog:=P
 w:=w
 K:=K
 mg:=mg
 base:=base
 A:=A.deeper (r8 qual scope s.heap.objs.size f cd)
 N:=N
 s₀:=s
 H₀:=H
 env:=r8 qual scope s.heap.objs.size f cd
 outer:=outer
 stack:=r8 qual scope s.heap.objs.size f cd::outer
 ex:=[]
 calm:=true
 fn:=λ_=>true
 pn:=[]
 xe:=λe s'=>bS (model P w) (A.deeper (r8 qual scope s.heap.objs.size f cd)) (leaving (r8 qual scope s.heap.objs.size f cd) e) (λ_ s''=>CX outer H s E e s'') (λe' s''=>CX outer H s E e' s'') s'
def Gz {sc:oB} (h:sc.names.lookup x=some .cell):∃c,(cellsFrom n sc.names []).lookup x=some c:=-by
 have q:=Wq sc.names n [] (.inl h)
 exact RS.mp q
def NJ {K:bJ}
 (S:tW N ps scope) (hd:A.handled=none) (e0:IT P w K mg base A outer s H) (hl:vs.length=ps.length) (r:Vals vs us)
 (x:InCallC s s.heap.objs.size (xO (r8 qual scope s.heap.objs.size f cd).kindOf (ps.zip us) λ_=>none) (cellsFrom (s.heap.objs.size+1) scope.names []) (xP (r8 qual scope s.heap.objs.size f cd).kindOf (ps.zip us) λ_=>none) s1) :
 Inv (IZ CX P w K mg base N qual scope f cd A outer s H E) [] (start N vs) H s1:=-by
 have hpl:ps.length<=N.length:=by have:=congrArg pL S.pre;rw [yw] at this;simp?
 obtain ⟨L,tk,rfl,O⟩:=x.done
 have G:∀b:af,b∉(IZ CX P w K mg base N qual scope f cd A outer s H E).ex:=λb z=>absurd (show b∈([]:List af) from z) 0#t
 refine ⟨⟨e0.mod,S.kind,rfl,rfl,d8 _,λy z c L B=>?_,λy D=>?_,λy c _ h=>?_,λ_=>hd,Around.frames_deeper e0.frames,.inr ⟨rfl,rfl⟩,λb z=>absurd z (G b),e0.bs,e0.VD,λb _ _=>G b,λb z=>absurd z (G b),e0.xV,e0.YO⟩,
  rfl,e0.bare,Un.kept O,⟨_,x.toInCall.ns,λi y v L B h3=>?_⟩,λy c h=>⟨_,x.cell y c h⟩,e0.hok.fresh (d8 _),λy c h=>?_,λp I=>absurd (show p∈([]:List (af×Obj)) from I) 0#t,e0.hok.kept O,?_⟩
 ·exact name_of_addr x.apart (HY L) (HY B)
 ·have D:scope.names.lookup y=some .cell\/scope.names.lookup y=some .free:=D
  rcases D with D | D
  ·exact Gz D
  ·exact absurd rfl (S.Zz _ (HY D))
 ·exact tR (x.above y c (HY h))
 ·have M:i<vs.length:=by
   unfold start at B
   by_cases M:i<vs.length
   ·exact M
   ·rw [F9 (by simpa using M)] at B
    rw [RU] at B
    split at B <;> cases B
  have R:vs[i]?=some v:=by
   unfold start at B
   rw [B4 (by simpa using M),lZ] at B
   cases e:vs[i]? with
   | none=>rw [e] at B;cases B
   | some a=>rw [e] at B;cases B;rfl
  obtain ⟨u,Q,U⟩:=r.get R
  have I:ps[i]?=some y:=by
   rw [<- S.pre,List.getElem?_take_of_lt 0#r];exact L
  have J:ps.Nodup:=by rw [<- S.pre];exact S.nd.sublist (ME _ _)
  refine ⟨u,U,?_⟩
  rcases S.par y (nk I) with k | k
  ·exact .inl ⟨k,CZ J I Q k⟩
  ·obtain ⟨c,e⟩:=Gz (n:=s.heap.objs.size+1) k
   refine .inr ⟨.inl k,c,e,?_⟩
   have q:=x.cell y c e
   rw [CW J I Q (by show scope.names.lookup y≠_;rw [k];decide)] at q
   exact q
 ·exact e0.hok.fresh (tR (x.above y c (HY h)))
 ·unfold start
  show _=N.length
  rw [gA,iR,Du]
  simp?
def aaN {CX:Ti} {P:fP} {w:dh} {K:bJ} {mg:0#h} {base:cA} {k:Nat} {f:af} {name qual:Str} {body:List aO} {scope:oB} {dV kV doc pm cdv ct oc:aE} {an od:Option af}
 {osl:Array (Option aE)} {N ps:List Str} {sp:Sp} (lk:K.lookup f=some ⟨oc,od,.func (qU name qual params body scope dV kV doc pm an cdv ct),osl⟩) (hcd:u5 K cdv qual=true) (S:tW N ps scope)
 (len:∀vs H Q E,sp vs H Q E->vs.length=ps.length)
 (hbody:∀(A:mK) (outer:List Env) (s:aZ) (H:Hp) (vs:0#m) (Q:VK) (E:XK),gY k (A.deeper (r8 qual scope s.heap.objs.size f cdv))->sp vs H Q E ->
   ∃t,IF (IZ CX P w K mg base N qual scope f cdv A outer s H E) body t/\t { nx:=λ_ H'=>Q .bG H',rt:=Q } (start N vs) H) :
 aX P w K mg base CX (k+1) f (qU name qual params body scope dV kV doc pm an cdv ct) ps sp:=-by
 refine ⟨len,λA outer s H args us vs Q E L D hb r U=>?_⟩
 have hl:=len _ _ _ _ U
 have R:K.In s.heap:=D.mod.kin.keeps λb o e=>(D.bs b o e).1
 have M:s.heap.NoLimit:=D.mod.nolimit.keeps λb o e=>(D.bs b o e).1
 have z:∀y∈ps.zip us,scope.names.lookup y.1=some .local\/(scope.names.lookup y.1=some .cell/\((cellsFrom (s.heap.objs.size+1) scope.names []).lookup y.1).isSome=true):=λ⟨n,v⟩ hy=>by
  rcases S.par n (So hy).1 with q | q
  ·exact .inl q
  ·exact .inr ⟨q,Wq _ _ _ (.inl q)⟩
 refine codeAny_call_function L.depth (R _ _ lk) rfl S.co S.gen rfl (PySem.W.codeRec_of R hcd) (hb _ _ _ _ ?_)
 refine wpAny_newFunctionEnv_cells S.kind z λenv he Y x=>?_
 subst he
 refine ⟨M.keeps x.toInCall.keep,codeAny_func ?_⟩
 obtain ⟨t,ht,hq⟩:=hbody A outer s H vs Q E (L.deeper _) U
 have I:Inv (IZ CX P w K mg base N qual scope f cdv A outer s H E) [] (start N vs) H Y:=NJ S L.hd D hl r x
 refine oq (ht [] Y (start N vs) H _ I hq) (λZ s' B=>?_) λe s' B=>B
 have G:∀{p:St} {H':Hp} {v:V} {u:aE},Inv (IZ CX P w K mg base N qual scope f cdv A outer s H E) [] p H' s'->RelV v u->Q v H'->CE outer P w H s Q u s':=
  λ{p H' v u} J O q=>⟨v,H',J.os,J.bare,J.base,J.hok,O,q⟩
 cases Z with
 | ret u=>
   obtain ⟨v,p,H',J,O,q⟩:=B
   exact G J O q
 | next=>
   obtain ⟨p,H',J,q⟩:=B
   exact G (v:=V.bG) (u:=Value.none) J rfl q
 | brk=>
   obtain ⟨_,_,_,q⟩:=B
   exact ou q
 | cont=>
   obtain ⟨_,_,_,q⟩:=B
   exact ou q
def tCB (r:0#m->Hp->VK->Prop) (t:TA):TE:=λσ H Q=>t σ H λvs H1=>r vs H1 Q
def uI {X:Cx} {x:Str} {p pos:Pos} {e:aW} {es:List aW} {t:TA} {id:String} {r:0#m->Hp->VK->Prop} (hc:je X (.builtin id) r) (hg:Gl X x) (hm:X.mg x=none) (hv:rW x=some (.builtin id)) (ha:PA X (e::es) t) (hn:x ≠ "__name__":=by decide) (hdb:0#g:=by decide)
 (he:0#i:=by rfl) (hpl:0#n:=by rfl):PE X (.Call (.Name x p) (e::es) [] pos) (tCB r t):=-by
 intro u s v H Q I h
 refine Mx (sJ I hg hm hv ?_ hn hdb)
 exact acm (gP (ha pos u s v H _ I h) λG E ⟨vs,z,A,D,B⟩=>hc u E v z vs G Q A D B) he hpl
def vU {X:Cx} {x:Str} {p pos:Pos} {e:aW} {es:List aW} {t:TA} {T:String} {r:0#m->Hp->VK->Prop} (hc:je X (.type T) r) (hg:Gl X x) (hm:X.mg x=none) (hv:rW x=some (.type T)) (ha:PA X (e::es) t) (hn:x ≠ "__name__":=by decide) (hdb:0#g:=by decide)
 (he:0#i:=by rfl) (hpl:0#n:=by rfl):PE X (.Call (.Name x p) (e::es) [] pos) (tCB r t):=-by
 intro u s v H Q I h
 refine Mx (sJ I hg hm hv ?_ hn hdb)
 exact S4 (gP (ha pos u s v H _ I h) λG E ⟨vs,z,A,D,B⟩=>hc u E v z vs G Q A D B) he hpl
end L2
namespace HT
open PySem PyProof.Rows
def TL (ht:IsTup s.heap t vs.toArray) (hb:IsTup s.heap b ws.toArray) (hv:vs≠[])
 (h1:ws=[]->Q (.ref t) s) (h2:ws≠[]->Q (.ref s.heap.objs.size) { s with heap:=s.heap.push { cls:=.type "tuple",data:=.seq (vs++ws).toArray } })
 (hsz:vs.length+ws.length<=sizeLine):bS (model prog w) A (mH .Add (.ref t) (.ref b)) Q E s:=-by
 obtain ⟨⟨cls,G,data,sl⟩,D,H,n,I⟩:=id ht
 obtain ⟨⟨aer,u,data2,B⟩,p,v,J,z⟩:=id hb
 simp only at H I v z
 subst H I v z
 have e:vs.toArray++ws.toArray=(vs++ws).toArray:=by simp
 by_cases hw:ws=[]
 ·exact concat_meets ⟨_,D,rfl⟩ ⟨_,p,rfl⟩ W8 Xp Wr Wn (Wl _ _)
   (tuple_addW1 t b vs.toArray ws.toArray n J G u sl B (by simpa using hv) (by simp [hw])) ⟨D,p,h1 hw⟩
 ·refine concat_meets ⟨_,D,rfl⟩ ⟨_,p,rfl⟩ W8 Xp Wr Wn (Wl _ _)
   (tuple_addW2 t b vs.toArray ws.toArray n J G u sl B (by simpa using hv) (by simpa using hw) (by rw [jb,jb];exact hsz)) ⟨D,p,?_⟩
  rw [e]
  exact h2 hw
noncomputable def Gm (n d:Nat):Option Int->Nat
 | none=>d
 | some v=>if v<0 then (v+(n:Int)).toNat else min v.toNat n
def U8 (n d k:Nat):Gm n d (some (k:Int))=min k n:=-by
 show (if (k:Int)<0 then ((k:Int)+(n:Int)).toNat else min (k:Int).toNat n)=min k n
 rw [if_neg 0#r,Sj]
end HT
namespace L2
open PySem PySem.Spec PyProof.Rows
abbrev TO:=St->Hp->(Option Int->Hp->Prop)->Prop
def PO (X:Cx) (e:Option aW) (t:TO):Prop:=
 ∀(pins:0#k) (s:aZ) (σ:St) (H:Hp) (Q:Option Int->Hp->Prop),Inv X pins σ H s->t σ H Q ->
  bS 0#A X.A (evalPart e X.env) (λu s'=>∃o H',Inv X pins σ H' s'/\IsPart u o/\Q o H') X.xe s
def Mg:TO:=λ_ H Q=>Q none H
def Wc (t:TE):TO:=λσ H Q=>t σ H λx H1=>∃i,x=.int i/\Q (some i) H1
def intsAre_of:∀{us:List aE},Vals (ns.map V.int) us->IntsAre us ns:=by
 induction ns with
 | nil=>intro us r;rw [MS] at r;cases r;exact .nil
 | cons n ns ih=>
   intro us r
   rw [xF] at r
   cases r with
   | cons r1 r2=>
     obtain ⟨t,e⟩:=r1
     subst e
     exact .cons n t (ih r2)
def rC {X:Cx}:PO X none Mg:=-by
 intro pins s σ H Q I h
 rw [Xq]
 exact nu ⟨none,H,I,.none,h⟩
def rD {X:Cx} {e:aW} {te:TE} (h:PE X e te):PO X (some e) (Wc te):=-by
 intro n s D H Q I z
 rw [evalPart_some]
 refine gP (h n s D H _ I z) λu s1 ⟨x,p,v,B,A⟩=>?_
 obtain ⟨i,rfl,q⟩:=A
 obtain ⟨t,rfl⟩:=B
 exact ⟨some i,p,v,.int i t,q⟩
def SlR (X:Cx) (r:V->Option Int->Option Int->Hp->VK->Prop):Prop:=
 ∀(pins:0#k) (s:aZ) (σ:St) (H:Hp) (x:V) (v vl vu:aE) (lo hi:Option Int) (sl:af) (Q:VK),Inv X pins σ H s->RelV x v->s.heap.IsSliceOf sl vl vu .none->IsPart vl lo->IsPart vu hi->r x lo hi H Q ->
  ∃T id,typeLookup (.type T) "__getitem__"=pure (some (.builtin id))/\s.TypeIs v T/\bS 0#A X.A (getItem v (.ref sl)) (EP X pins σ Q) X.xe s
def tSl (r:V->Option Int->Option Int->Hp->VK->Prop) (te:TE) (tl th:TO):TE:=λσ H Q=>te σ H λx H1=>tl σ H1 λl H2=>th σ H2 λu H3=>r x l u H3 Q
def nU {X:Cx} {e:aW} {te:TE} {lo hi:Option aW} {tl th:TO} {pos p2:Pos} {r:V->Option Int->Option Int->Hp->VK->Prop} (hr:SlR X r) (he:PE X e te) (hl:PO X lo tl) (hu:PO X hi th):PE X (.Subscript e (.Slice lo hi none p2) pos) (tSl r te tl th):=-by
 intro n s z H Q I h
 refine Subscript_ (gP (he n s z H _ I h) λv s1 ⟨x,G,L,r1,q1⟩=>?_)
 refine wpAny_Slice (gP (hl n s1 z G _ L q1) λB s2 ⟨l,J,M,Y,q2⟩=>gP (hu n s2 z J _ M q2) λD p ⟨u,E,N,Z,q3⟩=>?_)
 rw [Xq]
 refine nu ?_
 have O:Inv X n z E { p with heap:=p.heap.push { cls:=.type "slice",data:=.fields #[B,D,.none] } }:=N.kept (t':=p.toks) λb ob q=>oA _ q
 obtain ⟨T,id,R,U,S⟩:=hr n { p with heap:=p.heap.push { cls:=.type "slice",data:=.fields #[B,D,.none] } } z E x v B D l u p.heap.objs.size Q O r1 (ac1 ..) Y Z q3
 show bS 0#A X.A (subscriptTail e (.Slice lo hi none p2) v (.ref p.heap.objs.size)) (EP X n z Q) X.xe { p with heap:=p.heap.push { cls:=.type "slice",data:=.fields #[B,D,.none] } }
 exact tail_any (ops:=[.ref p.heap.objs.size,v]) U R S (by with_unfolding_all rfl)
noncomputable def rK (xs:0#m) (lo hi:Option Int):0#m:=(xs.drop (HT.Gm xs.length 0 lo)).take (HT.Gm xs.length xs.length hi-HT.Gm xs.length 0 lo)
def GH (xs:0#m) (lo hi:Option Int):(rK xs lo hi).length<=xs.length:=-by
 unfold rK
 rw [yw,kj]
 simp?
def QL (K:bJ):R2:=λx y H Q=>∃a b xs ys,x=.ref a/\y=.ref b/\ny K H a xs/\ny K H b ys/\xs≠[]/\xs.length+ys.length<=sizeLine /\
 (ys=[]->Q (.ref a) H)/\(ys≠[]->∀p,H p=none->Q (.ref p) (upd H p (.tup (xs++ys))))
def Vals.Eo (r:Vals xs us):us=[]↔xs=[]:=-by
 cases r with
 | nil=>simp
 | cons _ _=>simp
def UP:qY X (mH .Add) (QL X.K):=-by
 intro pins s σ H x y v u Q I N O h
 obtain ⟨a,b,R,S,rfl,rfl,B,D,E,A,L,M⟩:=h
 cases N
 cases O
 obtain ⟨its,p,G,_⟩:=I.tuple B
 obtain ⟨its2,n,J,_⟩:=I.tuple D
 refine HT.TL G J (λz=>E (p.Eo.mp z)) (λz=>⟨.ref a,H,I,rfl,L (n.Eo.mp z)⟩) (λz=>?_) (by rw [<- p.length,<- n.length];exact A)
 refine ⟨.ref s.heap.objs.size,_,I.laid (t':=s.toks) (o:=.tup (R++S)) (λb ob q=>oA _ q) (d8 _) ?_,rfl,M (λw=>z (n.Eo.mpr w)) _ (I.hok.fresh (d8 _))⟩
 exact ⟨by rw [gA];exact A,_,p.append n,M0 _ _⟩
noncomputable def OB (n:Nat) (i:Int):Option Nat:=if 0<=i then (if i<n then some i.toNat else none) else if -(n:Int)<=i then some (i+n).toNat else none
noncomputable def tU {α:Type} (xs:List α) (i:Int):Option α:=(OB xs.length i).bind λj=>xs[j]?
def LQ (h:OB n i=some j):seqIndex? i n=some j/\j<n/\-(n:Int)<=i/\i<n:=-by
 unfold OB at h
 by_cases h0:0<=i
 ·rw [if_pos h0] at h
  by_cases h1:i<n
  ·rw [if_pos h1] at h
   have e:i.toNat=j:=tO h
   exact ⟨by rw [SN h0 h1,e],by simp?,by simp?,h1⟩
  ·rw [if_neg h1] at h;cases h
 ·rw [if_neg h0] at h
  by_cases h1:-(n:Int)<=i
  ·rw [if_pos h1] at h
   have e:(i+n).toNat=j:=tO h
   exact ⟨by rw [SG 0#r h1,e],by simp?,h1,by simp?⟩
  ·rw [if_neg h1] at h;cases h
def Li (h:tU xs i=some v):∃j,seqIndex? i xs.length=some j/\xs[j]?=some v/\j<xs.length/\-(xs.length:Int)<=i/\i<xs.length:=-by
 unfold tU at h
 cases e:OB xs.length i with
 | none=>rw [e] at h;cases h
 | some j=>
   rw [e] at h
   obtain ⟨n,p,u,z⟩:=LQ e
   exact ⟨j,n,h,p,u,z⟩
def gI {j:Nat} (h:xs[j]?=some v):tU xs (j:Int)=some v:=-by
 have hj:j<xs.length:=(kM.mp h).1
 have e:OB xs.length (j:Int)=some j:=by
  unfold OB
  rw [if_pos 0#r,if_pos 0#r];simp
 unfold tU;rw [e];exact h
def Lh (b:aW):Prop:=∀o i,subscripted b false o i=operate [o,i] (getItem o i)
def IxR (X:Cx) (r:R2):Prop:=
 ∀(value slice:aW) (pins:0#k) (s:aZ) (σ:St) (H:Hp) (x y:V) (v u:aE) (Q:VK),Inv X pins σ H s->RelV x v->RelV y u->r x y H Q ->
  subscripted slice false v u=operate [v,u] (getItem v u)->bS 0#A X.A (subscriptTail value slice v u) (EP X pins σ Q) X.xe s
def MtR (X:Cx) (id:String) (r:V->0#m->Hp->VK->Prop):Prop:=
 ∀(pins:0#k) (s:aZ) (σ:St) (H:Hp) (x:V) (xs:0#m) (v:aE) (us:List aE) (Q:VK),Inv X pins σ H s->RelV x v->Vals xs us->r x xs H Q ->
  bS 0#A X.A (call (.builtin id) (v::us)) (EP X pins σ Q) X.xe s
section
variable {X:Cx} {a b:aW} {ta tb:TE} {pos:Pos}
def HG {r:R2} (hr:IxR X r) (ha:PE X a ta) (hb:PE X b tb) (hs:Lh b):PE X (.Subscript a b pos) (RH r ta tb):=-by
 intro n s E H Q I h
 exact Subscript_ (Ym ha hb I h λv u D x y p z A B q=>hr a b n D E p x y v u Q z A B q (hs _ _))
def U3 (K:bJ):R2:=λx y H Q=>∃p xs i v,x=.ref p/\y=.int i/\bw K H p xs/\tU xs i=some v/\Q v H
def Kh (K:bJ):R2:=λx y H Q=>∃p xs i v,x=.ref p/\y=.int i/\ny K H p xs/\tU xs i=some v/\Q v H
def Ux:IxR X (U3 X.K):=-by
 intro value slice n s N H x y v u Q I rx ry h M
 obtain ⟨p,xs,i,z,rfl,rfl,Z,U,q⟩:=h
 cases rx
 obtain ⟨t,rfl⟩:=ry
 obtain ⟨E,r,G,hz⟩:=I.list Z
 obtain ⟨j,B,O,h3,R,S⟩:=Li U
 obtain ⟨w,L,J⟩:=r.get O
 have Y:=r.length
 have hn:=Ej
 have A:EP X n N Q w s:=⟨z,H,I,J,q⟩
 by_cases h0:0<=i
 ·have D:i.toNat=j:=by
   rw [SN h0 S] at B
   exact tO B
  exact item_listR G.isList h0 0#r (by rw [D];simpa using L) A M
 ·have D:(i+(E.toArray.size:Int)).toNat=j:=by
   rw [SG 0#r R] at B
   rw [jb,<- Y]
   exact tO B
  exact Ws (x:=w) G.isList.typeIs WX.lookup
   (wpAny_getItem_list_neg (Q:=λr s'=>r=w/\EP X n N Q r s') G.isList 0#r (by rw [jb] <;> simp?) 0#r (by rw [D];simpa using L) ⟨rfl,A⟩) M
def Zh:IxR X (Kh X.K):=-by
 intro value slice n s E H x y v u Q I S U h R
 obtain ⟨p,xs,i,z,rfl,rfl,O,M,q⟩:=h
 cases S
 obtain ⟨t,rfl⟩:=U
 obtain ⟨its,r,D,hz⟩:=I.tuple O
 obtain ⟨j,J,L,h3,h4,h5⟩:=Li M
 obtain ⟨w,G,B⟩:=r.get L
 have N:=r.length
 have hn:=Ej
 have A:EP X n E Q w s:=⟨z,H,I,B,q⟩
 exact Ws (x:=w) D.typeIs slot_tuple_getitem.lookup
  (getItem_tuple (j:=j) (Q:=λr s'=>r=w/\EP X n E Q r s') D 0#r 0#r (by rw [jb,<- N];exact J) (by simpa using G) ⟨rfl,A⟩) R
def JG (its:List aE) (n j:Nat) (u:aE):IA (·.setIfInBounds j u) { cls:=.type "list",data:=.seq its.toArray n }={ cls:=.type "list",data:=.seq (its.set j u).toArray n }:=-by
 simp [IA]
def Inv.lst {pins:0#k} {σ:St} {H:Hp} {s:aZ} {p:af} {xs:0#m} (I:0#d) (h:H p=some (.lst xs)) :
 ∃(its:List aE) (n:Nat),Vals xs its/\s.heap.get? p=some { cls:=.type "list",data:=.seq its.toArray n }/\xs.length<=sizeLine:=-by
 obtain ⟨z,its,n,r,e⟩:=I.hok p _ h
 exact ⟨its,n,r,e,z⟩
def Inv.Zv {σ:St} {its:List aE} (I:0#d) (h:H p=some (.lst xs))
 (ho:s.heap.get? p=some { cls:=.type "list",data:=.seq its.toArray n }) (hf:f { cls:=.type "list",data:=.seq its.toArray n }={ cls:=.type "list",data:=.seq its'.toArray n' }) (r:Vals ys its') (hz:ys.length<=sizeLine) (t:Nat) :
 Inv X pins σ (upd H p (.lst ys)) { s with heap:=s.heap.update p f,toks:=t }:=-by
 have e:(s.heap.update p f).get? p=some { cls:=.type "list",data:=.seq its'.toArray n' }:=by
  rw [Heap.get?_update_self f ho (by rw [hf] <;> rfl),hf]
 refine I.write (x:=p) (e:=p) (by rw [h];trivial) (.inl rfl) (λb u v q=>(Wt _ _ (jS v)).trans q) ⟨_,e⟩ ?_
 exact ⟨hz,its',n',r,e⟩
def V4:V->V->V->Hp->(Hp->Prop)->Prop:=λo i v H Q=>∃p xs k j,o=.ref p/\i=.int k/\H p=some (.lst xs)/\OB xs.length k=some j/\Q (upd H p (.lst (xs.set j v)))
def set_list:Yg X V4:=-by
 intro A s σ H o i v ov iv u Q I U S Y h
 obtain ⟨p,Z,k,j,rfl,rfl,N,O,q⟩:=h
 cases U
 obtain ⟨t,rfl⟩:=S
 obtain ⟨z,n,r,G,R⟩:=I.lst N
 obtain ⟨B,h2,L,M⟩:=LQ O
 have E:=r.length
 have hn:=Ej
 have J:Inv X A σ (upd H p (.lst (Z.set j v))) { s with heap:=s.heap.update p (IA (·.setIfInBounds j u)) }:=
  I.Zv N G (JG z n j u) (r.set Y j) (by rw [List.length_set];exact R) s.toks
 by_cases h0:0<=k
 ·have D:k.toNat=j:=by
   rw [SN h0 M] at B
   exact tO B
  exact PySem.W.ki_setAt G h0 0#r (by rw [jb,<- E];exact M) (by rw [D];exact ⟨_,J,q⟩)
 ·have D:(k+(z.toArray.size:Int)).toNat=j:=by
   rw [SG 0#r L] at B
   rw [jb,<- E]
   exact tO B
  exact PySem.W.ki_setBack G 0#r (by rw [jb,<- E];exact L) 0#r (by rw [D];exact ⟨_,J,q⟩)
def Fl (lo hi:Option Int) (n:Nat):(BY lo hi none n).1=((HT.Gm n 0 lo:Nat):Int)/\(BY lo hi none n).2.1=((HT.Gm n n hi:Nat):Int)/\(BY lo hi none n).2.2=1:=-by
 refine ⟨?_,?_,rfl⟩
 ·cases lo with
  | none=>simp [BY,HT.Gm]
  | some i=>
    simp only [BY,HT.Gm,W9,show (1:Int)>0 by decide,if_true]
    by_cases h:i<0
    ·simp only [h,if_true] <;> simp?
    ·simp only [h,if_false] <;> simp?
 ·cases hi with
  | none=>simp [BY,HT.Gm]
  | some i=>
    simp only [BY,HT.Gm,W9,show (1:Int)>0 by decide,if_true]
    by_cases h:i<0
    ·simp only [h,if_true] <;> simp?
    ·simp only [h,if_false] <;> simp?
def CN (its:List aE) (lo hi:Option Int):slicePick its.toArray lo hi none=((its.drop (HT.Gm its.length 0 lo)).take (HT.Gm its.length its.length hi-HT.Gm its.length 0 lo)).toArray:=-by
 obtain ⟨n,p,u⟩:=Fl lo hi its.toArray.size
 unfold slicePick
 rw [n,p,u]
 simp only [sliceRange_one,pick_run,jb] <;> rfl
def abx (K:bJ):V->Option Int->Option Int->Hp->VK->Prop:=λx lo hi H Q=>∃a xs,x=.ref a/\bw K H a xs/\∀p,H p=none->Q (.ref p) (upd H p (.lst (rK xs lo hi)))
def Vg:SlR X (abx X.K):=-by
 intro pins s σ H x v vl vu u z sl Q I L B G J h
 obtain ⟨a,n,rfl,D,q⟩:=h
 cases L
 obtain ⟨its,r,A,E⟩:=I.list D
 have p:=r.length
 refine ⟨"list",_,WX.lookup,A.isList.typeIs,?_⟩
 refine wpAny_getItem_list_slice A.isList B G J .none 0#t ?_ (by rw [jb] <;> simp?)
 rw [CN,<- p]
 refine ⟨.ref s.heap.objs.size,_,I.laid (t':=s.toks) (o:=.lst (rK n u z)) (λb ob q=>oA _ q) (d8 _) ?_,rfl,q _ (I.hok.fresh (d8 _))⟩
 exact ⟨iy (GH n u z) E,_,0,(r.drop (HT.Gm n.length 0 u)).take (HT.Gm n.length n.length z-HT.Gm n.length 0 u),Gb _ rfl⟩
noncomputable def wX:V->Bool
 | .bG=>true
 | .bl _=>true
 | .int _=>true
 | .str _=>true
 | _=>false
noncomputable def O6:V->V->Bool
 | .bG,.bG=>true
 | .bl a,.bl b=>a==b
 | .bl a,.int b=>(if a then 1 else 0)==b
 | .int a,.bl b=>a==(if b then 1 else 0)
 | .int a,.int b=>a==b
 | .str a,.str b=>a==b
 | _,_=>false
def YC (ry:RelV y u) (rx:RelV x v) (fy:wX y=true) (fx:wX x=true):XT A s u v (O6 y x):=-by
 cases y with
 | bG=>
   cases ry
   cases x with
   | bG=>cases rx;exact ac7 _
   | bl b=>cases rx;exact acM b
   | int b=>obtain ⟨t,rfl⟩:=rx;exact acR b t
   | str b=>obtain ⟨t,rfl⟩:=rx;exact acS b t
   | _=>exact absurd (show false=true from fx) nv
 | bl a=>
   cases ry
   cases x with
   | bG=>cases rx;exact acN a
   | bl b=>cases rx;exact acO a b
   | int b=>obtain ⟨t,rfl⟩:=rx;exact acT a b t
   | str b=>obtain ⟨t,rfl⟩:=rx;exact acU a b t
   | _=>exact absurd (show false=true from fx) nv
 | int a=>
   obtain ⟨n,rfl⟩:=ry
   cases x with
   | bG=>cases rx;exact acV a n
   | bl b=>cases rx;exact acW a n b
   | int b=>obtain ⟨t,rfl⟩:=rx;exact ac2 a n b t
   | str b=>obtain ⟨t,rfl⟩:=rx;exact WM a n b t
   | _=>exact absurd (show false=true from fx) nv
 | str a=>
   obtain ⟨n,rfl⟩:=ry
   cases x with
   | bG=>cases rx;exact acX a n
   | bl b=>cases rx;exact acY a n b
   | int b=>obtain ⟨t,rfl⟩:=rx;exact WN a n b t
   | str b=>obtain ⟨t,rfl⟩:=rx;exact ac3 a n b t
   | _=>exact absurd (show false=true from fx) nv
 | _=>exact absurd (show false=true from fy) nv
noncomputable def Ja (x:V) (u:aE):Bool:=match u with
 | .none=>O6 .bG x
 | .bool b=>O6 (.bl b) x
 | .int i _=>O6 (.int i) x
 | .str z _=>O6 (.str z) x
 | _=>false
def O5 (r:RelV y u) (f:wX y=true):Ja x u=O6 y x:=-by
 cases y with
 | bG=>cases r;rfl
 | bl b=>cases r;rfl
 | int i=>obtain ⟨t,rfl⟩:=r;rfl
 | str z=>obtain ⟨t,rfl⟩:=r;rfl
 | _=>exact absurd (show false=true from f) nv
def tZ:∀{xs:0#m} {us:List aE},Vals xs us->xs.all wX=true->us.any (Ja x)=xs.any λy=>O6 y x
 | _,_,.nil,_=>rfl
 | y::xs,u::us,.cons r t,f=>by
   rw [DI,Gg] at f
   rw [Sw,Sw,O5 r f.1,tZ t f.2]
def qh (rx:RelV x v) (fx:wX x=true):∀{xs:0#m} {us:List aE},Vals xs us->xs.all wX=true->∀u∈us,XT A s u v (Ja x u)
 | _,_,.nil,_=>λu hu=>by cases hu
 | y::xs,u::us,.cons r t,f=>λu' hu=>by
   rw [DI,Gg] at f
   rcases jG.mp hu with rfl | hu
   ·rw [O5 r f.1];exact YC r rx f.1 fx
   ·exact qh rx fx t f.2 u' hu
noncomputable def Te (x:V) (xs:0#m):Bool:=xs.any λy=>O6 y x
def rIn (K:bJ) (neg:Bool):R2:=λx y H Q=>∃p xs,y=.ref p/\(bw K H p xs\/ny K H p xs)/\wX x=true/\xs.all wX=true/\Q (.bl (if neg then !Te x xs else Te x xs)) H
def N1:qY X (pQ .In) (rIn X.K false):=-by
 intro pins s σ H x y v u Q I D G h
 obtain ⟨p,xs,rfl,z,fx,fs,q⟩:=h
 cases G
 rcases z with z | z
 ·obtain ⟨n,r,B,E⟩:=I.list z
  refine SeqAt.in_listAt (Ja x) B.isList (λw A=>qh D fx r fs w (by simpa using A)) ⟨.bl _,H,I,rfl,?_⟩
  rw [show n.toArray.any (Ja x)=n.any (Ja x) by simp,tZ r fs]
  exact q
 ·obtain ⟨n,r,B,E⟩:=I.tuple z
  refine SeqAt.in_tupleAt (Ja x) B (λw A=>qh D fx r fs w (by simpa using A)) ⟨.bl _,H,I,rfl,?_⟩
  rw [show n.toArray.any (Ja x)=n.any (Ja x) by simp,tZ r fs]
  exact q
def EG:qY X (pQ .NotIn) (rIn X.K true):=-by
 intro pins s σ H x y v u Q I D G h
 obtain ⟨p,xs,rfl,z,fx,fs,q⟩:=h
 cases G
 rcases z with z | z
 ·obtain ⟨n,r,B,E⟩:=I.list z
  refine SeqAt.notIn_listAt (Ja x) B.isList (λw A=>qh D fx r fs w (by simpa using A)) ⟨.bl _,H,I,rfl,?_⟩
  rw [show n.toArray.any (Ja x)=n.any (Ja x) by simp,tZ r fs]
  exact q
 ·obtain ⟨n,r,B,E⟩:=I.tuple z
  refine SeqAt.notIn_tupleAt (Ja x) B (λw A=>qh D fx r fs w (by simpa using A)) ⟨.bl _,H,I,rfl,?_⟩
  rw [show n.toArray.any (Ja x)=n.any (Ja x) by simp,tZ r fs]
  exact q
def DX:je X (.builtin "len") (λxs H Q=>∃p ys,xs=[.ref p]/\(bw X.K H p ys\/ny X.K H p ys)/\Q (.int ys.length) H):=-by
 intro pins s σ H xs us Q I r h
 obtain ⟨p,ys,rfl,v,q⟩:=h
 obtain ⟨u,rfl,E⟩:=vals1 r
 cases E
 have hn:=Ej
 rcases v with v | v
 ·obtain ⟨z,B,A,D⟩:=I.list v
  have n:=B.length
  exact Calls.call_len_list A.isList (by simp only [jb] <;> simp?) ⟨.int ys.length,H,I.tok _,⟨s.toks+1,by rw [jb,n]⟩,q⟩
 ·obtain ⟨z,B,A,D⟩:=I.tuple v
  have n:=B.length
  exact len_tuple A (by simp only [jb] <;> simp?) ⟨.int ys.length,H,I.tok _,⟨s.toks+1,by rw [jb,n]⟩,q⟩
def kE:je X (.type "list") (λxs H Q=>∃p ys,xs=[.ref p]/\(bw X.K H p ys\/ny X.K H p ys)/\∀l,H l=none->Q (.ref l) (upd H l (.lst ys))):=-by
 intro M s Y H xs us Q I r h
 obtain ⟨p,ys,rfl,G,q⟩:=h
 obtain ⟨u,rfl,U⟩:=vals1 r
 cases U
 have D:∀(v:List aE),Vals ys v->ys.length<=sizeLine->∀(z:cA) (A:Nat),(∀b o',s.heap.get? b=some o'->z.get? b=some o') ->
  z.get? s.heap.objs.size=some { cls:=.type "list",dict:=none,data:=.seq v.toArray A,slots:=#[] }->EP X M Y Q (.ref s.heap.objs.size) { s with heap:=z }:=λv B J z A L e=>
  ⟨.ref s.heap.objs.size,_,I.laid (t':=s.toks) L (d8 _) (show fm X.prog X.w _ z _ (.lst ys) from ⟨J,v,A,B,e⟩),rfl,q _ (I.hok.fresh (d8 _))⟩
 rcases G with G | G
 ·obtain ⟨v,B,S,J⟩:=I.list G
  have E:=B.length
  obtain ⟨o,R,N,n,O⟩:=S.isList
  exact Xr p (.inl rfl) R N O (λz A L e=>D v B J z A L e) (by simp only [jb] <;> simp?)
 ·obtain ⟨v,B,S,J⟩:=I.tuple G
  have E:=B.length
  obtain ⟨o,R,N,n,O⟩:=S
  exact Xr p (.inr rfl) R N O (λz A L e=>D v B J z A L e) (by simp only [jb] <;> simp?)
def Ce:je X (.type "tuple") (λxs H Q=>∃p ys,xs=[.ref p]/\((bw X.K H p ys/\∀l,H l=none->Q (.ref l) (upd H l (.tup ys)))\/(ny X.K H p ys/\Q (.ref p) H))):=-by
 intro n s J H xs us Q I r h
 obtain ⟨p,ys,rfl,h⟩:=h
 obtain ⟨u,rfl,N⟩:=vals1 r
 cases N
 rcases h with ⟨A,q⟩ | ⟨A,q⟩
 ·obtain ⟨v,D,B,G⟩:=I.list A
  have hlen:=D.length
  refine call_tuple_list B.isList (λz M=>?_) (by simp only [jb] <;> simp?)
  have E:Inv X n J H { s with heap:=z }:=I.kept (t':=s.toks) M
  have L:Inv X n J (upd H z.objs.size (.tup ys)) { s with heap:=z.push { cls:=.type "tuple",data:=.seq v.toArray } }:=
   E.laid (t':=s.toks) (λb o e=>oA _ e) (d8 _) (show fm X.prog X.w _ _ _ (.tup ys) from ⟨G,v,D,M0 _ _⟩)
  exact ⟨.ref z.objs.size,_,L,rfl,q _ (E.hok.fresh (d8 _))⟩
 ·obtain ⟨v,D,B,G⟩:=I.tuple A
  exact call_tuple_same B ⟨.ref p,H,I,rfl,q⟩
def Vq (K:bJ) (T:String) (x:V) (H:Hp):Prop:=match x with
 | .str _=>T = "str"
 | .int _=>T = "int"
 | .ref p=>(T = "list"/\∃xs,bw K H p xs)\/(T = "tuple"/\∃o,K.lookup p=some o/\o.cls=.type "tuple"/\o.dict=none) \/
  (T = "dict"/\((∃kvs,H p=some (.dK kvs))\/∃kvs,H p=some (.dT kvs)))\/(T = "set"/\∃S n,H p=some (.set S n))
 | _=>False
def RN {σ:St} (I:0#d) (r:RelV x v) (ty:Vq X.K T x H) :
 s.TypeIs v T/\∀a,v=.ref a->∃ob,s.heap.get? a=some ob/\ob.dict=none:=-by
 cases x with
 | str z=>
   obtain ⟨t,rfl⟩:=r
   cases (show T = "str" from ty)
   exact ⟨typeIs_str s z t,λ_ e=>nomatch e⟩
 | int i=>
   obtain ⟨t,rfl⟩:=r
   cases (show T = "int" from ty)
   exact ⟨SX s i t,λ_ e=>nomatch e⟩
 | ref p=>
   cases r
   rcases ty with ⟨rfl,xs,J⟩ | ⟨rfl,o,u,G,B⟩ | ⟨rfl,u⟩ | ⟨rfl,S,n,u⟩
   ·obtain ⟨its,_,E,_⟩:=I.list J
    refine ⟨E.isList.typeIs,λa e=>?_⟩
    cases e
    obtain ⟨o,n,e,c,B,_⟩:=E
    exact ⟨o,e,B⟩
   ·refine ⟨⟨o,I.yb p o u,G⟩,λa e=>?_⟩
    cases e
    exact ⟨o,I.yb _ o u,B⟩
   ·have z:∃o,s.heap.get? p=some o/\o.ExactDict:=by
     rcases u with ⟨D,u⟩ | ⟨D,u⟩
     ·obtain ⟨_,_,_,_,o,_,_,e,A,_⟩:=I.hok p _ u
      exact ⟨o,e,A⟩
     ·obtain ⟨_,_,_,_,o,_,_,e,A,_⟩:=I.hok p _ u
      exact ⟨o,e,A⟩
    obtain ⟨o,e,A⟩:=z
    refine ⟨⟨o,e,A.1⟩,λa e2=>?_⟩
    cases e2
    exact ⟨o,e,A.2.1⟩
   ·obtain ⟨o,_,_,_,e,A,_⟩:=I.hok p _ u
    refine ⟨⟨o,e,A.1⟩,λa e2=>?_⟩
    cases e2
    exact ⟨o,e,A.2.1⟩
 | _=>exact ou ty
def aen (K:bJ) (T:String) (r:V->0#m->Hp->VK->Prop) (to:TE):TE:=λσ H Q=>to σ H λx H1=>Vq K T x H1/\r x [] H1 Q
def Wb (K:bJ) (T:String) (r:V->0#m->Hp->VK->Prop) (to:TE) (t:TA):TE:=λσ H Q=>to σ H λx H1=>Vq K T x H1/\t σ H1 λxs H2=>r x xs H2 Q
variable {o e:aW} {es:List aW} {to:TE} {t:TA} {name:Str} {apos cpos:Pos} {T id:String} {r:V->0#m->Hp->VK->Prop}
def Qy (pa:PlainAttrs T) (slot:Slot T name id) (hty:typeOf (.builtin id)=pure (.type "method_descriptor")) (hm:MtR X id r) (ho:PE X o to)
 (hbase:tQ o name X.env (eval o X.env)=eval o X.env:=by rfl) (hline:0#o:=by rfl):PE X (.Call (.Attribute o name apos) [] [] cpos) (aen X.K T r to):=-by
 intro n s z H Q I h
 refine wpAny_Call_method0_late hbase hline (gP (ho n s z H _ I h) λv G L=>?_)
 obtain ⟨x,A,p,u,J,E⟩:=L
 obtain ⟨B,D⟩:=RN p u J
 exact ⟨T,id,pa,slot,hty,B,D,Wu rfl (PySem.evalArgs_none (hm n G z A x [] v [] Q p u .nil E))⟩
def Qx (pa:PlainAttrs T) (slot:Slot T name id) (hty:typeOf (.builtin id)=pure (.type "method_descriptor")) (hm:MtR X id r) (ho:PE X o to) (ha:PA X (e::es) t)
 (hbase:tQ o name X.env (eval o X.env)=eval o X.env:=by rfl)
 (hfew:((gB cpos (bf (e::es) X.env)).all (λx=>!x.1)&&(qS cpos (qR [] X.env)).all (λx=>x.1.isSome)
   && decide ((e::es).length+([]:List mJ).length+(if ([]:List mJ).isEmpty then 0 else 1)<30))=true:=by rfl)
 (hline:0#o:=by rfl) (hs:0#i:=by rfl) (hplain:(gB cpos (bf es X.env)).any (·.1)=false:=by rfl) :
 PE X (.Call (.Attribute o name apos) (e::es) [] cpos) (Wb X.K T r to t):=-by
 intro n s p H Q I h
 refine wpAny_Call_method_late hbase hfew hline rfl (gP (ho n s p H _ I h) λv O Y=>?_)
 obtain ⟨x,B,u,A,S,L⟩:=Y
 obtain ⟨G,J⟩:=RN u A S
 refine ⟨T,id,pa,slot,hty,G,J,?_⟩
 have z:=ha cpos n O p B _ u L
 rw [hs] at z ⊢
 refine Wu (by show (false||(gB cpos (bf es X.env)).any (·.1))=false;rw [hplain] <;> rfl) (Calls.evalArgs_plain ?_)
 exact gP z λU R ⟨vs,D,E,N,M⟩=>hm n R p D x vs v U Q E A N M
/- xs.append(e),list.index on a module's tuple .. are MtR facts of 06m -/
end
def MtM (X:Cx) (id:String) (r:V->0#m->Hp->VK->Prop):Prop:=
 ∀(pins:0#k) (s:aZ) (σ:St) (H:Hp) (x:V) (xs:0#m) (v:aE) (us:List aE) (Q:VK),Inv X pins σ H s->RelV x v->Vals xs us->r x xs H Q ->
  bS 0#A X.A (call (.builtin id) (v::us)) (EP X pins σ Q) X.xe s
def Vals.one:∀{x:V} {us:List aE},Vals [x] us->∃u,us=[u]/\RelV x u
 | _,_,.cons r .nil=>⟨_,rfl,r⟩
def Vals.zero:∀{us:List aE},Vals [] us->us=[]
 | _,.nil=>rfl
def Vals.reverse (h:Vals xs us):Vals xs.reverse us.reverse:=-by
 induction h with
 | nil=>exact .nil
 | cons r t ih=>rw [WY,WY];exact Vals.append ih (.cons r .nil)
def Vals.rep (h:Vals xs us):∀k:Nat,Vals (nj k xs).flatten (nj k us).flatten
 | 0=>.nil
 | k+1=>by
   rw [HZ,HZ,Ih,Ih]
   exact Vals.append h (Vals.rep h k)
def foldl_rep (its:List aE):∀(k:Nat) (acc:List aE),
 SY (λx1 x2=>x1++x2) acc.toArray (nj k its.toArray)=(acc++(nj k its).flatten).toArray
 | 0,acc=>by simp
 | k+1,acc=>by
   have e:acc.toArray++its.toArray=(acc++its).toArray:=by simp
   have e2:(acc++its)++(nj k its).flatten=acc++(nj (k+1) its).flatten:=by
    rw [HZ,Ih,List.append_assoc]
   rw [<- e2,<- foldl_rep its k (acc++its),<- e,HZ,List.foldl_cons]
def Inv.Zu {σ:St} {its:List aE} (I:0#d) (hH:H l=some (.lst xs))
 (e:s.heap.get? l=some { cls:=.type "list",data:=.seq its.toArray n }) (hf:f its.toArray=its'.toArray) (hv:Vals ys its') (hz:ys.length<=sizeLine) :
 Inv X pins σ (upd H l (.lst ys)) { s with heap:=s.heap.update l (IA f),toks:=t' }:=-by
 have q:=PySem.IsL.update e f
 rw [hf] at q
 refine I.write (x:=l) (e:=l) (by rw [hH];exact trivial) (.inl rfl) (λb' u p v=>(Wt s.heap (IA f) (jS p)).trans v) ⟨_,q⟩ ?_
 exact ⟨hz,its',_,hv,q⟩
def Inv.Zp {σ:St} (I:0#d) (hv:Vals ys its) (hz:ys.length<=sizeLine) :
 Inv X pins σ (upd H s.heap.objs.size (.lst ys)) { s with heap:=s.heap.push { cls:=.type "list",data:=.seq its.toArray },toks:=t' }:=
 I.laid (λ_ _ q=>oA _ q) (d8 _) ⟨hz,its,0,hv,Gb _ rfl⟩
def Inv.fresh {σ:St} (I:0#d):H s.heap.objs.size=none:=I.hok.fresh (d8 _)
def Inv.Ho {σ:St} (I:0#d) (hH:H l=some (.lst xs)):xs.length<=sizeLine/\∃(its:List aE) (n:Nat),Vals xs its/\xs.length=its.length/\s.heap.get? l=some { cls:=.type "list",data:=.seq its.toArray n }:=-by
 obtain ⟨z,its,n,r,e⟩:=I.hok l _ hH
 exact ⟨z,its,n,r,r.length,e⟩
def Ht (h:n<=sizeLine):Mn n=false:=-by
 unfold Mn
 exact g9 0#r
def yM:V->0#m->Hp->VK->Prop:=λx vs H Q=>∃l xs y,x=.ref l/\vs=[y]/\H l=some (.lst xs)/\xs.length<sizeLine/\Q .bG (upd H l (.lst (xs++[y])))
def Dc:MtM X "list.append" yM:=-by
 intro pins s σ H x vs v us Q I E D h
 obtain ⟨l,xs,y,rfl,rfl,A,hz,q⟩:=h
 cases E
 obtain ⟨u,rfl,B⟩:=D.one
 obtain ⟨z,p,n,r,hl,e⟩:=I.Ho A
 refine DL F.slot_list_append ⟨_,e,rfl⟩ F.entry_list_append (F.args_list_append_2 _ _) (PySem.list_append l p.toArray n u (by rw [jb];simp?)) ⟨e,?_⟩
 refine ⟨.bG,_,I.Zu (its':=p++[u]) A e 0#t (r.append (.cons B .nil)) ?_,rfl,q⟩
 rw [gA,IE]
 simp?
def yN:V->0#m->Hp->VK->Prop:=λx vs H Q=>∃l b xs zs,x=.ref l/\vs=[.ref b]/\H l=some (.lst xs)/\H b=some (.lst zs)/\xs.length+zs.length<=sizeLine/\Q .bG (upd H l (.lst (xs++zs)))
def NR:MtM X "list.extend" yN:=-by
 intro pins s σ H x vs v us Q I O N h
 obtain ⟨l,b,xs,zs,rfl,rfl,D,G,hz,q⟩:=h
 cases O
 obtain ⟨u,rfl,M⟩:=N.one
 cases M
 obtain ⟨z,A,n,r,hl,e⟩:=I.Ho D
 obtain ⟨z2,p,J,L,hl2,e2⟩:=I.Ho G
 have B:A.toArray.size+p.toArray.size<=sizeLine:=by rw [jb,jb];simp?
 have E:¬(!A.toArray.isEmpty&&Mn (A.toArray.size+p.toArray.size))=true:=by
  rw [Ht B,Bool.and_false]
  exact nv
 refine DL F.slot_list_extend ⟨_,e,rfl⟩ F.entry_list_extend (F.args_list_extend_2 _ _)
  (AutoSeq1.list_extend_list_list_0 l A.toArray n b p.toArray J E (by rw [jb];simp?) 0#r) ⟨e,e2,?_⟩
 refine ⟨.bG,_,I.Zu (its':=A++p) D e 0#t (r.append L) ?_,rfl,q⟩
 rw [gA]
 simp?
def uL:V->0#m->Hp->VK->Prop:=λx vs H Q=>∃l xs,x=.ref l/\vs=[]/\H l=some (.lst xs)/\Q .bG (upd H l (.lst xs.reverse))
def JK:MtM X "list.reverse" uL:=-by
 intro pins s σ H x vs v us Q I D B h
 obtain ⟨l,xs,rfl,rfl,A,q⟩:=h
 cases D
 have u:=B.zero
 subst u
 obtain ⟨z,p,n,r,hl,e⟩:=I.Ho A
 refine DL F.slot_list_reverse ⟨_,e,rfl⟩ F.entry_list_reverse (F.args_list_reverse_1 _) (AutoSeq1.list_reverse_list_0 l p.toArray n (by rw [jb];simp?)) ⟨e,?_⟩
 refine ⟨.bG,_,I.Zu (its':=p.reverse) A e 0#t r.reverse ?_,rfl,q⟩
 rw [List.length_reverse]
 simp?
def abr:R2:=λx y H Q=>∃l b xs zs,x=.ref l/\y=.ref b/\H l=some (.lst xs)/\H b=some (.lst zs)/\xs.length+zs.length<=sizeLine/\∀p,H p=none->Q (.ref p) (upd H p (.lst (xs++zs)))
def JW:qY X (mH .Add) abr:=-by
 intro pins s σ H x y v u Q I J L h
 obtain ⟨l,b,xs,zs,rfl,rfl,E,D,hz,q⟩:=h
 cases J
 cases L
 obtain ⟨z,A,n,r,hl,e⟩:=I.Ho E
 obtain ⟨z2,p,n2,G,hl2,e2⟩:=I.Ho D
 refine PySem.P.add_list e e2 ?_ (by rw [jb,jb];simp?)
 have B:A.toArray++p.toArray=(A++p).toArray:=by simp
 rw [B]
 exact ⟨.ref _,_,I.Zp (t':=s.toks) (r.append G) (by rw [gA];simp?),rfl,q _ I.fresh⟩
def abw:R2:=λx y H Q=>∃l k xs,x=.ref l/\y=.int k/\H l=some (.lst xs)/\-(2 ^ 63)<=k/\k<2 ^ 63/\xs.length*k.toNat<=sizeLine /\
 ∀p,H p=none->Q (.ref p) (upd H p (.lst (nj k.toNat xs).flatten))
def len_rep {α:Type} (xs:List α) (k:Nat):(nj k xs).flatten.length=k*xs.length:=-by
 induction k with
 | zero=>simp
 | succ k ih=>rw [HZ,Ih,gA,ih,Nat.succ_mul,DK]
def ZF:qY X (mH .Mult) abw:=-by
 intro pins s σ H x y v u Q I Z ry h
 obtain ⟨l,k,xs,rfl,rfl,S,O,R,L,q⟩:=h
 cases Z
 obtain ⟨t,rfl⟩:=ry
 obtain ⟨z,p,n,r,Y,e⟩:=I.Ho S
 have D:p.toArray.size*k.toNat<=sizeLine:=by rw [jb,<- Y];exact L
 have A:¬p.toArray.size*k.toNat>(2 ^ 63-1)/8:=by
  have:(sizeLine:Nat)<=(2 ^ 63-1)/8:=by decide
  simp?
 have B:¬(!Builtin.List.listFitsIndex k)=true:=by
  rw [fitsIndex_both O R]
  exact nv
 have M:¬Mn (p.toArray.size*k.toNat)=true:=by
  rw [Ht D]
  exact nv
 have E:SY (λG J=>G++J) #[] (nj (if p.toArray.isEmpty=true then 0 else k.toNat) p.toArray)=(nj k.toNat p).flatten.toArray:=by
  have N:∀m:Nat,SY (λG J=>G++J) #[] (nj m p.toArray)=(nj m p).flatten.toArray:=λm=>by
   have:=foldl_rep p m []
   rw [Xg] at this
   exact this
  rw [N]
  cases p with
  | nil=>simp
  | cons a r'=>rw [if_neg 0#t]
 refine wpAny_binaryOp_repeat_ref (T := "list") (U := "int") 0#s ⟨_,e,rfl⟩ (λs'=>SX s' k t) noFill_list_mul F.fills_int_mul F.slot_int_rmul repeat_list F.slot_int_index.lookup
  (DL F.slot_int_rmul (SX s k t) F.entry_int_rmul (F.args_int_rmul_2 _ _) (int___rmul___int_list k t l p.toArray n)
    ⟨e,rfl,⟨_,e,rfl⟩,DL F.slot_list_mul ⟨_,e,rfl⟩ F.entry_list_mul (F.args_list_mul_2 _ _) (AutoListH.list___mul___list_int_3 l p.toArray n k t B A M) ⟨e,?_⟩⟩)
 rw [E]
 exact ⟨.ref _,_,I.Zp (t':=s.toks) (r.rep k.toNat) (by rw [len_rep,Xz];exact L),rfl,q _ I.fresh⟩
end L2
namespace Att
open PySem PySem.W PySem.Calls PyProof.Rows
def ya:∀(ns:List Int) (vs:List aE),WellAll P h vs (ns.map WData.int)->IntsAre vs ns:=-by
 intro ns
 induction ns with
 | nil=>
   intro vs w
   rw [MS] at w
   cases w
   exact .nil
 | cons n ns ih=>
   intro vs w
   rw [xF] at w
   cases w with
   | cons a b=>
     cases a
     exact .cons _ _ (ih _ b)
def Oa {l:OpenLaw} (hn:l.most=some n) 
 (hpre:l.row.toRowW.claim.pre args=true) (hwl:WellAll P h vals args) :
 ∃a vs ns,vals=[Value.ref a]/\args=[WData.list (ns.map WData.int)]/\h.get? a=some { cls:=.type "list",data:=.seq vs.toArray }/\IntsAre vs ns/\ns.length<=n:=-by
 have z:WShape.hasAll [] args [.list .int]=true:=(pre_splitW hpre).1
 have A:l.pre.holds [] { args:=args }=true:=(pre_splitW hpre).2
 obtain ⟨d,r,rfl,B,D⟩:=hasAllW_cons z
 obtain rfl:=hasAllW_nil D
 obtain ⟨xs,rfl,E⟩:=hasW_list B
 obtain ⟨ns,rfl⟩:=items_int E
 have p:ns.length<=n:=by
  unfold OpenLaw.pre at A
  have u:(WTm.not (.lt (.lit (.int (n:Int))) (.len (.arg 0)))).holds [] { args:=[.list (ns.map .int)] }=true:=by
   have u:=(holds_andW A).1
   rw [hn] at u
   exact u
  have v:=condW_of u (w_not (w_lt w_lit (w_len_list (w_arg rfl))))
  rw [iR] at v
  refine Nat.le_of_not_lt λq=>?_
  have G:(n:Int)<((ns.length:Nat):Int):=by simp?
  first
   | (rw [dY G] at v;exact absurd v (by decide))
   | (simp at v;omega)
 cases hwl with
 | cons w1 w2=>
   cases w2
   cases w1 with
   | list ho hall=>exact ⟨_,_,ns,rfl,rfl,ho,ya ns _ hall,p⟩
def N3 (l:OpenLaw) (args:List WData):l.row.toRowW.claim.post args (.bool true) args=true:=
 postW_of (r:=l.row.toRowW) (X:=(true==true))
  (show XU [] (.bool true) .bool=true by first | rfl | decide | simp [XU,WShape.arms,WShape.armsAll])
  (show (WTm.eq .res (.lit (.bool true))).value [] { args:=args,res:=some (.bool true),after:=args }=some (.bool (true==true)) from w_eq_bool (w_res rfl) w_lit) rfl
def Gx {l:OpenLaw}
 (hn:l.most=some n) (hdf:d.params.defaults=[])
 (call:∀(w:dh) (s₀ s₁:aZ) (mg mb:0#h) (fa:af) (o:Obj) (pm cd doc:aE) (a:af) (vs:List aE) (ns:List Int),
   Ground q loose [] XP w s₀ mg mb s₁.heap->YP w s₁.heap ->
   s₁.heap.get? fa=some o->o.data=.func (docDef d.name d.params d.body d.scope pm cd doc)->s₁.heap.CodeRec cd d.name->mg d.name=some (.ref fa) ->
   s₁.heap.get? a=some { cls:=.type "list",data:=.seq vs.toArray }->IntsAre vs ns->ns.length<=n->s₁.gens=#[] ->
   xN (model l.prog w) B0 (.call (.ref fa) ⟨[.ref a],[]⟩) (λr s'=>r=.ok (.ret (.bool true))/\OldK s₁.heap s'.heap/\s'.os=s₁.os/\vc s'.gens) s₁) :
 WalkO q loose XP YP l.row.toRowW d [] (λf vs=>S2 f vs):=-by
 intro w s₀ s₁ mg mb G Y fa o pm cd doc H kV Q M A E B N args vals as z hlay hrd D hlo
 obtain rfl:H=.none:=Dflts.none E hdf
 obtain rfl:kV=.none:=Dflts.noKw E
 obtain ⟨a,vs,ns,rfl,rfl,v,p,u⟩:=Oa hn z D
 refine enter_call (MR (call w s₀ s₁ mg mb fa o pm cd doc a vs ns G Y Q (fd_plain M) A B v p u N) λr s' R=>?_)
 obtain ⟨rfl,I,J,L⟩:=R
 exact ⟨.inl ⟨.bool true,.bool true,[],rfl,λ_=>rfl,.bool true,N3 l _,λ_=>⟨List.Pairwise.nil,λ_ O=>(nomatch O)⟩⟩,I,J,L⟩
end Att
namespace L2
open PySem PySem.Spec PyProof.Rows
def Dt:∀{vs:List aE} {ns:List Int},IntsAre vs ns->Vals (ns.map V.int) vs
 | _,_,.nil=>.nil
 | _,_,.cons n t h=>.cons ⟨t,rfl⟩ (Dt h)
def Ye (H:Hp):Prop:=∀b,H b=none\/∃o xs,H b=some (.LG o (.lst xs))
def PR {K:bJ}
 (KX:K.In s₁.heap) (hns:s₁.heap.Ns dZ mg) (hb:s₁.heap.Ns builtinsNs mb) (hbb:∀x:Str,x ≠ "__name__"->mb x=rW x) (hlim:s₁.heap.NoLimit) (hg:s₁.gens=#[])
 (ha:s₁.heap.get? a=some { cls:=.type "list",data:=.seq vs.toArray }) (hi:IntsAre vs ns) (hl:ns.length<=sizeLine) (hr:gY k B0)
 (F:∀base:cA,K.In base->base.Ns dZ mg->aX P w K mg base CX k fa fd [x] sp) (hbind:∀(s:aZ) (u:aE),BindsTo s fd ⟨[u],[]⟩ [(x,u)])
 (VO:∀H:Hp,Ye H->bw K H a (ns.map V.int)->sp [.ref a] H (λv _=>v=.bl true) λ_ _ _=>False)
 (hCX:∀H e s',CX [] H s₁ (λ_ _ _=>False) e s'->False) :
 xN (model P w) B0 (.call (.ref fa) ⟨[.ref a],[]⟩) (λr s'=>r=.ok (.ret (.bool true))/\OldK s₁.heap s'.heap/\s'.os=s₁.os/\vc s'.gens) s₁:=-by
 have S:=Dt hi
 have J:=hi.length
  -- from an abstract heap in which nothing but the script may be tracked
 have A:∀H:Hp,Ye H->bw K H a (ns.map V.int)->vf P w H s₁.heap->(∀b,H b≠none->b=a)->(H a≠none->K.lookup a=none) ->
  xN (model P w) B0 (.call (.ref fa) ⟨[.ref a],[]⟩) (λr s'=>r=.ok (.ret (.bool true))/\OldK s₁.heap s'.heap/\s'.os=s₁.os/\vc s'.gens) s₁:=by
  intro H R hS G Q Z
  have O:∀{b:af} {o:Obj},s₁.heap.get? b=some o->H b=none->(Eb s₁.heap H).get? b=some o:=λe n=>Px e n
  have N:∀{b:af} {o:Obj} {es:Array DictEntry} {D:Nat},s₁.heap.get? b=some o->o.data=.dict es D->H b=none:=λ{b o es D} e d=>by
   cases q:H b with
   | none=>rfl
   | some u=>
     have M:b=a:=Q b (by rw [q];simp)
     subst M
     rw [ha] at e;cases e
     have U:Data.seq vs.toArray _=Data.dict es D:=d
     cases U
  have p:∀{b:af} {m:0#h},s₁.heap.Ns b m->(Eb s₁.heap H).Ns b m:=λ{b m} ⟨o,es,D,e,d,r⟩=>⟨o,es,D,O e (N e d),d,r⟩
  have E:K.In (Eb s₁.heap H):=λb o e=>O (KX b o e) (by
   cases q:H b with
   | none=>rfl
   | some u=>
     have M:b=a:=Q b (by rw [q];simp)
     subst M
     rw [Z (by rw [q];simp)] at e;cases e)
  have hM:Mod K mg (Eb s₁.heap H):=⟨E,p hns,⟨mb,p hb,hbb⟩,let ⟨mc,h1,h2⟩:=hlim;⟨mc,p h1,h2⟩⟩
  have Y:IT P w K mg (Eb s₁.heap H) B0 [] s₁ H:=⟨rfl,hM,λb o e=>UH e,Xy (ND _ _),trivial,λb hb=>absurd (show b∈([]:List af) from hb) 0#t,G,.of_eq hg⟩
  refine MR ((F _ E (p hns)).run B0 [] s₁ H ⟨[.ref a],[]⟩ [.ref a] [.ref a] _ _ hr Y (hbind s₁ (.ref a)) (.cons rfl .nil) (VO H R hS)) λr s' h=>?_
  cases r with
  | error e=>exact (hCX H e s' h).elim
  | ok fl=>
    cases fl with
    | next=>exact ou h
    | brk=>exact ou h
    | cont=>exact ou h
    | ret u=>
      obtain ⟨v,H',os,B,un,L,r',q⟩:=h
      have q':v=.bl true:=q
      subst q'
      obtain rfl:u=Value.bool true:=r'
      refine ⟨rfl,OldK.of_keep λb o e=>?_,os,B⟩
      cases q:H b with
      | none=>exact un.keep b o e q (by intro z;exact absurd (show b∈([]:List af) from z) 0#t) 0#t
      | some u=>
        rcases R b with z | ⟨ob,xs,z⟩
        ·rw [q] at z;cases z
        ·have z2:=un.D6 b ob _ z
         obtain ⟨e1,_⟩:=G b _ z
         obtain ⟨e2,_⟩:=L b _ z2
         rw [e] at e1;cases e1
         exact e2
 cases hk:K.lookup a with
 | some o=>
    -- the script is one of the module's own objects
   have e:=KX a o hk
   rw [ha] at e
   cases e
   refine A (λ_=>none) (λ_=>.inl rfl) (.inr ⟨_,vs.toArray,_,hk,rfl,rfl,rfl,by rw [jb,J];exact hl,by simpa using S⟩) (λb u z=>by have I:(none:Option HO)=some u:=z;cases I) (λb z=>absurd rfl z) λz=>absurd rfl z
 | none=>
   refine A (λb=>if b=a then some (.LG { cls:=.type "list",data:=.seq vs.toArray } (.lst (ns.map V.int))) else none) (λb=>?_) (.inl (.inr ⟨{ cls:=.type "list",data:=.seq vs.toArray },if_pos rfl⟩)) (λb u z=>?_) (λb z=>?_) λ_=>hk
   ·by_cases hb:b=a
    ·exact .inr ⟨_,_,if_pos hb⟩
    ·exact .inl (if_neg hb)
   ·by_cases hb:b=a
    ·have I:=(if_pos hb).symm.trans z
     cases I
     subst hb
     exact ⟨ha,by rw [iR];exact hl,vs,_,S,ha⟩
    ·have I:=(if_neg hb).symm.trans z
     cases I
   ·by_cases hb:b=a
    ·exact hb
    ·exact absurd (if_neg hb) z
def Vr {l:Sq} {n k:Nat} {q:fP} {XP:(Str->Option aE)->cA->Prop} {YP:dh->cA->Prop} {d:DefRec} {K:Params->bJ} {CX:dh->Ti} {sp:dh->Sp} {x:Str}
 (hn:l.most=some n) (hn2:n<=sizeLine) (hdf:d.params.defaults=[]) (hr:gY k B0)
 (hY:∀(w:dh) (h:cA),YP w h->(K w.params).In h)
 (F:∀(w:dh) (mg:0#h) (fa:af) (h:cA),(K w.params).In h->h.Ns dZ mg->mg d.name=some (.ref fa) ->
   ∃fd:fU,(∀(s:aZ) (u:aE),BindsTo s fd ⟨[u],[]⟩ [(x,u)]) /\
    ∀base:cA,(K w.params).In base->base.Ns dZ mg->aX l.prog w (K w.params) mg base (CX w) k fa fd [x] (sp w))
 (VO:∀(w:dh) (H:Hp) (a:af) (ns:List Int),ns.length<=n->Ye H->bw (K w.params) H a (ns.map V.int)->sp w [.ref a] H (λv _=>v=.bl true) λ_ _ _=>False)
 (hCX:∀(w:dh) (H:Hp) (s:aZ) (e:aE) (s':aZ),CX w [] H s (λ_ _ _=>False) e s'->False) :
 Xs q loose XP YP l.row.toRowW d [] (λf vs=>S2 f vs):=-by
 refine Att.Gx hn hdf λw s₀ B mg mb fa o pm cd doc a vs ns G Y ho hd hcd D A z p N=>?_
 have E:=hY w _ Y
 obtain ⟨fd,M,I⟩:=F w mg fa _ E G.T.g D
 exact PR E G.T.g G.T.b G.T.builtins G.T.nolimit N A z (iy p hn2) hr I M (λH J L=>VO w H a ns p J L) λH e s'=>hCX w H B e s'
noncomputable def inClass (s:aO) (j:Nat):aO:=match s with
 | .ClassDef _ _ _ body _ _ _ _ _ _ _=>body.getD j (.Pass ⟨0,0,0,0⟩)
 | _=>.Pass ⟨0,0,0,0⟩
noncomputable def eY (s:aO):Arguments:=match s with
 | .FunctionDef _ a _ _ _ _ _ _ _ _=>a
 | _=>{ posonlyargs:=[],args:=[],vararg:=none,kwonlyargs:=[],kw_defaults:=[],kwarg:=none,defaults:=[] }
noncomputable def dI (s:aO):List aO:=match s with
 | .FunctionDef _ _ b _ _ _ _ _ _ _=>b
 | _=>[]
noncomputable def bW (s:aO):oB:=match s with
 | .FunctionDef _ _ _ _ _ _ sc _ _ _=>sc
 | _=>{ kind:=.function,names:=[],isGenerator:=false,isCoroutine:=false }
abbrev cO:Ti:=λ_ _ _ _ _ _=>False
abbrev E0:XK:=λ_ _ _=>False
def L5:Passes cO X E0:=λ_ _ _ _ _ _ _ h=>h.elim
structure pM (K:bJ) (x qual:Str) (st:aO) (f:af) (fd:fU):Prop where
 ex:∃(oc:aE) (od:Option af) (kV doc pm:aE) (an:Option af) (cdv ct:aE) (osl:Array (Option aE)),
  fd=qU x qual (eY st) (dI st) (bW st) .none kV doc pm an cdv ct/\K.lookup f=some ⟨oc,od,.func fd,osl⟩/\u5 K cdv qual=true
 kp:ve K (.ref f)=true
def pM.ok {K:bJ} {st:aO} (F:pM K x qual st f fd) (S:tW N ps (bW st)) (len:∀vs H Q E,sp vs H Q E->vs.length=ps.length)
 (hbody:∀(cdv:aE) (A:mK) (outer:List Env) (s:aZ) (H:Hp) (vs:0#m) (Q:VK) (E:XK),gY k (A.deeper (r8 qual (bW st) s.heap.objs.size f cdv))->sp vs H Q E ->
   ∃t,IF (IZ cO P w K mg base N qual (bW st) f cdv A outer s H E).nox (dI st) t/\t { nx:=λ_ H'=>Q .bG H',rt:=Q } (start N vs) H):0#b (k+1) f fd ps sp:=-by
 obtain ⟨oc,od,kV,doc,pm,an,cdv,ct,osl,rfl,v,n⟩:=F.ex
 refine aaN v n S len λA outer s H vs Q E u p=>?_
 obtain ⟨t,h,q⟩:=hbody cdv A outer s H vs Q E u p
 exact ⟨t,h.nox,q⟩
def pM.dm {P:fP} {w:dh} {K:bJ} {mg:0#h} {base:cA} {x qual:Str} {st:aO} {f:af} {fd:fU} {N ps:List Str} {k:Nat} {sp:Sp} (F:pM K x qual st f fd) (S:tW N ps (bW st))
 (hbody:∀(cdv:aE) (A:mK) (outer:List Env) (s:aZ) (H:Hp) (vs:0#m) (Q:VK) (E:XK),gY k (A.deeper (r8 qual (bW st) s.heap.objs.size f cdv))->sp vs H Q E ->
   ∃t,IF (IZ cO P w K mg base N qual (bW st) f cdv A outer s H E).nox (dI st) t/\t { nx:=λ_ H'=>Q .bG H',rt:=Q } (start N vs) H) (len:∀vs H Q E,sp vs H Q E->vs.length=ps.length:=by intro _ _ _ _ h;cases h;subst_vars;rfl):0#b (k+1) f fd ps sp:=F.ok S len hbody
abbrev dS (K:bJ) (x:Str):=pM K x x
abbrev dB (n:Nat) (N:List Str) (st:aO):=tW N (N.take n) (bW st)
def pM.binds {K:bJ} {st:aO} (F:pM K x qual st f fd)
 (h:∀(kV doc pm:aE) (an:Option af) (cdv ct:aE) (us:List aE),us.length=ps.length->BZ (qU x qual (eY st) (dI st) (bW st) .none kV doc pm an cdv ct) ⟨us,[]⟩=pure (ps.zip us)):Binds K fd ps []:=-by
 obtain ⟨oc,od,kV,doc,pm,an,cdv,ct,osl,rfl,lk,hcd⟩:=F.ex
 exact .all (h kV doc pm an cdv ct)
def Jg {K:bJ} {x:Str} {st:aO} {f:af} {oc:aE} {od an:Option af} {osl:Array (Option aE)} {kV doc pm cdv ct:aE} (l:K.lookup f=some ⟨oc,od,.func (qU x qual (eY st) (dI st) (bW st) .none kV doc pm an cdv ct),osl⟩)
 (c:u5 K cdv qual=true) (k:ve K (.ref f)=true):pM K x qual st f (qU x qual (eY st) (dI st) (bW st) .none kV doc pm an cdv ct):=⟨⟨oc,od,kV,doc,pm,an,cdv,ct,osl,rfl,l,c⟩,k⟩
def aY (h:n<=1000):n<sizeLine:=Gd h 0#s
def pv {X:Cx} (i:Nat) {x:Str} {pos:Pos} (hN:X.N[i]?=some x:=by rfl) (hv:Vis X.env.scope x:=by first | exact Or.inl rfl | exact Or.inr (Or.inl rfl) | exact Or.inr (Or.inr rfl)) (hd:0#g:=by decide)
 (hcd:(x==("__classdict__":Str))=false:=by decide):PE X (.Name x pos) (Vk i):=ZG hN hv hd hcd
def bF {A:Prop} (h:B):if false=true then A else B:=-by
 rw [if_neg nv]
 exact h
def bO {A:Prop} (h:A):if true=true then A else B:=-by
 rw [if_pos rfl]
 exact h
def c7 {A:Prop} [Decidable c] (h1:c->A) (h2:¬c->B):if c then A else B:=-by
 by_cases h:c
 ·rw [if_pos h]
  exact h1 h
 ·rw [if_neg h]
  exact h2 h
def ah (H H':Hp):Prop:=∀b o,H b=some o->H' b=some o
def ah.refl (H:Hp):ah H H:=λ_ _ h=>h
def ah.trans (a:ah H H1) (b:ah H1 H2):ah H H2:=λc o h=>b c o (a c o h)
def ah.free (e:ah H H')  (h:H' l=Option.none):H l=Option.none:=-by
 cases q:H l with
 | none=>rfl
 | some o=>
   rw [e l o q] at h
   cases h
def ah.seq {K:bJ} (e:ah H H') (h:bw K H a xs):bw K H' a xs:=-by
 rcases h with (h | ⟨o,h⟩) | h
 ·exact .inl (.inl (e _ _ h))
 ·exact .inl (.inr ⟨o,e _ _ h⟩)
 ·exact .inr h
end L2
set_option maxHeartbeats 4000000
namespace Mth
def Sz (n:Nat) (x:Int):Prop:=x.natAbs<2 ^ n
instance {n:Nat} {x:Int}:Decidable (Sz n x):=inferInstanceAs (Decidable (x.natAbs<2 ^ n))
def Sz.mono (h:Sz m x) (hm:m<=n):Sz n x:=
 pD h (Mv 0#s hm)
def Sz.mul (hx:Sz m x) (hy:Sz n y):Sz (m+n) (x*y):=-by
 unfold Sz at *
 rw [DF,Nat.pow_add]
 exact Nat.mul_lt_mul'' hx hy
def Sz.add (hx:Sz m x) (hy:Sz m y):Sz (m+1) (x+y):=-by
 unfold Sz at *
 rw [Nat.pow_succ]
 have:=Ii x y
 simp?
def Sz.neg (hx:Sz m x):Sz m (-x):=-by
 unfold Sz at *
 rw [xE];exact hx
def Sz.sub (hx:Sz m x) (hy:Sz m y):Sz (m+1) (x-y):=-by
 rw [Int.sub_eq_add_neg];exact hx.add hy.neg
def Sz.of_le (hx:Sz m x) (h:y.natAbs<=x.natAbs):Sz m y:=Gd h hx
def Sz.log (hx:Sz m x) (hm:m<=9000) (h0:0<m):x.natAbs.log2<9000:=-by
 by_cases h:x.natAbs=0
 ·rw [h];decide
 ·have:=(Nat.log2_lt h).mpr hx
  simp?
def Sz.of_lt (h:x.natAbs<k) (hk:k<=2 ^ m):Sz m x:=pD h hk
structure S8 (t b t' b':Int):Prop where
 pos:1<=b'
 co:bT t' b'=1
 eq:t'*b=t*b'
 tb:t'.natAbs<=t.natAbs
 bb:b'.natAbs<=b.natAbs
def GK (x y:Nat):IB y (x % y)=IB x y:=-by
 rw [XA y,<- Nat.gcd_rec,XA]
def O3 (hb:b≠0):bT (t/(bT t b:Int)) (b/(bT t b:Int))=1:=-by
 have n:0<bT t b:=Oq t hb
 rw [Int.gcd_ediv (Ik ..) (Ij ..)]
 rw [Sf]
 exact Nat.div_self n
def C8 {g:Nat} (hg:0<g) (e:a*(g:Int)=c):a.natAbs<=c.natAbs:=-by
 subst e
 rw [DF,Sf]
 exact RV _ hg
def Zs {g:Nat} (hg:0<g) (e1:t'*(g:Int)=t) (e2:b'*(g:Int)=b) (hb:0<b) (hc:bT t' b'=1):S8 t b t' b':=-by
 refine ⟨?_,hc,?_,C8 hg e1,C8 hg e2⟩
 ·have:0<b':=Int.pos_of_mul_pos_left (b:=(g:Int)) (by rw [e2];exact hb) 0#r
  simp?
 ·rw [<- e1,<- e2,Int.mul_assoc,qQ (g:Int) b']
def El (hb:0<b):S8 t b (t.fdiv (bT t b:Int)) (b.fdiv (bT t b:Int)):=-by
 have u:0<bT t b:=Oq t 0#r
 have n:(bT t b:Int)∣t:=Ik ..
 have p:(bT t b:Int)∣b:=Ij ..
 rw [B3 _ 0#r,B3 _ 0#r]
 exact Zs u (WK n) (WK p) hb (O3 0#r)
def uh (a:Int) (g:Nat):a.fdiv (-(g:Int))=(-a).fdiv (g:Int):=-by
 have:=Int.neg_fdiv_neg a (-(g:Int))
 rw [SQ] at this
 exact this.symm
def UB (hb:b<0):S8 (-t) (-b) (t.fdiv (-(bT t b:Int))) (b.fdiv (-(bT t b:Int))):=-by
 have e:bT t b=bT (-t) (-b):=by rw [Int.gcd_neg,XI]
 rw [uh,uh,e]
 exact El 0#r
def OZ (hc:bT b a=1) (h:b∣a*d):b∣d:=-by
 have p:b.natAbs∣a.natAbs*d.natAbs:=by rw [<- DF];exact Mt.mpr h
 have n:XJ b.natAbs a.natAbs:=hc
 exact Mt.mp (n.dvd_of_dvd_mul_left p)
def Ak (hb:1<=b) (hd:1<=d) (h1:bT a b=1) (h2:bT c d=1) (e:a*d=c*b):a=c/\b=d:=-by
 have p:b∣d:=by
  have:b∣a*d:=⟨c,by rw [e,qQ]⟩
  exact OZ (by rw [SH];exact h1) this
 have u:d∣b:=by
  have:d∣c*b:=⟨a,by rw [<- e,qQ]⟩
  exact OZ (by rw [SH];exact h2) this
 have n:b=d:=Int.dvd_antisymm 0#r 0#r p u
 subst n
 exact ⟨Wi 0#r e,rfl⟩
def S8.self (h:S8 t b t' b') (hb:1<=b) (hc:bT t b=1):t'=t/\b'=b:=
 let ⟨a,c⟩:=Ak hb h.pos hc h.co h.eq.symm
 ⟨a.symm,c.symm⟩
def VT {α:Type} {l:List α} (h:l.length=n+1):∃a t,l=a::t/\t.length=n:=-by
 cases l with
 | nil=>cases h
 | cons a t=>exact ⟨a,t,rfl,XC h⟩
def fS {α:Type} {l:List α} (h:l.length=1):∃a,l=[a]:=-by
 obtain ⟨a,t,rfl,z⟩:=VT h
 cases RW.mp z
 exact ⟨a,rfl⟩
def adJ {α:Type} {l:List α} (h:l.length=2):∃a b,l=[a,b]:=-by
 obtain ⟨a,t,rfl,z⟩:=VT h
 obtain ⟨b,rfl⟩:=fS z
 exact ⟨a,b,rfl⟩
structure ie (H L high low x0 y0 x1 y1:Int):Prop where
 sg:(x0*y1-x1*y0=1/\0<=x0/\y0<=0/\x1<=0/\1<=y1)\/(x0*y1-x1*y0=-1/\x0<=0/\0<=y0/\0<=x1/\y1<=-1)
 eh:x0*H+y0*L=high
 el:x1*H+y1*L=low
 l0:0<=low
 lh:low<=high
 st:(x0=1/\y0=0/\x1=0/\y1=1)\/(y0≠0/\high<=L/\340282366920938463463374607431768211456<=high/\x0.natAbs<=x1.natAbs/\y0.natAbs<=y1.natAbs)
def ie.init (h0:0<=L) (h:L<=H):ie H L H L 1 0 0 1:=⟨.inl 0#r,by simp?,by simp?,h0,h,.inl 0#r⟩
def O2 {x:Int} (hx:0<=x) (hy:0<=y):(x/y).natAbs<=x.natAbs:=-by
 have h1:=MH (a:=x) y hx
 have h2:=Xh hx hy
 simp?
def Am {q:Int} (hq:1<=q) (hz:0<=z):z<=q*z:=-by
 have:=IC hq hz
 simp?
def sgA (a:0<=x0) (b:y0<=0) (c:x1<=0) (e:1<=y1) (k1:-x1<=-u) (k2:y1<=v):0<=x0-u/\y0-v<=-1/\x1.natAbs<=(x0-u).natAbs/\y1.natAbs<=(y0-v).natAbs:=by lia
def sgB {u:Int} (a:x0<=0) (b:0<=y0) (c:0<=x1) (e:y1<=-1) (k1:x1<=u) (k2:-y1<=-v):x0-u<=0/\1<=y0-v/\x1.natAbs<=(x0-u).natAbs/\y1.natAbs<=(y0-v).natAbs:=by lia
def ie.step (h:ie H L high low x0 y0 x1 y1) (hl:340282366920938463463374607431768211456<=low) (hq:q=high/low) :
 ie H L low (high-q*low) x1 y1 (x0-q*x1) (y0-q*y1):=-by
 obtain ⟨sg,O,A,l0,N,st⟩:=h
 have v:0<low:=Ib 0#s hl
 have B:1<=q:=by
  rw [hq];exact (Wv v).mpr (by rw [MX];exact N)
 have Q:high-q*low=high % low:=by rw [hq,Int.emod_def,qQ]
 have u:low<=L:=by
  rcases st with ⟨_,_,c,d⟩ | ⟨_,a,_⟩
  ·rw [<- A,c,d,Int.zero_mul,Int.zero_add,MX]
   exact XM _
  ·exact tS N a
 have p:x1*(y0-q*y1)-(x0-q*x1)*y1=-(x0*y1-x1*y0):=by grind
 have n:(x0-q*x1)*H+(y0-q*y1)*L=high-q*low:=by rw [<- O,<- A];grind
 rw [Q] at n ⊢
 rcases sg with ⟨d,a,b,c,e⟩ | ⟨d,a,b,c,e⟩
 ·have J:=Am B (z:=-x1) (Ot c)
  rw [SR] at J
  obtain ⟨D,E,G,I⟩:=sgA a b c e J (Am B (tS 0#s e))
  exact ⟨.inr ⟨p.trans (by rw [d]),c,tS 0#s e,D,E⟩,A,n,CT _ (SI v),rX (B6 _ v),.inr ⟨λz=>by rw [z] at e;exact absurd e 0#s,u,hl,G,I⟩⟩
 ·have M:=Am B (z:=-y1) (Ot (tS e 0#s))
  rw [SR] at M
  obtain ⟨D,E,G,I⟩:=sgB a b c e (Am B c) M
  exact ⟨.inl ⟨p.trans (by rw [d];rfl),c,tS e 0#s,D,E⟩,A,n,CT _ (SI v),rX (B6 _ v),.inr ⟨λz=>by rw [z] at e;exact absurd e 0#s,u,hl,G,I⟩⟩
def ie.Up (h:ie H L high low x0 y0 x1 y1) (h1:L<=H):high<=H:=-by
 obtain ⟨sg,eh,el,l0,lh,st⟩:=h
 rcases st with ⟨a,b,c,d⟩ | ⟨_,a,_⟩
 ·subst a b c d;simp?
 ·simp?
def ie.inv (h:ie H L high low x0 y0 x1 y1):∃p q p' q':Int,(0<=p/\0<=q/\0<=p'/\0<=q')/\p*high+q*low=H/\p'*high+q'*low=L/\p.natAbs=y1.natAbs/\p'.natAbs=x1.natAbs:=-by
 obtain ⟨sg,n,u,_,_,_⟩:=h
 have e1:y1*high+-y0*low=(x0*y1-x1*y0)*H:=by rw [<- n,<- u];grind
 have e2:-x1*high+x0*low=(x0*y1-x1*y0)*L:=by rw [<- n,<- u];grind
 rcases sg with ⟨d,a,b,c,e⟩ | ⟨d,a,b,c,e⟩ <;> rw [d] at e1 e2
 ·exact ⟨y1,-y0,-x1,x0,⟨tS 0#s e,Ot b,Ot c,a⟩,by rw [e1,MX],by rw [e2,MX],rfl,xE _⟩
 ·exact ⟨-y1,y0,x1,-x0,⟨Ot (tS e 0#s),b,c,Ot a⟩,by grind,by grind,xE _,rfl⟩
def K7 {X:Int} (q0:0<=q) (l0:0<=l) (e:p*h+q*l=X):p*h<=X:=-by
 rw [<- e]
 exact Int.le_add_of_nonneg_right (yy q0 l0)
def Mi {X:Int} (h1:1<=h) (p0:0<=p) (q0:0<=q) (l0:0<=l) (e:p*h+q*l=X):p.natAbs<=X.natAbs:=-by
 have a:=tS (qQ h p▸Am h1 p0) (K7 q0 l0 e)
 clear e
 lia
def ie.ZA (h:ie H L high low x0 y0 x1 y1) (hh:1<=high):x1.natAbs<=L.natAbs/\y1.natAbs<=H.natAbs:=-by
 obtain ⟨p,q,p',q',⟨a,b,c,d⟩,e1,e2,n,u⟩:=h.inv
 exact ⟨u▸Mi hh c d h.l0 e2,n▸Mi hh a b h.l0 e1⟩
def uR {B:Int} (hy:0<=y) (hh:340282366920938463463374607431768211456<=h) (hm:y*h<=B) (hB:B<115792089237316195423570985008687907853269984665640564039457584007913129639936):y.natAbs<=340282366920938463463374607431768211456:=-by
 have:=Int.mul_le_mul_of_nonneg_left hh hy
 lia
def ie.small (h:ie H L high low x0 y0 x1 y1) (hy:y0≠0) (hL:L<=H) (hH:H<115792089237316195423570985008687907853269984665640564039457584007913129639936) :
 x0.natAbs<=340282366920938463463374607431768211456/\y0.natAbs<=340282366920938463463374607431768211456/\x1.natAbs<=340282366920938463463374607431768211456/\y1.natAbs<=340282366920938463463374607431768211456:=-by
 rcases h.st with ⟨_,z,_⟩ | ⟨_,hl,n,A,B⟩
 ·exact absurd z hy
 obtain ⟨p,q,p',q',⟨a,b,c,d⟩,e1,e2,D,E⟩:=h.inv
 have u:=D▸uR a n (K7 b h.l0 e1) hH
 have v:=E▸uR c n (tS (K7 d h.l0 e2) hL) hH
 exact ⟨iy A v,iy B u,v,u⟩
def P0 {M:Int} (hx:x.natAbs<=M) (hy:y.natAbs<=M) (f0:0<=f) (f1:f<=T) (r0:0<=r) (r1:r<=T) (hs:(0<=x/\y<=0)\/(x<=0/\0<=y)):(x*f+y*r).natAbs<=M*T:=-by
 rcases hs with ⟨a,b⟩ | ⟨a,b⟩
 ·have n:=Iu (a:=x) (c:=M) (b:=f) (d:=T) 0#r f1 f0 0#r
  have p:=Iu (a:=-y) (c:=M) (b:=r) (d:=T) 0#r r1 r0 0#r
  have u:=yy a f0
  have v:=yy (a:=-y) (b:=r) 0#r r0
  rw [MY] at p v
  simp?
 ·have n:=Iu (a:=-x) (c:=M) (b:=f) (d:=T) 0#r f1 f0 0#r
  have p:=Iu (a:=y) (c:=M) (b:=r) (d:=T) 0#r r1 r0 0#r
  have u:=yy (a:=-x) (b:=f) 0#r f0
  have v:=yy (a:=y) (b:=r) 0#r r0
  rw [MY] at n u
  simp?
def PV {a b:Int} (f0:0<=f) (r0:0<=r) (tp:0<t) (t1:0<=a) (t2:0<=b) (t3:a<=l) (t4:b<=340282366920938463463374607431768211456*t) (t5:57896044618658097711785492504343953926634992332820282019728792003956564819968*t<=h) (mA:u.natAbs<=340282366920938463463374607431768211456*t) (mB:v.natAbs<=340282366920938463463374607431768211456*t):(a+u).natAbs+(b+v).natAbs<(h+f).natAbs+(l+r).natAbs:=-by
 have k1:=Ii a u
 have k2:=Ii b v
 have k3:(h+f).natAbs=h+f:=Dw (by lia)
 have k4:(l+r).natAbs=l+r:=Dw (by lia)
 have k5:=Dw t1
 have k6:=Dw t2
 generalize (a+u).natAbs=z1 at *
 generalize (b+v).natAbs=z2 at *
 generalize (h+f).natAbs=z3 at *
 generalize (l+r).natAbs=z4 at *
 generalize a.natAbs=z5 at *
 generalize b.natAbs=z6 at *
 generalize u.natAbs=z7 at *
 generalize v.natAbs=z8 at *
 lia
def ie.less (h:ie H L high low x0 y0 x1 y1) (hy:y0≠0) (hL:L<=H) (h1:57896044618658097711785492504343953926634992332820282019728792003956564819968<=H)
 (hH:H<115792089237316195423570985008687907853269984665640564039457584007913129639936) (hl:low<=340282366920938463463374607431768211456) (f0:0<=f) (f1:f<T) (r0:0<=r) (r1:r<T) :
 (x0*(H*T+f)+y0*(L*T+r)).natAbs+(x1*(H*T+f)+y1*(L*T+r)).natAbs<(H*T+f).natAbs+(L*T+r).natAbs:=-by
 obtain ⟨u,D,v,E⟩:=h.small hy hL hH
 rcases h.st with ⟨_,z,_⟩ | ⟨_,p,_,_,_⟩
 ·exact absurd z hy
 have A:x0*(H*T+f)+y0*(L*T+r)=high*T+(x0*f+y0*r):=by rw [<- h.eh];grind
 have B:x1*(H*T+f)+y1*(L*T+r)=low*T+(x1*f+y1*r):=by rw [<- h.el];grind
 have G:=rX f1
 have I:=rX r1
 have N:=P0 (M:=340282366920938463463374607431768211456) (MT.mpr u) (MT.mpr D) f0 G r0 I (h.sg.imp (λz=>⟨z.2.1,z.2.2.1⟩) λz=>⟨z.2.1,z.2.2.1⟩)
 have O:=P0 (M:=340282366920938463463374607431768211456) (MT.mpr v) (MT.mpr E) f0 G r0 I ((h.sg.imp (λz=>⟨z.2.2.2.1,tS 0#s z.2.2.2.2⟩) λz=>⟨z.2.2.2.1,tS z.2.2.2.2 0#s⟩).symm)
 have J:0<T:=WQ f0 f1
 have n:=rX J
 rw [A,B]
 exact PV f0 r0 J (yy (tS h.l0 h.lh) n) (yy h.l0 n) (IC p n) (IC hl n) (IC h1 n) N O
def LH (d:x0*y1-x1*y0=1\/x0*y1-x1*y0=-1):bT (x0*a+y0*b) (x1*a+y1*b)=bT a b:=-by
 refine Nat.dvd_antisymm ?_ ?_
 ·have n:(bT (x0*a+y0*b) (x1*a+y1*b):Int)∣x0*a+y0*b:=Ik ..
  have p:(bT (x0*a+y0*b) (x1*a+y1*b):Int)∣x1*a+y1*b:=Ij ..
  generalize (bT (x0*a+y0*b) (x1*a+y1*b))=g at n p
  obtain ⟨u,hu⟩:=n
  obtain ⟨v,hv⟩:=p
  refine XN ?_ ?_
  ·rcases d with d | d
   ·exact ⟨y1*u-y0*v,by
     have:(x0*y1-x1*y0)*a=g*(y1*u-y0*v):=by grind
     rw [d] at this;simp?⟩
   ·exact ⟨-(y1*u-y0*v),by
     have:-(x0*y1-x1*y0)*a=g*(-(y1*u-y0*v)):=by grind
     rw [d] at this;simp?⟩
  ·rcases d with d | d
   ·exact ⟨x0*v-x1*u,by
     have:(x0*y1-x1*y0)*b=g*(x0*v-x1*u):=by grind
     rw [d] at this;simp?⟩
   ·exact ⟨-(x0*v-x1*u),by
     have:-(x0*y1-x1*y0)*b=g*(-(x0*v-x1*u)):=by grind
     rw [d] at this;simp?⟩
 ·have n:(bT a b:Int)∣a:=Ik ..
  have p:(bT a b:Int)∣b:=Ij ..
  exact XN (XO (Mp n) (Mp p)) (XO (Mp n) (Mp p))
def ie.gcd (h:ie H L high low x0 y0 x1 y1):bT (x0*a+y0*b) (x1*a+y1*b)=bT a b:=
 LH (h.sg.imp (·.1) (·.1))
def LI (lo:(2:Int) ^ (255+t)<=x) (hi:x<(2:Int) ^ (256+t)) :
 57896044618658097711785492504343953926634992332820282019728792003956564819968<=x/2 ^ t/\x/2 ^ t<115792089237316195423570985008687907853269984665640564039457584007913129639936:=-by
 have n:(0:Int)<2 ^ t:=SS 0#s
 refine ⟨(Wv n).mpr ?_,(Int.ediv_lt_iff_lt_mul n).mpr ?_⟩
 ·rw [XQ] at lo;exact lo
 ·rw [XQ] at hi;exact hi
def Jw (h:ie H L high low x0 y0 x1 y1) (hy:y0≠0) (yx:y<=x) (lo:(2:Int) ^ (255+t)<=x) (hi:x<(2:Int) ^ (256+t))
 (eH:H=x/2 ^ t) (eL:L=y/2 ^ t) (hl:low<=340282366920938463463374607431768211456) :
 (x0*x+y0*y).natAbs+(x1*x+y1*y).natAbs<x.natAbs+y.natAbs:=-by
 have p:(0:Int)<2 ^ t:=SS 0#s
 have u:=LI lo hi
 have e1:=Mu x (2 ^ t)
 have e2:=Mu y (2 ^ t)
 have A:=CT x (b:=2 ^ t) 0#r
 have B:=CT y (b:=2 ^ t) 0#r
 have v:=B6 x p
 have z:=B6 y p
 have n:L<=H:=by rw [eH,eL];exact Sm p yx
 have:=h.less hy n (by rw [eH];exact u.1) (by rw [eH];exact u.2) hl A v B z
 rw [eH,eL,qQ (x/2 ^ t),qQ (y/2 ^ t),e1,e2] at this
 exact this
def sG (hp:p=if b>a then b else a) (hq:q=if b<a then b else a):bT p q=bT a b:=-by
 subst hp hq
 by_cases h:b>a
 ·rw [if_pos h,if_neg 0#r];exact SH b a
 ·by_cases k:b<a
  ·rw [if_neg h,if_pos k]
  ·have:a=b:=by simp?
   subst this;simp
def P5 (A B:Nat):0<=(if (B:Int)<(A:Int) then (B:Int) else (A:Int)):=-by
 split
 ·exact Ia _
 ·exact Ia _
def JJ (A B:Nat):((if (B:Int)>(A:Int) then (B:Int) else (A:Int))=(B:Int)/\(if (B:Int)<(A:Int) then (B:Int) else (A:Int))=(A:Int)/\(A:Int)<=(B:Int))\/((if (B:Int)>(A:Int) then (B:Int) else (A:Int))=(A:Int)/\(if (B:Int)<(A:Int) then (B:Int) else (A:Int))=(B:Int)/\(B:Int)<=(A:Int)):=-by
 rcases MU (A:Int) (B:Int) with h | h
 ·exact .inl ⟨if_pos h,if_neg (xK.mpr (rX h)),rX h⟩
 ·refine .inr ⟨if_neg (xK.mpr h),?_,h⟩
  split
  ·rfl
  ·rename_i n
   exact Int.le_antisymm (xK.mp n) h
def P4 (A B:Nat):(if (B:Int)<(A:Int) then (B:Int) else (A:Int))<=(if (B:Int)>(A:Int) then (B:Int) else (A:Int)):=-by
 rcases JJ A B with ⟨e1,e2,h⟩ | ⟨e1,e2,h⟩ <;> rw [e1,e2] <;> exact h
def JI {z:Int} (h:A+B<=z.natAbs):((if (B:Int)>(A:Int) then (B:Int) else (A:Int))+(if (B:Int)<(A:Int) then (B:Int) else (A:Int))).natAbs<=z.natAbs:=-by
 rcases JJ A B with ⟨e1,e2,_⟩ | ⟨e1,e2,_⟩ <;> rw [e1,e2]
 ·exact iy (Ii _ _) (by rw [DK];exact h)
 ·exact iy (Ii _ _) h
def VU {A:Nat} (ls:A+B<x.natAbs+y.natAbs) (y0:0<=y) (yx:y<=x):M7 (if (B:Int)>(A:Int) then (B:Int) else (A:Int))+M7 (if (B:Int)<(A:Int) then (B:Int) else (A:Int))<M7 x+M7 y:=-by
 have n:x.toNat=x.natAbs:=WL (tS y0 yx) |> λe=>Xu (e.trans (Dw (tS y0 yx)).symm)
 have p:y.toNat=y.natAbs:=WL y0 |> λe=>Xu (e.trans (Dw y0).symm)
 rw [n,p]
 rcases JJ A B with ⟨e1,e2,_⟩ | ⟨e1,e2,_⟩ <;> rw [e1,e2,Sj,Sj]
 ·rw [DK]
  exact ls
 ·exact ls
def VV {x:Int} (ls:A+B<x.natAbs+y.natAbs) (y0:0<=y) (yx:y<=x):A+B<=(x+y).natAbs:=by simp?
def YK (y0:0<=y):1*x+-(x.fdiv y)*y=x % y:=-by
 have n:=Mu x y
 rw [qQ] at n
 rw [B3 _ y0,MY]
 simp?
def T4 {x:Int} (y1:1<=y) (yx:y<=x):(0*x+1*y).natAbs+(1*x+-(x.fdiv y)*y).natAbs<x.natAbs+y.natAbs:=-by
 have m0:=CT x (b:=y) 0#r
 have m1:=B6 x (b:=y) 0#r
 rw [YK 0#r]
 simp?
structure Qt (t b:Int) (q:Rat):Prop where
 pos:1<=b
 eq:(t:Rat)=q*(b:Rat)
structure Fr (t b:Int) (q:Rat):Prop where
 pos:1<=b
 co:bT t b=1
 eq:(t:Rat)=q*(b:Rat)
def Fr.qt (h:Fr t b q):Qt t b q:=⟨h.pos,h.eq⟩
def dH {b:Int} (h:b≠0):(b:Rat)≠0:=-by
 intro e
 first|exact h|refine h ?_|refine h ?_ ?_
 have:((b:Int):Rat)=((0:Int):Rat):=by rw [e];rfl
 exact DE.mp this
def Fr.JL (h:S8 T B t b) (hB:B≠0) (e:(T:Rat)=q*(B:Rat)):Fr t b q:=-by
 refine ⟨h.pos,h.co,?_⟩
 have k:=congrArg (λx:Int=>(x:Rat)) h.eq
 simp only [ni] at k
 have hB':=dH hB
 grind
def Fr.unique (h:Fr t b q) (h':Fr t' b' q):t=t'/\b=b':=-by
 refine Ak h.pos h'.pos h.co h'.co ?_
 have e:((t*b':Int):Rat)=((t'*b:Int):Rat):=by
  have e1:=h.eq
  have e2:=h'.eq
  simp only [ni]
  grind
 exact DE.mp e
def Fr.worth (h:Fr t b q) (h':Fr t' b' q') (e:t=t') (e':b=b'):q=q':=-by
 subst e e'
 have hb:=dH (b:=b) (by have:=h.pos;simp?)
 have e1:=h.eq
 have e2:=h'.eq
 grind
def uD {b:Int} (hb:1<=b) (hd:1<=d):1<=b*d:=-by
 have:=u6 (show 0<b by simp?) (show 0<d by simp?)
 simp?
def Qt.plus (h:Qt a b q) (k:Qt c d r):Qt (a*d+c*b) (b*d) (q+r):=-by
 refine ⟨uD h.pos k.pos,?_⟩
 have e1:=h.eq
 have e2:=k.eq
 simp only [ni,Ip]
 grind
def Qt.minus (h:Qt a b q) (k:Qt c d r):Qt (a*d-c*b) (b*d) (q-r):=-by
 refine ⟨uD h.pos k.pos,?_⟩
 have e1:=h.eq
 have e2:=k.eq
 simp only [ni,rR]
 grind
def Qt.times (h:Qt a b q) (k:Qt c d r):Qt (a*c) (b*d) (q*r):=-by
 refine ⟨uD h.pos k.pos,?_⟩
 have e1:=h.eq
 have e2:=k.eq
 simp only [ni]
 grind
def Qt.neg (h:Qt a b q):Qt (-a) b (-q):=-by
 refine ⟨h.pos,?_⟩
 have e1:=h.eq
 simp only [MO]
 grind
def Qt.whole (m:Int):Qt m 1 (m:Rat):=⟨by simp?,by simp⟩
def Fr.whole (m:Int):Fr m 1 (m:Rat):=⟨by simp?,by simp,by simp⟩
def Fr.neg {a b:Int} {q:Rat} (h:Fr a b q):Fr (-a) b (-q):=⟨h.pos,by rw [XI];exact h.co,h.qt.neg.eq⟩
def Qt.div (h:Qt a b q) (hs:0<s):Qt a (b*s) (q/(s:Rat)):=-by
 refine ⟨uD h.pos 0#r,?_⟩
 have e1:=h.eq
 have hs':=dH (b:=s) 0#r
 simp only [ni]
 grind
def Qt.adg (h:Qt a b q) (hs:s<0):Qt (-a) (b*-s) (q/(s:Rat)):=-by
 have k:=h.neg.div (s:=-s) 0#r
 have hs':=dH (b:=s) 0#r
 have e:-q/((-s:Int):Rat)=q/(s:Rat):=by
  simp only [MO]
  grind
 rw [e] at k
 exact k
def UQ (h:Qt a b q) (k:Qt c d r) (hc:c≠0):b*c≠0/\((a*d:Int):Rat)=q/r*((b*c:Int):Rat):=-by
 have hb:=h.pos
 have hd:=k.pos
 refine ⟨Int.mul_ne_zero 0#r hc,?_⟩
 have e1:=h.eq
 have e2:=k.eq
 have n:=dH hc
 have hd':=dH (b:=d) 0#r
 have hr:r≠0:=by
  intro z
  rw [z] at e2
  first|exact n|refine n ?_|refine n ?_ ?_
  grind
 simp only [ni]
 grind
def Qt.qP (h:Qt a b q):a=0↔q=0:=-by
 have e:=h.eq
 have hb:=dH (b:=b) (by have:=h.pos;simp?)
 constructor
 ·intro z
  subst z
  have:(0:Rat)=q*(b:Rat):=by rw [<- e];rfl
  grind
 ·intro z
  subst z
  have:((a:Int):Rat)=((0:Int):Rat):=by rw [e];grind
  exact DE.mp this
def Qt.lt_iff (h:Qt a b q) (k:Qt c d r):a*d<c*b↔q<r:=-by
 have e1:=h.eq
 have e2:=k.eq
 have p:(0:Rat)<(b:Rat):=by have:=h.pos;exact Iq.mpr 0#r
 have u:(0:Rat)<(d:Rat):=by have:=k.pos;exact Iq.mpr 0#r
 have n:(0:Rat)<(b:Rat)*(d:Rat):=MZ p u
 have l:((a*d:Int):Rat)=q*((b:Rat)*(d:Rat)):=by simp only [ni];grind
 have m:((c*b:Int):Rat)=r*((b:Rat)*(d:Rat)):=by simp only [ni];grind
 rw [<- vd,l,m]
 exact Ga n
noncomputable def cG (q:Rat):Rat:=if q<0 then -q else q
def U6 (q:Rat):0<=cG q:=by unfold cG;split <;> grind
def oV:cG q<=w↔-w<=q/\q<=w:=by unfold cG;split <;> grind
def Qt.abs (h:Qt a b q):Qt (a.natAbs:Int) b (cG q):=-by
 have hb:(0:Rat)<(b:Rat):=by have:=h.pos;exact Iq.mpr 0#r
 have z:a<0↔q<0:=by
  have l:=Qt.lt_iff h (Qt.whole 0)
  simp at l
  exact l
 unfold cG
 by_cases h0:a<0
 ·rw [if_pos (z.mp h0)]
  have e:(a.natAbs:Int)=-a:=by simp?
  rw [e]
  exact h.neg
 ·rw [if_neg (λq=>h0 (z.mpr q))]
  have e:(a.natAbs:Int)=a:=by simp?
  rw [e]
  exact h
noncomputable def cS (t:Rat) (q:Rat) (u:Rat) (t':Rat) (q':Rat):Rat:=(q*(t'-u)+q'*(u-t))/(t'-t)
def wV (h:t≠t'):q+(q'-q)/(t'-t)*(u-t)=cS t q u t' q':=-by
 unfold cS
 have:t'-t≠0:=by grind
 grind
def Fr.own (q:Rat):Fr q.num (q.den:Int) q:=-by
 have hp:=q.den_pos
 have hd:((q.den:Int):Rat)≠0:=dH 0#r
 refine ⟨by simp?,?_,?_⟩
 ·have:=q.reduced
  exact this
 ·have h:=Rat.num_divInt_den q
  rw [Rat.divInt_eq_div] at h
  grind
def Fr.Ep (h:Fr t b q):t=q.num/\b=(q.den:Int):=h.unique (Fr.own q)
noncomputable def eU {α:Type} (s:α->Bool) (es:List α) (i:Nat):Bool:=decide (0<i)&&((es[i-1]?).map s).getD false
noncomputable def parts {α:Type} (s:α->Bool) (es:List α):Nat->List (List α)
 | 0=>[]
 | i+1=>match es[i]? with
   | none=>parts s es i
   | some e=>if s e=true then (if eU s es i=true then (parts s es i).dropLast++[((parts s es i).getLast?.getD [])++[e]] else parts s es i++[[e]]) else parts s es i
section
variable {α:Type} {s:α->Bool} {es:List α} {i:Nat} {e:α}
def Dd (h:es[i]?=some e) (hs:s e=false):parts s es (i+1)=parts s es i:=-by
 show (match es[i]? with | none=>_ | some e=>_)=_
 rw [h]
 show (if s e=true then _ else _)=_
 rw [hs]
 rfl
def vS (h:es[i]?=some e) (hs:s e=true) (hi:eU s es i=false):parts s es (i+1)=parts s es i++[[e]]:=-by
 show (match es[i]? with | none=>_ | some e=>_)=_
 rw [h]
 show (if s e=true then (if eU s es i=true then _ else _) else _)=_
 rw [hs,hi]
 rfl
def HF (h:es[i]?=some e) (hs:s e=true) (hi:eU s es i=true) (hp:parts s es i=t++[r]):parts s es (i+1)=t++[r++[e]]:=-by
 show (match es[i]? with | none=>_ | some e=>_)=_
 rw [h]
 show (if s e=true then (if eU s es i=true then _ else _) else _)=_
 rw [hs,hi,hp]
 simp
def vR:∀i:Nat,(parts s es i).length<=i
 | 0=>d8 _
 | i+1=>by
   have ih:=vR i
   show (match es[i]? with | none=>_ | some e=>_:List (List α)).length<=i+1
   cases es[i]? with
   | none=>exact Sk ih
   | some e=>
     show (if s e=true then (if eU s es i=true then _ else _) else _:List (List α)).length<=i+1
     split
     ·split
      ·rw [gA,List.length_dropLast]
       simp
       simp?
      ·rw [gA]
       simp
       simp?
     ·exact Sk ih
def AD (h:eU s es i=true):∃t r,parts s es i=t++[r]:=-by
 unfold eU at h
 rw [Gg] at h
 obtain ⟨p,n⟩:=h
 have p:=dF p
 obtain ⟨j,rfl⟩:∃j,i=j+1:=⟨i-1,by simp?⟩
 rw [Mz] at n
 cases e:es[j]? with
 | none=>rw [e] at n;simp at n
 | some d=>
   rw [e] at n
   have u:s d=true:=by simpa using n
   cases hr:eU s es j with
   | true=>
     refine ⟨(parts s es j).dropLast,((parts s es j).getLast?.getD [])++[d],?_⟩
     show (match es[j]? with | none=>_ | some e=>_)=_
     rw [e]
     show (if s d=true then (if eU s es j=true then _ else _) else _)=_
     rw [u,hr]
     rfl
   | false=>exact ⟨_,_,vS e u hr⟩
def Ai (h:es[i]?=some e):eU s es (i+1)=s e:=-by
 unfold eU
 rw [Mz,h]
 simp
end
def AQ (h:0<s):cG (q*s)=cG q*s:=-by
 unfold cG
 by_cases h0:q<0
 ·have:q*s<0:=by
   have:=Ld h0 h
   grind
  rw [if_pos h0,if_pos this]
  grind
 ·have:¬q*s<0:=by
   have n:0<=q:=by grind
   have:=DG n (show 0<=s by grind)
   grind
  rw [if_neg h0,if_neg this]
def cast_pos {b:Int} (h:0<b):(0:Rat)<(b:Rat):=Iq.mpr h
def Gy {t:Int} (h:t<t'):((t':Rat)-(t:Rat))≠0:=-by
 have:(t:Rat)<(t':Rat):=vd.mpr h
 grind
def nH (h:t'-t≠0):cS t q u t' q'*(t'-t)=q*(t'-u)+q'*(u-t):=-by
 unfold cS
 grind
def YG (hi:Fr a b qi) (hj:Fr a' b' qj) (hp:Fr c e qp) (h:ti<tj) :
 Qt (c*(b'*b*(tj-ti))-e*(a*(b'*(tj-ti))+(a'*b-a*b')*(tp-ti))) e ((qp-cS ti qi tp tj qj)*((b'*b*(tj-ti):Int):Rat)):=-by
 refine ⟨hp.pos,?_⟩
 have e1:=hi.eq
 have e2:=hj.eq
 have e3:=hp.eq
 have hX:=nH (t:=(ti:Rat)) (q:=qi) (u:=(tp:Rat)) (t':=(tj:Rat)) (q':=qj) (Gy h)
 simp only [ni,rR,Ip]
 generalize cS (ti:Rat) qi (tp:Rat) (tj:Rat) qj=X at *
 grind
structure pF (s:Nat->Rat) (i m k:Nat):Prop where
 lo:i<k
 hi:k<m
 top:∀k',i<k'->k'<m->s k'<=s k
 fst:∀k',i<k'->k'<k->s k'<s k
section
variable {s s':Nat->Rat} {i m k k':Nat} {c:Rat}
def pF.first:pF s i (i+2) (i+1):=⟨by simp?,by simp?,λk' h1 h2=>by
 obtain rfl:k'=i+1:=by simp?
 exact ko,λk' h1 h2=>by simp?⟩
def pF.keep (h:pF s i m k) (h1:s m<=s k):pF s i (m+1) k:=⟨h.lo,by have:=h.hi;simp?,λk' h2 h3=>by
 by_cases e:k'=m
 ·subst e;exact h1
 ·exact h.top k' h2 0#r,h.fst⟩
def pF.next (h:pF s i m k) (h1:s k<s m):pF s i (m+1) m:=⟨by have:=h.lo;have:=h.hi;simp?,by simp?,λk' h2 h3=>by
 by_cases e:k'=m
 ·subst e;exact ko
 ·have:=h.top k' h2 0#r
  grind,λk' h2 h3=>by
 have:=h.top k' h2 0#r
 grind⟩
end
structure xR (L:Nat->Nat->Prop) (N:Nat) (t:Nat->Int):Prop where
 first:t 0=0
 le:∀i j,i<j->j<N->L i j->t j<=t i+1
 ex:∀j,0<j->j<N->∃i,i<j/\L i j/\t j=t i+1
structure oJ (L:Nat->Nat->Prop) (N f:Nat) (t:Nat->Int):Prop where
 first:t 0=0
 le:∀i j,i<f->i<j->j<N->L i j->t j<=t i+1
 ex:∀j,0<j->j<N->t j=(N:Int)\/∃i,i<f/\i<j/\L i j/\t j=t i+1
 lo:∀j,j<N->0<=t j
 hi:∀j,j<N->t j<=(N:Int)
def oJ.start:oJ L N 0 (λj=>if j=0 then 0 else (N:Int)):=-by
 refine ⟨rfl,λi j h=>absurd h (xC _),λj h0 _=>.inl (if_neg 0#r),λj _=>?_,λj _=>?_⟩ <;> (show _<=_;split <;> simp?)
def oJ.step (h:oJ L N f t) (hL:∀j,L f j->f<j) (e:∀j,j<N->(L f j->u j=if t f+1<t j then t f+1 else t j)/\(¬L f j->u j=t j)) (hf:f<N):oJ L N (f+1) u:=-by
 have same:∀i,i<=f->i<N->u i=t i:=λi O M=>(e i M).2 λz=>by have:=hL i z;simp?
 have J:u 0=0:=by rw [same 0 0#r 0#r];exact h.first
 have hl:=h.lo f hf
 refine ⟨J,λi j O E n v=>?_,λj A n=>?_,λj n=>?_,λj n=>?_⟩
 ·rw [same i 0#r 0#r]
  by_cases hi':i=f
  ·subst hi'
   rw [(e j n).1 v]
   split <;> simp?
  ·have B:=h.le i j 0#r E n v
   by_cases hLf:L f j
   ·rw [(e j n).1 hLf]
    split <;> simp?
   ·rw [(e j n).2 hLf]
    exact B
 ·by_cases hLf:L f j
  ·have D:=hL j hLf
   have p:=(e j n).1 hLf
   by_cases hc:t f+1<t j
   ·rw [if_pos hc] at p
    exact .inr ⟨f,by simp?,D,hLf,by rw [p,same f 0#r hf]⟩
   ·rw [if_neg hc] at p
    rcases h.ex j A n with z | ⟨i,Q,G,H,I⟩
    ·exact .inl (p.trans z)
    ·exact .inr ⟨i,by simp?,G,H,by rw [p,same i 0#r 0#r];exact I⟩
  ·have p:=(e j n).2 hLf
   rcases h.ex j A n with z | ⟨i,Q,G,H,I⟩
   ·exact .inl (p.trans z)
   ·exact .inr ⟨i,by simp?,G,H,by rw [p,same i 0#r 0#r];exact I⟩
 ·have B:=h.lo j n
  by_cases hLf:L f j
  ·rw [(e j n).1 hLf]
   split <;> simp?
  ·rw [(e j n).2 hLf]
   exact B
 ·have B:=h.hi j n
  by_cases hLf:L f j
  ·rw [(e j n).1 hLf]
   split <;> simp?
  ·rw [(e j n).2 hLf]
   exact B
def oJ.done (h:oJ L N f t) (hs:∀j,0<j->j<N->L (j-1) j) (hf:N<=f+1):xR L N t:=-by
 have up:∀j,j<N->t j<=(j:Int):=by
  intro j
  induction j with
  | zero=>intro _;rw [h.first];simp?
  | succ j ih=>
    intro n
    have h1:=ih 0#r
    have h2:=h.le j (j+1) 0#r 0#r n (hs (j+1) 0#r n)
    simp?
 refine ⟨h.first,λi j p n v=>h.le i j 0#r p n v,λj u n=>?_⟩
 rcases h.ex j u n with z | ⟨i,i1,A,B,D⟩
 ·have:=up j n
  simp?
 ·exact ⟨i,A,B,D⟩
def Cv {α:Type} (N:Nat) (f:Nat->α) (j:Nat) (v:α):((fN N).map f).set j v=(fN N).map (λi=>if i=j then v else f i):=-by
 first|exact WZ|refine WZ ?_|refine WZ ?_ ?_
 intro i
 rw [List.getElem?_set]
 by_cases hi:i<N
 ·rw [lZ,CS hi,lZ,CS hi]
  by_cases e:j=i
  ·subst e
   simp [hi]
  ·have n:¬i=j:=λz=>e z.symm
   simp [e,n]
 ·have p:(fN N)[i]?=none:=by simp;simp?
  rw [lZ,lZ,p]
  by_cases e:j=i
  ·subst e
   simp;simp?
  ·simp [e]
def uB {α:Type} {f:Nat->α} (h:j<N):((fN N).map f)[j]?=some (f j):=-by
 rw [lZ,CS h]
 rfl
def rF {a:Rat} (h:0<c):a/c<=b↔a<=b*c:=-by
 have e:a/c*c=a:=by grind
 constructor
 ·intro z
  have:=wO z (show 0<=c by grind)
  rw [e] at this
  exact this
 ·intro z
  exact Mm (by rw [e];exact z) h
def oW {a:Rat} (h:0<c):a<=b/c↔a*c<=b:=-by
 have e:b/c*c=b:=by grind
 constructor
 ·intro z
  have:=wO z (show 0<=c by grind)
  rw [e] at this
  exact this
 ·intro z
  exact Mm (by rw [e];exact z) h
def DZ (h1:ti<tk) (h2:tk<tj) :
 cG (qk-cS ti qi tk tj qj)<=β↔(qk-β-qi)/(tk-ti)<=(qj-qi)/(tj-ti)/\(qj-qi)/(tj-ti)<=(qk+β-qi)/(tk-ti):=-by
 rw [<- wV (u:=tk) (show ti≠tj by grind)]
 have n:0<tk-ti:=by grind
 generalize (qj-qi)/(tj-ti)=s
 rw [oV,rF n,oW n]
 constructor <;> rintro ⟨a,b⟩ <;> constructor <;> grind
noncomputable def Zq (t v:Nat->Rat) (B:Rat) (i j:Nat):Rat:=(v j-B-v i)/(t j-t i)
noncomputable def Zb (t v:Nat->Rat) (B:Rat) (i j:Nat):Rat:=(v j+B-v i)/(t j-t i)
noncomputable def Vj (t v:Nat->Rat) (i j k:Nat):Rat:=v j-cS (t i) (v i) (t j) (t k) (v k)
def aaz (t:Nat->Rat) (n:Nat):Prop:=∀i j,i<j->j<n->t i<t j
def qe (s:Rat) (h:ta<tc):cS ta (x-s*ta) tb tc (y-s*tc)=cS ta x tb tc y-s*tb:=-by
 have h1:=nH (t:=ta) (q:=x-s*ta) (u:=tb) (t':=tc) (q':=y-s*tc) (by grind)
 have h2:=nH (t:=ta) (q:=x) (u:=tb) (t':=tc) (q':=y) (by grind)
 have n:tc-ta≠0:=by grind
 have e:(cS ta (x-s*ta) tb tc (y-s*tc)-(cS ta x tb tc y-s*tb))*(tc-ta)=0:=by grind
 rcases Xi.mp e with z | z
 ·grind
 ·exact absurd z n
def GB (h1:ta<tb) (h2:tb<tc) (hx:x<M) (hy:y<M):cS ta x tb tc y<M:=-by
 have e:=nH (t:=ta) (q:=x) (u:=tb) (t':=tc) (q':=y) (by grind)
 have p1:=(Ga (show 0<tc-tb by grind)).mpr hx
 have p2:=(Ga (show 0<tb-ta by grind)).mpr hy
 refine (Ga (show 0<tc-ta by grind)).mp ?_
 rw [e]
 grind
def GA (h1:ta<tb) (h2:tb<tc) (hx:M<x) (hy:M<y):M<cS ta x tb tc y:=-by
 have e:=nH (t:=ta) (q:=x) (u:=tb) (t':=tc) (q':=y) (by grind)
 have p1:=(Ga (show 0<tc-tb by grind)).mpr hx
 have p2:=(Ga (show 0<tb-ta by grind)).mpr hy
 refine (Ga (show 0<tc-ta by grind)).mp ?_
 rw [e]
 grind
def Lk (h1:t i<t j) (h2:t j<t k) (a:B<(v j-s*t j)-(v i-s*t i)) (b:B<(v j-s*t j)-(v k-s*t k)):B<Vj t v i j k:=-by
 have c:=GB (M:=v j-s*t j-B) h1 h2 (show v i-s*t i<_ by grind) (show v k-s*t k<_ by grind)
 rw [qe s (by grind)] at c
 unfold Vj
 grind
def Lp (h1:t i<t j) (h2:t j<t k) (a:B<(v i-s*t i)-(v j-s*t j)) (b:B<(v k-s*t k)-(v j-s*t j)):B < -Vj t v i j k:=-by
 have c:=GA (M:=v j-s*t j+B) h1 h2 (show _<v i-s*t i by grind) (show _<v k-s*t k by grind)
 rw [qe s (by grind)] at c
 unfold Vj
 grind
def U5 (h:w<q\/w < -q):w<cG q:=-by
 unfold cG
 split <;> grind
def aaV (hr:aaz t n) (hp:∀i j k,i<j->j<k->k<n->cG (Vj t v i j k)<=B) (hB:0<=B) (hij:i<j) (hj:j<n) (Jy:k<l) (hl:l<n):Zq t v B i j<=Zb t v B k l:=-by
 first|exact iI.mp|refine iI.mp ?_|refine iI.mp ?_ ?_
 intro hlt
 have E:=hr i j hij hj
 have G:=hr k l Jy hl
 obtain ⟨s,M,N⟩:∃s,Zb t v B k l<s/\s<Zq t v B i j:=⟨(Zb t v B k l+Zq t v B i j)/2,by grind,by grind⟩
 have e1:B<(v j-s*t j)-(v i-s*t i):=by
  have h:=(oW (a:=s) (b:=v j-B-v i) (c:=t j-t i) (by grind))
  have:¬(v j-B-v i)/(t j-t i)<=s:=by unfold Zq at N;grind
  rw [rF (by grind)] at this
  grind
 have e2:B<(v k-s*t k)-(v l-s*t l):=by
  have:¬s<=(v l+B-v k)/(t l-t k):=by unfold Zb at M;grind
  rw [oW (by grind)] at this
  grind
 have p:∀a b c,a<b->b<c->c<n->(B<Vj t v a b c\/B < -Vj t v a b c)->False:=λa b c H I J L=>by
  have g1:=hp a b c H I J
  have g2:=U5 L
  grind
 by_cases hc:v k-s*t k<=v j-s*t j
 ·by_cases hjl:j<l
  ·exact p i j l hij hjl hl (.inl (Lk E (hr j l hjl hl) e1 (by grind)))
  ·have D:j≠l:=λz=>by subst z;grind
   have A:l<j:=by simp?
   exact p k l j Jy A hj (.inr (Lp G (hr l j A hj) e2 (by grind)))
 ·by_cases hik:i<k
  ·exact p i k l hik Jy hl (.inl (Lk (hr i k hik 0#r) G (by grind) e2))
  ·have D:i≠k:=λz=>by subst z;grind
   have u:k<i:=by simp?
   exact p k i j u hij hj (.inr (Lp (hr k i u 0#r) E (by grind) e1))
def HS (h1:t i<t j) (h2:t j<t k) (a1:Zq t v B i j<=s) (a2:s<=Zb t v B i j) (b1:Zq t v B j k<=s) (b2:s<=Zb t v B j k):cG (Vj t v i j k)<=B:=-by
 have n:t i<t k:=by grind
 unfold Zq at a1 b1
 unfold Zb at a2 b2
 rw [rF (by grind)] at a1 b1
 rw [oW (by grind)] at a2 b2
 rw [oV]
 unfold Vj
 have e:=qe (ta:=t i) (tb:=t j) (tc:=t k) (x:=v i) (y:=v k) s n
 constructor
 ·first|exact iI.mp|refine iI.mp ?_|refine iI.mp ?_ ?_
  intro z
  have c:=GB (M:=v j-s*t j-(v j-cS (t i) (v i) (t j) (t k) (v k))) (x:=v i-s*t i) (y:=v k-s*t k) h1 h2 (by grind) (by grind)
  rw [e] at c
  grind
 ·first|exact iI.mp|refine iI.mp ?_|refine iI.mp ?_ ?_
  intro z
  have c:=GA (M:=v j-s*t j-(v j-cS (t i) (v i) (t j) (t k) (v k))) (x:=v i-s*t i) (y:=v k-s*t k) h1 h2 (by grind) (by grind)
  rw [e] at c
  grind
end Mth
section
open PySem PySem.Spec PyProof.Rows L2 Mth
namespace My
def bL (hx:Sz m x) (hy:Sz n y) (h:m+n<=134217728:=by decide):IntMulOk x y:=
 IntMulOk.of_le (DH.mpr hx) (DH.mpr hy) h
def mulR (h1:-(2 ^ 64)<y) (h2:y<2 ^ 64):IntMulOk x y:=Th.ok (.inr ⟨h1,h2⟩)
def mulL (h1:-(2 ^ 64)<x) (h2:x<2 ^ 64):IntMulOk x y:=Th.ok (.inl ⟨h1,h2⟩)
def CU (_ j:Int):Prop:=j≠0/\j.natAbs.log2<9000
def aK:qY X (mH .Mult) (rI IntMulOk λi j=>.int (i*j)):=opI λ_ _ _ _ _ _ _ hc q=>mul_int q hc
def eF:qY X (mH .FloorDiv) (rI CU λi j=>.int (i.fdiv j)):=opI λ_ _ _ _ _ _ _ hc q=>floordiv_int hc.1 q (.inl (PyProof.noPylong_of_log2 hc.2))
mutual
inductive Den (H:Hp):V->r9->Prop where
 | bG:Den H .bG .none
 | bl (b:Bool):Den H (.bl b) (.bool b)
 | int (i:Int):Den H (.int i) (.int i)
 | str (x:Str):Den H (.str x) (.str x)
 | tup {a:af} {xs:0#m} {ds:List r9}:H a=some (.tup xs)->rJ H xs ds->Den H (.ref a) (.tuple ds)
 | lst {a:af} {xs:0#m} {ds:List r9}:H a=some (.lst xs)->rJ H xs ds->Den H (.ref a) (.list ds)
inductive rJ (H:Hp):List V->List r9->Prop where
 | nil:rJ H [] []
 | cons {x:V} {xs:0#m} {d:r9} {ds:List r9}:Den H x d->rJ H xs ds->rJ H (x::xs) (d::ds)
end
mutual
def Den.reads (ok:vf P w H h):∀{v:V} {d:r9},Den H v d->∀{u:aE},RelV v u->∃as,Reads h u d as
 | _,_,.bG,u,r=>by cases (show u=Value.none from r);exact ⟨_,Reads.none⟩
 | _,_,.bl b,u,r=>by cases (show u=Value.bool b from r);exact ⟨_,Reads.bool b⟩
 | _,_,.int i,u,r=>by obtain ⟨t,q⟩:=(show ∃t,u=Value.int i t from r);cases q;exact ⟨_,Reads.int i t⟩
 | _,_,.str x,u,r=>by obtain ⟨t,q⟩:=(show ∃t,u=Value.str x t from r);cases q;exact ⟨_,Reads.str x t⟩
 | _,_,@Den.tup _ a xs ds e dd,u,r=>by
   cases (show u=Value.ref a from r)
   obtain ⟨_,its,rv,o,h1,h2,n,h3⟩:=(show fm P w H h a (.tup xs) from ok a _ e)
   obtain ⟨as,q⟩:=rJ.reads ok dd rv
   exact ⟨as,reads_tuple_at h1 h2 h3 (by simpa using q)⟩
 | _,_,@Den.lst _ a xs ds e dd,u,r=>by
   cases (show u=Value.ref a from r)
   obtain ⟨_,its,n,rv,h1⟩:=(show fm P w H h a (.lst xs) from ok a _ e)
   obtain ⟨as,q⟩:=rJ.reads ok dd rv
   exact ⟨_,reads_list_at h1 rfl rfl (by simpa using q)⟩
def rJ.reads (ok:vf P w H h):∀{vs:0#m} {ds:List r9},rJ H vs ds->∀{us:List aE},Vals vs us->∃as,ReadsAll h us ds as
 | _,_,.nil,_,.nil=>⟨_,ReadsAll.nil⟩
 | _,_,.cons d dd,_,.cons r rr=>by
   obtain ⟨as,q⟩:=Den.reads ok d r
   obtain ⟨bs,p⟩:=rJ.reads ok dd rr
   exact ⟨_,ReadsAll.cons q p⟩
end
def adY:R2:=λx y H Q=>∃d e,Den H x d/\Den H y e/\MV d=true/\MV e=true/\Q (.bl (u7 d e)) H
def adZ:R2:=λx y H Q=>∃d e,Den H x d/\Den H y e/\MV d=true/\MV e=true/\Q (.bl (!PyData.eqv d e)) H
def EE (hu:X.A.units+64<cLine):qY X (pQ .Eq) adY:=-by
 intro pins s σ H x y v u Q I D E h
 obtain ⟨d,e,n,p,G,J,q⟩:=h
 obtain ⟨as,z⟩:=n.reads I.hok D
 obtain ⟨bs,B⟩:=p.reads I.hok E
 exact eq_dataH z B G J hu ⟨.bl _,H,I,rfl,q⟩
def ZE (hu:X.A.units+64<cLine):qY X (pQ .NotEq) adZ:=-by
 intro pins s σ H x y v u Q I D E h
 obtain ⟨d,e,n,p,G,J,q⟩:=h
 obtain ⟨as,z⟩:=n.reads I.hok D
 obtain ⟨bs,B⟩:=p.reads I.hok E
 exact ne_dataH z B G J hu ⟨.bl _,H,I,rfl,q⟩
def ZK (K:bJ):0#m->Hp->VK->Prop:=λxs H Q=>∃x n t b,xs=[x,.ty n]/\tY K H x t/\BU K t (.type n)=some b/\Q (.bl b) H
def OU:je X (.builtin "isinstance") (ZK X.K):=-by
 intro pins s σ H xs us Q I r h
 obtain ⟨x,n,t,b,rfl,A,e,q⟩:=h
 obtain ⟨u,B,rfl,v,p⟩:=vals2 r
 cases (show B=Value.type n from p)
 exact NK I v A e λz=>⟨.bl b,H,I.tok z,rfl,q⟩
def PN {K:bJ}:BU K (.type "tuple") (.type "tuple")=some true:=by rfl
def PM {K:bJ}:BU K (.type "int") (.type "int")=some true:=by rfl
def PL {K:bJ}:BU K (.type "int") (.type "bool")=some false:=by rfl
def cD:(gB pos (bf [] env)).any (·.1)=false:=by rfl
def cV (h:bf (e::es) env=(false,eval e env)::bf es env) (k:(gB pos (bf es env)).any (·.1)=false):(gB pos (bf (e::es) env)).any (·.1)=false:=-by
 rw [h]
 exact k
def BG:bf (.Constant c k pos::es) env=(false,eval (.Constant c k pos) env)::bf es env:=by rfl
def bH:bf (.Name x pos::es) env=(false,eval (.Name x pos) env)::bf es env:=by rfl
def Rp:bf (.BinOp a op b pos::es) env=(false,eval (.BinOp a op b pos) env)::bf es env:=by rfl
def BH:bf (.Subscript a b pos::es) env=(false,eval (.Subscript a b pos) env)::bf es env:=by rfl
def FZ:bf (.Call f as kw pos::es) env=(false,eval (.Call f as kw pos) env)::bf es env:=by rfl
def aek:bf (.Tuple as k pos::es) env=(false,eval (.Tuple as k pos) env)::bf es env:=by rfl
def ael:kr (.Constant c k pos) tg l env=pure false:=by rfl
def aaf:kr (.BinOp a op b pos) tg l env=pure false:=by rfl
def Rv:kr (.Subscript a b pos) tg l env=pure false:=by rfl
def fH:kr (.Call f as kw pos) tg l env=pure false:=by rfl
def ab2:kr (.Tuple as k pos) tg l env=pure false:=by rfl
def aem:kr (.IfExp a b c pos) tg l env=pure false:=by rfl
structure Dn (P:fP) (w:dh) (K:bJ) (mg:0#h) (base:cA) (k:Nat) (x:Str) (ps:List Str) (sp:Sp):Prop where
 ex:∃(f:af) (fd:fU),aX P w K mg base cO k f fd ps sp/\mg x=some (.ref f)/\ve K (.ref f)=true/\Binds K fd ps []
def Df {X:Cx} {k:Nat} {x:Str} {ps:List Str} {sp:Sp} {p pos:Pos} {e:aW} {es:List aW} {t:TA} (D:Dn X.prog X.w X.K X.mg X.base k x ps sp) (hr:gY k X.A) (hg:Gl X x) (ha:PA X (e::es) t) (hdb:0#g:=by decide)
 (he:0#i:=by rfl) (hpl:0#n:=by rfl):PE X (.Call (.Name x p) (e::es) [] pos) (xx sp [] E0 t):=-by
 obtain ⟨f,fd,ok,z,v,u⟩:=D.ex
 exact US ok hr hg z v u .nil L5 ha hdb he hpl
def aaF {K:bJ} {st:aO} (F:pM K x qual st f fd) (ok:0#b k f fd ps sp)
 (hm:mg x=some (.ref f)) (hb:Binds K fd ps []):0#c k x ps sp:=⟨f,fd,ok,hm,F.kp,hb⟩
def abO (h:t { D with nx:=u D } σ H):BI t u D σ H:=h
def abP (h:te σ H λx H1=>D.nx (σ.set i (some x)) H1):CO te (jf i) D σ H:=h
def abM (h:te σ H D.rt):aan te D σ H:=h
def ZT (h:te σ H λ_ H1=>D.nx σ H1):RA te D σ H:=h
def aea (h:c σ H λb H1=>if b=true then t D σ H1 else u D σ H1):aaj c t u D σ H:=h
def QV (h:D.nx σ H):RE D σ H:=h
def abS (e:σ[i]?=some (some v)) (q:Q v H):Vk i σ H Q:=⟨v,e,q⟩
def r_c (q:Q v H):tC v σ H Q:=q
def aec (h:ta σ H λx H1=>tb σ H1 λy H2=>r x y H2 Q):RH r ta tb σ H Q:=h
def aej (h:ta σ H λx H1=>r x H1 Q):tUn r ta σ H Q:=h
def ad0 (q:Q (g m n) H):U1 g (.int m) (.int n) H Q:=⟨m,n,rfl,rfl,q⟩
def fR (hc:C m n) (q:Q (g m n) H):rI C g (.int m) (.int n) H Q:=⟨m,n,rfl,rfl,hc,q⟩
def r_U (q:Q (g m) H):rU g (.int m) H Q:=⟨m,rfl,q⟩
def Z4 (h:te σ H λx H'=>∃k,x=.bl k/\B k H'):RJ te σ H B:=h
def r_B (h:te σ H λx H'=>∃k,x=.bl k/\B k H'):tB te σ H B:=h
def ad1 {R:Bool->Prop} (h:R b):∃k,V.bl b=.bl k/\R k:=⟨b,rfl,h⟩
def ad3 (h:ts σ H λvs H1=>r vs H1 Q):tCB r ts σ H Q:=h
def ZR (h:te σ H λx H1=>ts σ H1 λxs H2=>R (x::xs) H2):eV te ts σ H R:=h
def abH (h:R [] H):pA σ H R:=h
def Nw (mk:0#m->HO) (xs:0#m) (H:Hp) (Q:VK):Prop:=xs.length<=sizeLine/\∀p,H p=none->Q (.ref p) (upd H p (mk xs))
def abQ (h:ts σ H λxs H1=>Nw .tup xs H1 Q):aao ts σ H Q:=h
def abE (h:ts σ H λxs H1=>Nw .lst xs H1 Q):aak ts σ H Q:=h
def ZP (h:ts σ H λvs H1=>sp (vs++[]) H1 Q E0):xx sp [] E0 ts σ H Q:=h
def abK (h:ts σ H λvs H1=>∃v w,vs=[v,w]/\D.nx ((σ.set a (some v)).set b (some w)) H1):aam a b ts D σ H:=h
def abJ (h:c σ H λb H1=>B (!b) H1):aal c σ H B:=h
def aby (h:c σ H λb H1=>if b=true then d σ H1 B else B false H1):aag c d σ H B:=h
def aed (h:c σ H λb H1=>if b=true then B true H1 else d σ H1 B):tOr c d σ H B:=h
def ZN (h:ta σ H λx H1=>∃k,x=.bl k/\if k=true then tb σ H1 Q else Q (.bl false) H1):Ry ta tb σ H Q:=h
def ZZ (h:ta σ H λx H1=>∃k,x=.bl k/\Q (.bl (!k)) H1):RG ta σ H Q:=h
def abD (h:c σ H λb H1=>if b=true then ta σ H1 Q else tb σ H1 Q):tIf c ta tb σ H Q:=h
def ad7 (hs:Ve (.int m) (.int n)=true) (q:Q (.bl (decide (m=n))) H):rEq (.int m) (.int n) H Q:=⟨hs,by
 have e:decide (V.int m=V.int n)=decide (m=n):=by simp
 rw [e];exact q⟩
def aeb (hs:Ve (.int m) (.int n)=true) (q:Q (.bl (!decide (m=n))) H):rNe (.int m) (.int n) H Q:=⟨hs,by
 have e:decide (V.int m=V.int n)=decide (m=n):=by simp
 rw [e];exact q⟩
def at0 {x:V}:tU (x::xs) 0=some x:=gI (j:=0) rfl
def at1 {x:V}:tU (x::y::xs) 1=some y:=gI (j:=1) rfl
def at2 {x:V}:tU (x::y::z::xs) 2=some z:=gI (j:=2) rfl
def aef {K:bJ} (h:H p=some (.tup (x::xs))) (q:Q x H):Kh K (.ref p) (.int 0) H Q:=⟨p,_,0,x,rfl,rfl,ny.of h,at0,q⟩
def aeg {K:bJ} (h:H p=some (.tup (x::y::xs))) (q:Q y H):Kh K (.ref p) (.int 1) H Q:=⟨p,_,1,y,rfl,rfl,ny.of h,at1,q⟩
def aeh {K:bJ} (h:H p=some (.tup (x::y::z::xs))) (q:Q z H):Kh K (.ref p) (.int 2) H Q:=⟨p,_,2,z,rfl,rfl,ny.of h,at2,q⟩
def ZL (K:bJ):0#m->Hp->VK->Prop:=λxs H Q=>∃p ys,xs=[.ref p]/\(bw K H p ys\/ny K H p ys)/\Q (.int ys.length) H
def dN {K:bJ} (h:bw K H p ys\/ny K H p ys) (q:Q (.int ys.length) H):ZL K [.ref p] H Q:=⟨p,ys,rfl,h,q⟩
def abq:0#m->Hp->VK->Prop:=λxs H Q=>∃i,xs=[.int i]/\Q (.int (if i<0 then -i else i)) H
def ZM (q:Q (.int (if m<0 then -m else m)) H):abq [.int m] H Q:=⟨m,rfl,q⟩
section
variable {X:Cx} (K:bJ)
def iQ (h:X.K=K:=by rfl):IxR X (U3 K):=h▸Ux
def PF (h:X.K=K:=by rfl):IxR X (Kh K):=h▸Zh
def slL (h:X.K=K:=by rfl):SlR X (abx K):=h▸Vg
def adK (h:X.K=K:=by rfl):je X (.builtin "len") (ZL K):=h▸DX
def JB (h:X.K=K:=by rfl):je X (.builtin "isinstance") (ZK K):=h▸OU
def uK (hg:Gl X x) (hm:X.mg x=none) (hv:rW x=some (.type n)) (hn:x ≠ "__name__":=by decide) (hd:0#g:=by decide):PE X (.Name x pos) (tC (.ty n)):=
 UR hg hm hv (show RelV (.ty n) (.type n) from rfl) hn hd
def xT:je X (.builtin "abs") abq:=OT
def piL {tg l:aW} {tl:TE} (hl:PE X l tl) (h:X.K=K:=by rfl):PI X tg l (LJ K tl):=h▸UY hl
def piT (hl:PE X l tl) (h:X.K=K:=by rfl):PI X tg l (Ut K tl):=h▸ZJ hl
def UW (hc:X.calm=true) (g:PGs X es t)
 (hn:(ow es X.env).length=n:=by rfl) (hst:(ow es X.env).findIdx? (·.1)=none:=by rfl) (h:X.K=K:=by rfl):PG X (.Tuple es k pos) (Nk K n t):=h▸ZI hc g hn hst
def Yl {o e:aW} {to te:TE} {apos cpos:Pos} (ho:PE X o to) (he:PE X e te) (h:X.K=K:=by rfl)
 (hbase:tQ o "append" X.env (eval o X.env)=eval o X.env:=by rfl)
 (hfew:((gB cpos (bf (e::[]) X.env)).all (λx=>!x.1)&&(qS cpos (qR [] X.env)).all (λx=>x.1.isSome)
   && decide ((e::([]:List aW)).length+([]:List mJ).length+(if ([]:List mJ).isEmpty then 0 else 1)<30))=true:=by rfl)
 (hline:0#o:=by rfl) (hs:bf (e::[]) X.env=(false,eval e X.env)::bf [] X.env:=by rfl) (hplain:(gB cpos (bf [] X.env)).any (·.1)=false:=by rfl) :
 PE X (.Call (.Attribute o "append" apos) [e] [] cpos) (Wb K "list" yM to (eV te pA)):=
 h▸Qx Mq PySem.F.slot_list_append PySem.F.type_list_append Dc ho (jJ he sR hs) hbase hfew hline hs hplain
end
def iu (h:H p=none) (o:HO):ah H (upd H p o):=λb u q=>by rw [aJ (bh q h)];exact q
def aC (hl:xs.length<=1000) (h:∀p H1,ah H H1->H p=none->H1 p=some (mk xs)->Q (.ref p) H1):Nw mk xs H Q:=
 ⟨tR (aY hl),λp hp=>h p _ (iu hp _) hp au⟩
def r_g (h:R (σ.set i (some v)) H):jf i v σ H R:=h
def dM {K:bJ} (h:H p=some (.lst xs)) (e:tU xs j=some v) (q:Q v H):U3 K (.ref p) (.int j) H Q:=⟨p,_,j,v,rfl,rfl,bw.of h,e,q⟩
def ad2 {K:bJ} (h:te σ H λx H1=>Vq K T x H1/\ts σ H1 λxs H2=>r x xs H2 Q):Wb K T r te ts σ H Q:=h
def eG (h:H p=some (.lst xs)) (hl:xs.length<sizeLine) (q:Q .bG (upd H p (.lst (xs++[v])))):yM (.ref p) [v] H Q:=⟨p,xs,v,rfl,rfl,h,hl,q⟩
def bB (s:ah H1 H2) (n:H1 p=none):ah H1 (upd H2 p o):=λb x e=>by rw [aJ (bh e n)];exact s b x e
def cN {xs:List Int} {j:Nat} (h:xs[j]?=some x) (hk:k=(j:Int)):tU (xs.map V.int) k=some (.int x):=-by
 subst hk
 exact gI (by rw [lZ,h];rfl)
def abR {R:V->V->Prop} (h:R x y):∃v w,[x,y]=[v,w]/\R v w:=⟨x,y,rfl,h⟩
def iZ (h:wi σ H λJ H1=>∃W:Nat->Nat->L2.St->Hp->Prop,(∃m,W 0 m σ H1)/\∀i m σ H,W i m σ H ->
 (J.stop i H/\D.nx σ H)\/(J.go i H/\∃N:L2.St->Hp->Prop,(∀σ' H',N σ' H'->∃m',m'<m/\W (i+1) m' σ' H')/\∀x H',J.OG i H x H'->g x σ H' λσ2 H2=>tb { D with nx:=N,ct:=N,bk:=D.nx } σ2 H2)):aai wi g tb D σ H:=h
def kJ {K:bJ} (h:te σ H λx H1=>∃a,x=.ref a/\(∃xs,bw K H1 a xs)/\R (Yc K a) H1):LJ K te σ H R:=h
def AM {K:bJ} (h:tY K H x tv) (e:BU K tv (.type ty)=some b) (q:Q (.bl b) H):ZK K [x,.ty ty] H Q:=⟨x,ty,tv,b,rfl,h,e,q⟩
def V5 (q:Q (.bl (a==b)) H):rEq (.bl a) (.bl b) H Q:=⟨rfl,by
 have e:decide (V.bl a=V.bl b)=(a==b):=by cases a <;> cases b <;> rfl
 rw [e];exact q⟩
noncomputable def cz (X:Cx) (N':List Str) (scope:oB) (cl:List (Str×af)) (C:af) (s0:aZ) (H0:Hp) (ex':List af) (jw:0#k):Cx:=
 { X with N:=N',s₀:=s0,H₀:=H0,env:=compEnvC scope cl C X.env,outer:=X.stack,ex:=ex',fn:=λ_=>false,pn:=jw,xe:=λ_ _=>False }
noncomputable def jY (cap:List Nat) (σ:L2.St):L2.St:=cap.map λj=>(σ[j]?).getD none
def Ur (x:vf P w H h) (n:H C=none) (k:∀b o,b≠C->h.get? b=some o->h'.get? b=some o):vf P w H h':=λb u e=>
 (x b u e).stay (λc v hc q=>k c v (by
   rcases hc with z | z
   ·rw [z];exact bh e n
   ·exact bh z n) q) (λ_ q=>q) λ_ _ q=>q
def D0 {prog:fP} {w:dh} {A:mK} {R:Result->aZ->Prop} {s:aZ} {elt iter tg:aW} {ifs:List aW} {scope:oB} {pos:Pos} {it acc:aE} {env:Env} (I:Nat->aZ->Prop)
 (turn:∀n s,I n s->bS (model prog w) A (pyNext it) (λr s₁=>match r with
   | none=>R (.ok .next) s₁
   | some v=>bS (model prog w) A (letOwnedTupleGo tg it v) (λ_ s₁'=>bS (model prog w) A (assign tg env v) (λ_ s₂=>
    bS (model prog w) A (forIn ifs true λc r=>if r=true then do let ok <- isTrue c env (eval c env);pure (ForInStep.yield ok) else pure (ForInStep.yield r)) (λok s₃=>
     if ok=true then bS (model prog w) A (eval elt env) (λx s₄=>
      bS (model prog w) A (call (.builtin "list.append") [acc,x]) (λ_ s₅=>∃m,m<n/\I m s₅) (notedBy (model prog w) A env λe s'=>R (.error e) s') s₄) (notedBy (model prog w) A env λe s'=>R (.error e) s') s₃
     else ∃m,m<n/\I m s₃) (notedBy (model prog w) A env λe s'=>R (.error e) s') s₂) (notedBy (model prog w) A env λe s'=>R (.error e) s') s₁') (notedBy (model prog w) A env λe s'=>R (.error e) s') s₁) (notedBy (model prog w) A env λe s'=>R (.error e) s') s)
 (n:Nat) (h:I n s):xN (model prog w) A (.compLoop 0#E 0 it acc env) R s:=-by
 refine codeAny_loop rfl I (λn s H=>?_) n h
 show bS _ A ((compTurn 0#E 0 it acc env).onRaise (λx=>do noteFrame x env;theTreesLotGoes x)) _ _ s
 refine wpAny_noted ?_
 rw [compTurn_list]
 refine fO (Iw (fO (oq (turn n s H) (λr s₁ z=>?_) λ_ _ u=>u)))
 cases r with
 | none=>exact nu z
 | some v=>
   refine fO (oq z (λ_ s₂ B=>fO (oq B (λ_ s₃ D=>fO (oq D (λok s₄ p=>?_) λ_ _ u=>u)) λ_ _ u=>u)) λ_ _ u=>u)
   cases ok with
   | false=>exact nu ⟨rfl,p⟩
   | true=>
     exact fO (fO (oq p (λx s₄ p=>fO (oq p (λ_ s₅ G=>nu (nu ⟨rfl,G⟩)) λ_ _ u=>u)) λ_ _ u=>u))
def Vy (X:Cx) (ifs:List aW) (t:TT):Prop:=
 ∀(pins:0#k) (s:aZ) (σ:L2.St) (H:Hp) (Q:Bool->Hp->Prop),Inv X pins σ H s->t σ H Q ->
  bS 0#A X.A (forIn ifs true λc r=>if r=true then do let ok <- isTrue c X.env (eval c X.env);pure (ForInStep.yield ok) else pure (ForInStep.yield r)) (TP X pins σ Q) X.xe s
def aap:TT:=λ_ H B=>B true H
def ET {X:Cx}:Vy X [] aap:=λ_ _ _ H _ I h=>wpAny_tests_nil ⟨H,I,h⟩
def rE (h:PT X c t):Vy X [c] t:=λpins s σ H Q I q=>wpAny_tests_one (h pins s σ H Q I q)
def tV (X:Cx) (scope:oB) (cl:List (Str×af)):List Str->List Nat->Prop
 | [],[]=>True
 | y::ys,j::js=>(X.N[j]?=some y/\X.env.kindOf y=some .cell/\(relabel scope X.env).names.lookup y=some .cell/\cl.lookup y=X.env.cells.lookup y)/\tV X scope cl ys js
 | _,_=>False
def tV.len:∀{ys:List Str} {js:List Nat},tV X scope cl ys js->ys.length=js.length
 | [],[],_=>rfl
 | _::_,_::_,h=>congrArg (·+1) h.2.len
def tV.at:∀{ys:List Str} {js:List Nat},tV X scope cl ys js->∀(i j:Nat) (y:Str),ys[i]?=some y->js[i]?=some j ->
 X.N[j]?=some y/\X.env.kindOf y=some .cell/\(relabel scope X.env).names.lookup y=some .cell/\cl.lookup y=X.env.cells.lookup y
 | [],[],_,i,_,_,e,_=>by simp at e
 | _::_,_::_,h,0,j,y,e1,e2=>by
   simp at e1 e2
   subst e1 e2
   exact h.1
 | _::_,_::_,h,i+1,j,y,e1,e2=>h.2.at i j y (by simpa using e1) (by simpa using e2)
def xy (wi:TI) (n:Nat) (cap:List Nat) (g:TG) (tt:TT) (te:TE):TE:=λσ H Q=>wi σ H λJ H1=>∀D,H1 D=none->∃W:Nat->Nat->0#m->Hp->Prop,(∃m,W 0 m [] (upd H1 D (.lst []))) /\
 ∀i m xs H2,W i m xs H2->H2 D=some (.lst xs)/\((J.stop i H2/\Q (.ref D) H2)\/(J.go i H2/\xs.length<sizeLine/\∀x H3 jT,jT.length=n->J.OG i H2 x H3 ->
  g x (jT++jY cap σ) H3 λσ2 H4=>(∃σ1,σ1.length=n/\σ2=σ1++jY cap σ)/\tt σ2 H4 λb H5=>if b=true then te σ2 H5 λy H6=>H6 D=some (.lst xs)/\∃m',m'<m/\W (i+1) m' (xs++[y]) (upd H6 D (.lst (xs++[y])))
    else ∃m',m'<m/\W (i+1) m' xs H5))
def LM {σ:L2.St} (I:L2.Inv X pins σ H s) (hC:xS X pins H C) (sb:DJ C s.heap h'):L2.Inv X pins σ H { s with heap:=h' }:=-by
 have k:∀b o,s.heap.get? b=some o->b∉[C]->h'.get? b=some o:=λb o e p=>(sb.2 b (λz=>p (by rw [z];exact Ic.mpr rfl))).trans e
 refine I.VF (s':={ s with heap:=h' }) (ch:=[C]) rfl ⟨λb o e _ _ p=>k b o e p,λb o e _ _ p=>⟨o.slots,k b o e p⟩,λb o _ n _=>n,λb o e p=>⟨o,k b o e p⟩,λ_ _ q=>q,λ_ _ _ q=>q,λ_ ps q=>⟨#[],by simpa using q⟩⟩
  (Ur I.hok hC.1 λb o p e=>(sb.2 b p).trans e) I.bare λb p=>?_
 obtain rfl:b=C:=Ic.mp p
 exact ⟨hC.2.2.2.1,hC.2.1,hC.2.2.2.2.1,hC.2.2.2.2.2⟩
def GD {σ:L2.St} (use:Option (aE->Sem Unit)) (Q':aE->aZ->Prop) (hc:X.calm=true) (hi:PI X tg iter wi)
 (hg:∀(C:af) (s0:aZ) (H0:Hp) (ex':List af) (jw:List (af×Obj)),PG (cz X (O++N') scope cl C s0 H0 ex' jw) tg g)
 (NH:∀(C:af) (s0:aZ) (H0:Hp) (ex':List af) (jw:List (af×Obj)),Vy (cz X (O++N') scope cl C s0 H0 ex' jw) ifs tt)
 (helt:∀(C:af) (s0:aZ) (H0:Hp) (ex':List af) (jw:List (af×Obj)),PE (cz X (O++N') scope cl C s0 H0 ex' jw) elt te)
 (hO:O.length=n) (hcap:tV X scope cl N' cap)
 (hclos:closureFor scope X.env=pure cl) (hcell:∀y∈scope.names,y.2≠.cell) (hkind:scope.kind=.function) (hnames:0#l)
 (Cs:∀y c,cl.lookup y=some c->X.env.cells.lookup y=some c) (hhas:∀y,((relabel scope X.env).names.lookup y=some .cell\/(relabel scope X.env).names.lookup y=some .free)->∃c,cl.lookup y=some c)
 (hs:∀z,Ge iter X.env z=pure z)
 (I:L2.Inv X pins σ H s) (h:xy wi n cap g tt te σ H Q)
 (fin:∀(D:af) (H5:Hp) (s6:aZ) (C:af),L2.Inv X pins σ H5 s6->xS X pins H5 C->(∃m,s6.heap.Ns C m)->Q (.ref D) H5->compPost 0#A X.A X.xe use Q' (.ref D) C (.ok .next) s6) :
 bS 0#A X.A (comprehension 0#E scope X.env cpos (newList []) false (eval iter X.env) use) Q' X.xe s:=-by
 refine wpAny_comprehension_free (use:=use) rfl hs hclos hkind hnames (gP (hi pins s σ H _ I h) λv s1 h1=>gP h1 λitv G h2=>?_)
 obtain ⟨it,N,tn,J,U,e,I2,T,Z,f2,q2⟩:=h2
 subst e
 refine Si (wpAny_newFunctionEnv hcell (by intro y hy;simp at hy) (λY Ed Ef=>?_) hkind)
 dsimp only at Ed Ef ⊢
  -- the list, then the block's own names
 have M:Inv X pins σ (upd U G.heap.objs.size (.lst [])) { G with heap:=G.heap.push { cls:=.type "list",data:=.seq ([]:List aE).toArray },toks:=G.toks }:=I2.Zp (its:=[]) (t':=G.toks) .nil (lY _)
 generalize ag:G.heap.push { cls:=.type "list",dict:=none,data:=.seq ([]:List aE).toArray }=L at Ed Ef M ⊢
 have q3:=q2 G.heap.objs.size (I2.hok.fresh (d8 _))
 generalize hD:G.heap.objs.size=D at M q3 Ed Ef ⊢
 obtain ⟨W,⟨m0,w0⟩,ar⟩:=q3
 have hC:∀b o,L.get? b=some o->b≠L.objs.size:=λb o e=>lU (eO e)
 have R:∀b o,L.get? b=some o->Y.get? b=some o:=λb o e=>Ef.extBut b o (hC b o e) (oA _ e)
 have LF:∀b∈N,∃o,L.get? b=some o:=λb B=>by
  obtain ⟨o,e,_⟩:=T.obj _ _ Z b B
  exact ⟨o,by rw [<- ag];exact oA _ e⟩
 have aN:∀b∈N,upd U D (.lst []) b=none:=λb B=>by
  have n:=(f2 b B).1
  obtain ⟨o,e,_⟩:=T.obj _ _ Z b B
  rw [aJ (by rw [<- hD];exact lU (eO e))]
  exact n
 have an:∀b∈N,b∉frs X.stack:=λb B z=>by
  rcases jG.mp (M.F0 b z) with e | e
  ·exact (f2 b B).2.1 e
  ·exact (f2 b B).2.2.1 e
 have ok:(cz X (O++N') scope cl L.objs.size { G with heap:=L,toks:=G.toks } (upd U D (.lst [])) N (X.pn++pins)).Ok:=
  ⟨I.ok.mod,hkind,I.ok.glob,I.ok.blt,d8 _,λy z c a b=>I.ok.inj y z c (Cs y c a) (Cs z c b),hhas,λ_ _ z=>absurd z nv,I.ok.hd,I.ok.frames,.inl rfl,
   λb B=>⟨by obtain ⟨o,e⟩:=LF b B;exact hC b o e,λy c a=>(f2 b B).2.2.2.2.1 y c (Cs y c a)⟩,M.bs,iy M.ok.VD M.sz,
   λb o e B=>by
    rcases (f2 b B).2.2.2.1 with z | z
    ·exact I.ok.Qa b o e z
    ·exact absurd (pD (eO (I.ok.bs b o e).1) z) (BV _),
   an,M.stack,M.Mf⟩
 have I4:Inv (cz X (O++N') scope cl L.objs.size { G with heap:=L,toks:=G.toks } (upd U D (.lst [])) N (X.pn++pins)) [] (nj n none++jY cap σ) (upd U D (.lst [])) { G with heap:=Y,toks:=G.toks+([]:List (Str×aE)).length }:=by
  refine ⟨ok,rfl,M.bare,Un.kept R,⟨_,Ed,λi y v e1 e2 e3=>?_⟩,λy c a=>?_,M.hok.fresh (d8 _),λy c a=>M.rS y c (Cs y c a),λp hp=>?_,M.hok.kept R,?_⟩
  ·by_cases hin:i<n
   ·rw [B4 (by rw [Du];exact hin),RU,if_pos hin] at e2
    cases e2
   ·have ak:N'[i-n]?=some y:=by
     have z:(O++N')[i]?=some y:=e1
     rw [F9 0#r,hO] at z
     exact z
    have aT:i-n<cap.length:=by rw [<- hcap.len];exact (kM.mp ak).1
    obtain ⟨j,ej⟩:∃j,cap[i-n]?=some j:=⟨_,lW aT⟩
    obtain ⟨a1,a2,a3,a4⟩:=hcap.at (i-n) j y ak ej
    have Yt:σ[j]?=some (some v):=by
     have z:(jY cap σ)[i-n]?=some (some v):=by
      rw [F9 (by rw [Du];simp?),Du] at e2
      exact e2
     unfold jY at z
     rw [lZ,ej] at z
     have z2:(σ[j]?).getD none=some v:=by simpa using z
     cases q:σ[j]? with
     | none=>rw [q] at z2;cases z2
     | some o=>rw [q] at z2;exact congrArg some z2
    obtain ⟨m,hn,hl⟩:=M.loc
    obtain ⟨u,r,l⟩:=hl j y v a1 Yt (.inr (.inl a2))
    refine ⟨u,r,.inr ⟨.inl a3,?_⟩⟩
    rcases l with ⟨k,_⟩ | ⟨_,c,ec,o,ho,hd⟩
    ·rw [a2] at k;cases k
    ·exact ⟨c,a4.trans ec,o,R c o ho,hd⟩
  ·obtain ⟨v,o,ho,hd⟩:=M.cell y c (Cs y c a)
   exact ⟨v,o,R c o ho,hd⟩
  ·have Ct:p∈X.pn++pins:=by simpa [cz] using hp
   obtain ⟨e,n,ne,nf,d⟩:=M.pin p Ct
   refine ⟨R _ _ e,n,hC _ _ e,λz=>?_,d⟩
   rcases jG.mp (M.F0 p.1 z) with e | e
   ·exact ne e
   ·exact nf e
  ·show (nj n none++jY cap σ).length=(O++N').length
   unfold jY
   rw [gA,gA,Du,iR,hcap.len,hO]
 have ac:xN 0#A X.A (.compLoop 0#E 0 (.ref it) (.ref D) (compEnvC scope cl L.objs.size X.env))
  (compPost 0#A X.A X.xe use Q' (.ref D) L.objs.size) { G with heap:=Y,toks:=G.toks+([]:List (Str×aE)).length }:=by
  have ae:∀{S:Hp},(∀b∈N,S b=none)->∀b∈N,xS (cz X (O++N') scope cl L.objs.size { G with heap:=L,toks:=G.toks } (upd U D (.lst [])) N (X.pn++pins)) [] S b:=λhn b B=>by
   obtain ⟨o,e⟩:=LF b B
   refine ⟨hn b B,hC b o e,an b B,.inl B,λy c a=>(f2 b B).2.2.2.2.1 y c (Cs y c a),λp hp=>?_⟩
   have Ct:p∈X.pn++pins:=by simpa [cz] using hp
   exact (f2 b B).2.2.2.2.2 p Ct
  refine D0 (λmm s'=>∃(i:Nat) (xs:0#m) (S:Hp) (jT:L2.St),jT.length=n/\Inv (cz X (O++N') scope cl L.objs.size { G with heap:=L,toks:=G.toks } (upd U D (.lst [])) N (X.pn++pins)) [] (jT++jY cap σ) S s'/\tn i s'.heap/\(∀b∈N,S b=none)/\W i mm xs S) ?_ m0
   ⟨0,[],_,nj n none,Du,I4,T.keep _ _ _ Z λb B o e=>R b o (by rw [<- ag];exact oA _ e),aN,w0⟩
  rintro mm s5 ⟨i,xs,H5,jT,aH,I5,am,al,w5⟩
  obtain ⟨e5,tw⟩:=ar i mm xs H5 w5
  rcases tw with ⟨ap,qn⟩ | ⟨go,hz,step⟩
  ·refine gP (T.done (cz X (O++N') scope cl L.objs.size { G with heap:=L,toks:=G.toks } (upd U D (.lst [])) N (X.pn++pins)) rfl rfl rfl hc i [] s5 _ H5 _ I5 (ae al) am ap) λr s6 ⟨hr,I6⟩=>?_
   subst hr
   obtain ⟨m,hn,_⟩:=id I6.loc
   have J6:L2.Inv X pins σ H5 s6:=M.VF (s':=s6) (ch:=N) I6.os I6.base I6.hok I6.bare λb B=>by
    obtain ⟨_,g1,_,g3,g4,g5⟩:=f2 b B
    exact ⟨g3,g1,g4,g5⟩
   exact fin D H5 s6 _ J6 (M.Je (d8 _) I6.free) ⟨m,hn⟩ qn
  ·refine gP (T.item (cz X (O++N') scope cl L.objs.size { G with heap:=L,toks:=G.toks } (upd U D (.lst [])) N (X.pn++pins)) rfl rfl rfl hc i [] s5 _ H5 _ I5 (ae al) am go) λr s6 ⟨u,hr,h6⟩=>?_
   subst hr
   refine gP h6 λ_ s7 zz=>?_
   obtain ⟨xv,H7,I7,r7,y7,ai,aR⟩:=zz
   have ay:=I7.pinned (ae aR) (T.obj _ _ ai)
   refine oq (hg _ _ _ _ _ _ s7 _ H7 xv u _ ay r7 (step xv H7 jT aH y7)) (λ_ s8 ⟨a6,H8,I8,⟨aw,aj,e2⟩,q8⟩=>?_) λ_ _ z=>z.elim
   refine oq (NH _ _ _ _ _ _ s8 a6 H8 _ I8 q8) (λok s9 ⟨H9,I9,q9⟩=>?_) λ_ _ z=>z.elim
   subst e2
   have keep:∀{s':aZ} {as:L2.St} {S:Hp},Inv (cz X (O++N') scope cl L.objs.size { G with heap:=L,toks:=G.toks } (upd U D (.lst [])) N (X.pn++pins)) ([]++AI N s7.heap) as S s'->tn (i+1) s'.heap/\∀b∈N,S b=none:=λ{s' as S} J=>
    ⟨T.keep _ _ _ ai λb B o e=>(J.pin (b,o) (B5 _ (B5 _ (oN B e)))).1,λb B=>by
     obtain ⟨o,e,d⟩:=T.obj _ _ ai b B
     exact (J.pin (b,o) (B5 _ (B5 _ (oN B e)))).2.1⟩
   cases ok with
   | false=>
     rw [if_neg nv] at q9 ⊢
     obtain ⟨m',hm,w9⟩:=q9
     exact ⟨m',hm,i+1,xs,H9,aw,aj,I9.qM,(keep I9).1,(keep I9).2,w9⟩
   | true=>
     rw [if_pos rfl] at q9 ⊢
     refine oq (helt _ _ _ _ _ _ s9 _ H9 _ I9 q9) (λyv pH zz=>?_) λ_ _ z=>z.elim
     obtain ⟨y,tT,ax,aU,D3,m',hm,a5⟩:=zz
     refine oq (Dc (X:=cz X (O++N') scope cl L.objs.size { G with heap:=L,toks:=G.toks } (upd U D (.lst [])) N (X.pn++pins)) _ pH _ tT (.ref D) [y] (.ref D) [yv] (λ_ S=>S=upd tT D (.lst (xs++[y]))) ax rfl (.cons aU .nil) ⟨D,xs,y,rfl,rfl,D3,hz,rfl⟩) (λ_ Cc ⟨_,Gs,ad,_,Yr⟩=>?_) λ_ _ z=>z.elim
     subst Yr
     exact ⟨m',hm,i+1,xs++[y],_,aw,aj,ad.qM,(keep ad).1,(keep ad).2,a5⟩
 exact codeAny_compStart_list ac (T.self _ 0 _ _ _ (T.keep _ _ _ Z λb B o e=>R b o (by rw [<- ag];exact oA _ e)) ac)
def EI {X:Cx} {elt iter tg:aW} {ifs:List aW} {pos:Pos} {scope:oB} {cl:List (Str×af)} {wi:TI} {te:TE} {tt:TT} {g:TG} {O N':List Str} {cap:List Nat} {n:Nat} (hc:X.calm=true) (hi:PI X tg iter wi)
 (hg:∀(C:af) (s0:aZ) (H0:Hp) (ex':List af) (jw:List (af×Obj)),PG (cz X (O++N') scope cl C s0 H0 ex' jw) tg g)
 (NH:∀(C:af) (s0:aZ) (H0:Hp) (ex':List af) (jw:List (af×Obj)),Vy (cz X (O++N') scope cl C s0 H0 ex' jw) ifs tt)
 (helt:∀(C:af) (s0:aZ) (H0:Hp) (ex':List af) (jw:List (af×Obj)),PE (cz X (O++N') scope cl C s0 H0 ex' jw) elt te)
 (hO:O.length=n) (hcap:tV X scope cl N' cap)
 (hclos:closureFor scope X.env=pure cl) (hcell:∀y∈scope.names,y.2≠.cell) (hkind:scope.kind=.function) (hnames:0#l)
 (Cs:∀y c,cl.lookup y=some c->X.env.cells.lookup y=some c) (hhas:∀y,((relabel scope X.env).names.lookup y=some .cell\/(relabel scope X.env).names.lookup y=some .free)->∃c,cl.lookup y=some c)
 (hs:∀z,Ge iter X.env z=pure z:=by intro _;rfl) :
 PE X 0#E (xy wi n cap g tt te):=-by
 intro p s G H Q I h
 rw [eval_ListComp]
 exact GD none (EP X p G Q) hc hi hg NH helt hO hcap hclos hcell hkind hnames Cs hhas hs I h λD u s6 C J v ⟨m,A⟩ q=>⟨m,A,λh' B=>⟨.ref D,u,LM J v B,rfl,q⟩⟩
def kI (hN:X.N.Nodup) (hix:X.N[i]?=some x) (hx:Loc X.env.scope x) (hc:X.calm=true) (hi:PI X tg iter wi)
 (hg:∀(C:af) (s0:aZ) (H0:Hp) (ex':List af) (jw:List (af×Obj)),PG (cz X (O++N') scope cl C s0 H0 ex' jw) tg g)
 (NH:∀(C:af) (s0:aZ) (H0:Hp) (ex':List af) (jw:List (af×Obj)),Vy (cz X (O++N') scope cl C s0 H0 ex' jw) ifs tt)
 (helt:∀(C:af) (s0:aZ) (H0:Hp) (ex':List af) (jw:List (af×Obj)),PE (cz X (O++N') scope cl C s0 H0 ex' jw) elt te)
 (hO:O.length=n) (hcap:tV X scope cl N' cap)
 (hclos:closureFor scope X.env=pure cl) (hcell:∀y∈scope.names,y.2≠.cell) (hkind:scope.kind=.function) (hnames:0#l)
 (Cs:∀y c,cl.lookup y=some c->X.env.cells.lookup y=some c) (hhas:∀y,((relabel scope X.env).names.lookup y=some .cell\/(relabel scope X.env).names.lookup y=some .free)->∃c,cl.lookup y=some c)
 (hsw:kr 0#E (some (.Name x pos')) spos.line X.env=pure true)
 (hs:∀z,Ge iter X.env z=pure z:=by intro _;rfl) (hf:0#j:=by first | exact .inl rfl | exact .inr rfl | assumption) :
 PS X (.Assign [.Name x pos'] 0#E spos) (CO (xy wi n cap g tt te) (jf i)):=-by
 intro pins s σ H D I h
 rw [exec_Assign_Name_used _ _ _ _ hsw]
 refine fO (Iw (fO ?_))
 show bS _ _ (comprehension 0#E scope X.env _ (newList []) false (eval iter X.env) (some (assign (.Name x pos') X.env)) >>= λ_=>pure ()) _ _ s
 refine fO (GD (some (assign (.Name x pos') X.env)) (λ_ s'=>bS _ _ (pure ()) _ _ s') hc hi hg NH helt hO hcap hclos hcell hkind hnames Cs hhas hs I h λv A s6 C J p ⟨m,L⟩ q=>?_)
 refine WT (Ds J hN hix hx (show RelV (.ref v) (.ref v) from rfl) (λs7 B ⟨a,M,G⟩=>⟨m,L.sameBut M ?_,λh' u=>nu (nu ⟨_,A,LM B p u,q⟩)⟩) hf)
 rcases G with rfl | e
 ·exact p.2.1
 ·exact λz=>p.2.2.2.2.1 x a e z.symm
structure Cn (mg:0#h) (x:Str) (n:Int):Prop where
 ex:∃t,mg x=some (.int n t)
def De (hg:Gl X x) (C:Cn X.mg x n) (hd:0#g:=by decide):PE X (.Name x pos) (tC (.int n)):=-by
 obtain ⟨t,h⟩:=C.ex
 exact L2.L6 hg h ⟨t,rfl⟩ hd
def Ma:V->Hp->VK->Prop:=λx H Q=>∃i:Int,x=.int i/\Q (.int ((rQ i:Nat):Int)) H
def UE:MtR X "int.bit_length" (λx vs H Q=>vs=[]/\Ma x H Q):=-by
 intro pins s σ H x vs v us Q I p n h
 obtain ⟨rfl,i,rfl,q⟩:=h
 cases n
 obtain ⟨t,rfl⟩:=p
 exact call_int_bit_length ⟨.int ((rQ i:Nat):Int),H,I.tok _,⟨_,rfl⟩,q⟩
def uH (ho:PE X o to) (hbase:tQ o "bit_length" X.env (eval o X.env)=eval o X.env:=by rfl) (hline:0#o:=by rfl) :
 PE X (.Call (.Attribute o "bit_length" apos) [] [] cpos) (tUn (λx H Q=>Vq X.K "int" x H/\([]:0#m)=[]/\Ma x H Q) to):=
 Qy PySem.F.plainAttrs_int slot_int_bit_length type_int_bit_length UE ho hbase hline
def ZO {K:bJ} (q:Q (.int ((rQ m:Nat):Int)) H):Vq K "int" (.int m) H/\([]:0#m)=[]/\Ma (.int m) H Q:=⟨rfl,rfl,m,rfl,q⟩
def abu:0#m->Hp->VK->Prop:=λxs H Q=>∃i j:Int,xs=[.int i,.int j]/\Q (.int (if j>i then j else i)) H
def abv:0#m->Hp->VK->Prop:=λxs H Q=>∃i j:Int,xs=[.int i,.int j]/\Q (.int (if j<i then j else i)) H
def abg (hc:X.calm=true):je X (.builtin "max") abu:=Nf hc
def Zx (hc:X.calm=true):je X (.builtin "min") abv:=Ng hc
def abF (q:Q (.int (if n>m then n else m)) H):abu [.int m,.int n] H Q:=⟨m,n,rfl,q⟩
def abG (q:Q (.int (if n<m then n else m)) H):abv [.int m,.int n] H Q:=⟨m,n,rfl,q⟩
def aaE (K:bJ) (h:X.K=K:=by rfl):qY X (mH .Add) (QL K):=h▸UP
def QN {K:bJ} (hp:H p=some (.tup (x::xs))) (hr:H r=some (.tup (y::ys))) (h:Nw .tup (x::xs++y::ys) H Q):QL K (.ref p) (.ref r) H Q:=
 ⟨p,r,_,_,rfl,rfl,ny.of hp,ny.of hr,by simp,by have:=h.1;rw [gA] at this;exact this,λe=>by simp at e,λ_=>h.2⟩
def QM (hp:H p=some (.lst xs)) (hr:H r=some (.lst ys)) (h:Nw .lst (xs++ys) H Q):abr (.ref p) (.ref r) H Q:=⟨p,r,_,_,rfl,rfl,hp,hr,by have:=h.1;rw [gA] at this;exact this,h.2⟩
def abL (hp:H p=some (.lst xs)) (h1:-(2 ^ 63)<=k) (h2:k<2 ^ 63) (h:Nw .lst (nj k.toNat xs).flatten H Q):abw (.ref p) (.int k) H Q:=
 ⟨p,k,xs,rfl,rfl,hp,h1,h2,by have:=h.1;rw [len_rep] at this;rw [Xz];exact this,h.2⟩
def at3 {u:V}:tU (x::y::z::u::xs) 3=some u:=gI (j:=3) rfl
def aei {K:bJ} (h:H p=some (.tup (x::y::z::u::xs))) (q:Q u H):Kh K (.ref p) (.int 3) H Q:=⟨p,_,3,u,rfl,rfl,ny.of h,at3,q⟩
def abz (h:te σ H λx H1=>g x σ H1 D.nx):CO te g D σ H:=h
def ZU (h:to σ H λo H1=>ti σ H1 λi H2=>ts o i v H2 λH3=>R σ H3):YS to ti ts v σ H R:=h
def Z2 (h:H p=some (.lst xs)) (e:OB xs.length k=some j) (q:Q (upd H p (.lst (xs.set j v)))):V4 (.ref p) (.int k) v H Q:=⟨p,xs,k,j,rfl,rfl,h,e,q⟩
def NC (c:((rQ low:Nat):Int)>128) (h0:0<=low):340282366920938463463374607431768211456<=low:=-by
 have h:¬rQ low<=128:=by simp?
 have k:¬low.natAbs<2 ^ 128:=λq=>h (DH.mpr q)
 have e:(2:Nat) ^ 128=340282366920938463463374607431768211456:=by decide
 simp?
def GZ (c:¬((rQ low:Nat):Int)>128):low<=340282366920938463463374607431768211456:=-by
 have h:rQ low<=128:=by simp?
 have k:low.natAbs<2 ^ 128:=DH.mp h
 have e:(2:Nat) ^ 128=340282366920938463463374607431768211456:=by decide
 simp?
def Jx (c:((rQ y:Nat):Int)>256) (y0:0<=y) (yx:y<=x) :
 ∃t:Nat,((rQ x:Nat):Int)-256=(t:Int)/\(2:Int) ^ (255+t)<=x/\x<(2:Int) ^ (256+t):=-by
 have hb:rQ y<=rQ x:=intBits_le_of_natAbs 0#r (d8 _)
 obtain ⟨t,ht⟩:∃t,rQ x=256+t:=⟨rQ x-256,by simp?⟩
 have h1:x.natAbs<2 ^ (256+t):=DH.mp 0#r
 have h2:¬x.natAbs<2 ^ (255+t):=λq=>by have:=DH.mpr q;simp?
 refine ⟨t,by simp?,?_,?_⟩
 ·have:(((2:Nat) ^ (255+t):Nat):Int)=(2:Int) ^ (255+t):=by simp
  rw [<- this];simp?
 ·have:(((2:Nat) ^ (256+t):Nat):Int)=(2:Int) ^ (256+t):=by simp
  rw [<- this];simp?
end My
open My
namespace Jd
structure QE (X:Cx) (e:aW) (t:TE):Prop where
 h:PE X e t
structure QT (X:Cx) (e:aW) (t:TT):Prop where
 h:PT X e t
structure QW (X:Cx) (e:aW) (t:TT):Prop where
 h:PW X e t
structure QA (X:Cx) (es:List aW) (t:TA):Prop where
 h:PA X es t
structure QS (X:Cx) (st:aO) (t:TS):Prop where
 h:PS X st t
structure Na (X:Cx) (st:List aO) (t:TS):Prop where
 h:IF X st t
structure QG (X:Cx) (e:aW) (t:TG):Prop where
 h:PG X e t
structure QGs (X:Cx) (es:List aW) (t:VA):Prop where
 h:PGs X es t
structure QI (X:Cx) (tg e:aW) (t:TI):Prop where
 h:PI X tg e t
structure QO (X:Cx) (e:Option aW) (t:TO):Prop where
 h:PO X e t
def go {X:Cx} {body:List aO} {D:Ends} {σ:L2.St} {H:Hp} (h:∃t,Na X body t/\t D σ H):∃t,IF X body t/\t D σ H:=let ⟨t,h,k⟩:=h;⟨t,h.h,k⟩
def cut (n:Nat) (Pv:L2.St->Hp->Prop) (tail:∃t,Na X (body.drop n) t/\∀σ H,Pv σ H->t D σ H)
 (main:∀u,Na X (body.drop n) u->(∀σ H,Pv σ H->u D σ H)->∃t,Na X body t/\t D σ H):∃t,Na X body t/\t D σ H:=
 let ⟨u,h1,h2⟩:=tail
 main u h1 h2
def pv {X:Cx} {pos:Pos} {x:Str} (i:Nat) (hN:X.N[i]?=some x:=by rfl) (hv:Vis X.env.scope x:=by first | exact Or.inl rfl | exact Or.inr (Or.inl rfl) | exact Or.inr (Or.inr rfl)) (hd:0#g:=by decide)
 (hcd:(x==("__classdict__":Str))=false:=by decide):QE X (.Name x pos) (Vk i):=⟨L2.pv i hN hv hd hcd⟩
def AF {X:Cx} {pos:Pos} {i j}:QE X (.Constant (.int i) j pos) (tC (.int i)):=⟨L2.AF⟩
def Qw {X:Cx} {pos:Pos} {i j}:QE X (.Constant (.bool i) j pos) (tC (.bl i)):=⟨L2.Qw⟩
def J1 {X:Cx} {pos:Pos} {j}:QE X (.Constant .none j pos) (tC .bG):=⟨L2.J1⟩
def J3 {X:Cx} {pos:Pos} {i j}:QE X (.Constant (.str i) j pos) (tC (.str i)):=⟨L2.J3⟩
def uK (hg:Gl X x) (hm:X.mg x=none) (hv:rW x=some (.type n)) (hn:x ≠ "__name__":=by decide) (hd:0#g:=by decide):QE X (.Name x pos) (tC (.ty n)):=⟨My.uK hg hm hv hn hd⟩
def QD {X:Cx} {a b:aW} {ta tb:TE} {pos:Pos} {op:Operator} {r:R2} (ho:qY X (mH op) r) (ha:QE X a ta) (hb:QE X b tb):QE X (.BinOp a op b pos) (RH r ta tb):=⟨L2.QD ho ha.h hb.h⟩
def QF {X:Cx} {a:aW} {ta:TE} {pos:Pos} {op:UnaryOp} {r:V->Hp->VK->Prop} (ho:UnR X (unaryOp op) r) (ha:QE X a ta):QE X (.UnaryOp op a pos) (tUn r ta):=⟨L2.QF ho ha.h⟩
def J2 (ha:QE X a ta):QE X (.UnaryOp .Not a pos) (RG ta):=⟨L2.J2 ha.h⟩
def EH {X:Cx} {a b:aW} {ta tb:TE} {pos:Pos} {op:CmpOp} {r:R2} (ho:qY X (pQ op) r) (ha:QE X a ta) (hb:QE X b tb) (hm:behindInMarks op b=false):QE X (.Compare a [op] [b] pos) (RH r ta tb):=⟨L2.EH ho ha.h hb.h hm⟩
def ES {X:Cx} {a b:aW} {ta tb:TE} {pos:Pos} {op:CmpOp} {r:R2} (ho:qY X (pQ op) r) (ha:QE X a ta) (hb:QE X b tb) (hm:behindInMarks op b=false):QT X (.Compare a [op] [b] pos) (RJ (RH r ta tb)):=⟨L2.ES ho ha.h hb.h hm⟩
def oU (ha:QT X a tA):QT X (.UnaryOp .Not a pos) (aal tA):=⟨L2.oU ha.h⟩
def Kf {X:Cx} {e:aW} {te:TE} (h:QE X e te) (he:∀whole,isTrue e X.env whole=(do let v <- whole;xM e.pos;holding [v] (truthy v)):=by intro _;rfl):QT X e (tB te):=⟨L2.Kf h.h he⟩
def ac9 {X:Cx} {e:aW} {tA:TT} (h:QW X e tA):QT X e tA:=⟨h.h.pt⟩
def EU (ha:QT X a tA):QW X (.BoolOp .And [a] pos) tA:=⟨L2.EU ha.h⟩
def lG (ha:QT X a tA):QW X (.BoolOp .Or [a] pos) tA:=⟨L2.lG ha.h⟩
def lF (ha:QT X a tA) (hb:QW X (.BoolOp .And (b::es) pos) tB'):QW X (.BoolOp .And (a::b::es) pos) (aag tA tB'):=⟨L2.lF ha.h hb.h⟩
def QK (ha:QT X a tA) (hb:QW X (.BoolOp .Or (b::es) pos) tB'):QW X (.BoolOp .Or (a::b::es) pos) (tOr tA tB'):=⟨L2.QK ha.h hb.h⟩
def oR {X:Cx} {a:aW} {te:TE} {pos:Pos} {op} (h:QE X a te):QE X (.BoolOp op [a] pos) te:=⟨L2.oR h.h⟩
def lC (ha:QE X a ta) (hb:QE X (.BoolOp .And (b::es) pos) tb):QE X (.BoolOp .And (a::b::es) pos) (Ry ta tb):=⟨L2.lC ha.h hb.h⟩
def AE (hc:QT X c tA) (ha:QE X a ta) (hb:QE X b tb):QE X (.IfExp c a b pos) (tIf tA ta tb):=⟨L2.AE hc.h ha.h hb.h⟩
def sR {X:Cx}:QA X [] pA:=⟨L2.sR⟩
def jJ {X:Cx} {e:aW} {es:List aW} {te:TE} {t:TA} (ha:QE X e te) (hr:QA X es t) (hs:0#i:=by rfl):QA X (e::es) (eV te t):=⟨L2.jJ ha.h hr.h hs⟩
def J4 {X:Cx} {es:List aW} {t:TA} {pos:Pos} {k:Nat} (h:QA X es t):QE X (.Tuple es k pos) (aao t):=⟨L2.J4 h.h⟩
def J0 {X:Cx} {es:List aW} {t:TA} {pos:Pos} (h:QA X es t):QE X (.List es pos) (aak t):=⟨L2.J0 h.h⟩
def rC {X:Cx}:QO X none Mg:=⟨L2.rC⟩
def rD {X:Cx} {e:aW} {te:TE} (h:QE X e te):QO X (some e) (Wc te):=⟨L2.rD h.h⟩
def nU {X:Cx} {e:aW} {te:TE} {pos p2:Pos} {r:V->Option Int->Option Int->Hp->VK->Prop} {lo hi:Option aW} {tl th:TO} (hr:SlR X r) (he:QE X e te) (hl:QO X lo tl) (hu:QO X hi th):QE X (.Subscript e (.Slice lo hi none p2) pos) (tSl r te tl th):=⟨L2.nU hr he.h hl.h hu.h⟩
def HG {X:Cx} {a b:aW} {ta tb:TE} {pos:Pos} {r:R2} (hr:IxR X r) (ha:QE X a ta) (hb:QE X b tb) (hs:Lh b):QE X (.Subscript a b pos) (RH r ta tb):=⟨L2.HG hr ha.h hb.h hs⟩
def uI {X:Cx} {e:aW} {es:List aW} {t:TA} {pos p:Pos} {x:Str} {id:String} {r:0#m->Hp->VK->Prop} (hc:je X (.builtin id) r) (hg:Gl X x) (hm:X.mg x=none) (hv:rW x=some (.builtin id)) (ha:QA X (e::es) t) (hn:x ≠ "__name__":=by decide) (hdb:0#g:=by decide)
 (he:0#i:=by rfl) (hpl:0#n:=by rfl):QE X (.Call (.Name x p) (e::es) [] pos) (tCB r t):=⟨L2.uI hc hg hm hv ha.h hn hdb he hpl⟩
def vU {X:Cx} {e:aW} {es:List aW} {t:TA} {pos p:Pos} {x:Str} {T:String} {r:0#m->Hp->VK->Prop} (hc:je X (.type T) r) (hg:Gl X x) (hm:X.mg x=none) (hv:rW x=some (.type T)) (ha:QA X (e::es) t) (hn:x ≠ "__name__":=by decide) (hdb:0#g:=by decide)
 (he:0#i:=by rfl) (hpl:0#n:=by rfl):QE X (.Call (.Name x p) (e::es) [] pos) (tCB r t):=⟨L2.vU hc hg hm hv ha.h hn hdb he hpl⟩
def Df {X:Cx} {e:aW} {es:List aW} {t:TA} {pos p:Pos} {x:Str} {k:Nat} {ps:List Str} {sp:Sp} (D:Dn X.prog X.w X.K X.mg X.base k x ps sp) (hr:gY k X.A) (hg:Gl X x) (ha:QA X (e::es) t) (hdb:0#g:=by decide)
 (he:0#i:=by rfl) (hpl:0#n:=by rfl):QE X (.Call (.Name x p) (e::es) [] pos) (xx sp [] E0 t):=⟨My.Df D hr hg ha.h hdb he hpl⟩
def Yl {X:Cx} {e o:aW} {te to:TE} {apos cpos:Pos} (K:bJ) (ho:QE X o to) (he:QE X e te) (h:X.K=K:=by rfl)
 (hbase:tQ o "append" X.env (eval o X.env)=eval o X.env:=by rfl)
 (hfew:((gB cpos (bf (e::[]) X.env)).all (λx=>!x.1)&&(qS cpos (qR [] X.env)).all (λx=>x.1.isSome)
   && decide ((e::([]:List aW)).length+([]:List mJ).length+(if ([]:List mJ).isEmpty then 0 else 1)<30))=true:=by rfl)
 (hline:0#o:=by rfl) (hs:bf (e::[]) X.env=(false,eval e X.env)::bf [] X.env:=by rfl) (hplain:(gB cpos (bf [] X.env)).any (·.1)=false:=by rfl) :
 QE X (.Call (.Attribute o "append" apos) [e] [] cpos) (Wb K "list" yM to (eV te pA)):=⟨My.Yl K ho.h he.h h hbase hfew hline hs hplain⟩
def EO {X:Cx}:Na X [] RE:=⟨L2.EO⟩
def AK {X:Cx} {st:aO} {rest:List aO} {s1 s2:TS} (h1:QS X st s1) (h2:Na X rest s2):Na X (st::rest) (BI s1 s2):=⟨L2.AK h1.h h2.h⟩
def ER {X:Cx} {st:aO} {s1:TS} (h1:QS X st s1):Na X [st] s1:=⟨L2.ER h1.h⟩
def lE {st:aO}:QS X st RD:=⟨L2.lE⟩
def Ke {X:Cx} {e:aW} {te:TE} {pos:Pos} (he:QE X e te):QS X (.Return (some e) pos) (aan te):=⟨L2.Ke he.h⟩
def EK {X:Cx} {e:aW} {te:TE} {pos:Pos} (he:QE X e te) (hs:kr e none pos.line X.env=pure false:=by rfl):QS X (.Expr e pos) (RA te):=⟨L2.EK he.h hs⟩
def EN {X:Cx} {e:aW} {te:TE} {pos:Pos} {x:Str} {i:Nat} {pos':Pos} (hN:X.N.Nodup) (hi:X.N[i]?=some x) (hx:Loc X.env.scope x) (he:QE X e te) (hs:kr e (some (.Name x pos')) pos.line X.env=pure false:=by rfl) (hf:0#j:=by first | exact .inl rfl | exact .inr rfl | assumption) :
 QS X (.Assign [.Name x pos'] e pos) (CO te (jf i)):=⟨L2.EN hN hi hx he.h hs hf⟩
def Ka (he:QE X e te) (hg:QG X tg g) (hs:swapsWithSole [tg] e pos.line X.env=pure false:=by rfl) (hw:swappedStores [tg] e X.env=pure none:=by rfl)
 (h1:(ow [tg] X.env).map (·.2)=[assign tg X.env]:=by rfl):QS X (.Assign [tg] e pos) (CO te g):=⟨L2.Ka he.h hg.h hs hw h1⟩
def EL (hc:X.calm=true) (hN:X.N.Nodup) (hi:X.N[i]?=some x) (hj:X.N[j]?=some y) (hij:i≠j)
 (hx:X.env.scope.names.lookup x=some .local) (hy:X.env.scope.names.lookup y=some .local) (ha:QA X [a,b] ta)
 (hw:swappedStores [.Tuple [.Name x px,.Name y py] kt pt] (.Tuple [a,b] k2 N4) X.env=pure (some [x,y]))
 (hs:swapsWithSole [.Tuple [.Name x px,.Name y py] kt pt] (.Tuple [a,b] k2 N4) pos.line X.env=pure false:=by rfl) :
 QS X (.Assign [.Tuple [.Name x px,.Name y py] kt pt] (.Tuple [a,b] k2 N4) pos) (aam i j ta):=⟨L2.EL hc hN hi hj hij hx hy ha.h hw hs⟩
def QJ {X:Cx} {c:aW} {pos:Pos} {s1 s2:TS} {ss ss':List aO} {tc:TT} (hc:QT X c tc) (ha:Na X ss s1) (hb:Na X ss' s2):QS X (.If c ss ss' pos) (aaj tc s1 s2):=⟨L2.QJ hc.h ha.h hb.h⟩
def jP (hp:M6 0#A X.A X.env X.xe) (hc:QT X c tc) (hb:Na X sts s1):QS X (.While c sts [] pos) (BJ tc s1):=⟨L2.jP hp hc.h hb.h⟩
def Kd {X:Cx} {e:aW} {pos:Pos} {sts:List aO} {s1:TS} {tg:aW} {wi:TI} {g:TG} (hp:M6 0#A X.A X.env X.xe) (hc:X.calm=true) (hi:QI X tg e wi) (hg:QG X tg g) (hb:Na X sts s1)
 (hs:∀x,Ge e X.env x=pure x:=by intro _;rfl):QS X (.For tg e sts [] pos) (aai wi g s1):=⟨L2.Kd hp hc hi.h hg.h hb.h hs⟩
def EJ {X:Cx} {pos:Pos} {x:Str} {i:Nat} (hN:X.N.Nodup) (hi:X.N[i]?=some x) (hx:Loc X.env.scope x) (hf:0#j:=by first | exact .inl rfl | exact .inr rfl | assumption):QG X (.Name x pos) (jf i):=⟨L2.EJ hN hi hx hf⟩
def kH {X:Cx}:QGs X [] Pd:=⟨L2.kH⟩
def AG {X:Cx} {e:aW} {es:List aW} {g:TG} {u:VA} (h1:QG X e g) (h2:QGs X es u) (hs:(ow (e::es) X.env).map (·.2)=assign e X.env::(ow es X.env).map (·.2):=by rfl):QGs X (e::es) (uo g u):=⟨L2.AG h1.h h2.h hs⟩
def UW (K:bJ)  (hc:X.calm=true) (h2:QGs X es g) (hn:(ow es X.env).length=n:=by rfl) (hst:(ow es X.env).findIdx? (·.1)=none:=by rfl) (h:X.K=K:=by rfl):QG X (.Tuple es k pos) (Nk K n g):=⟨My.UW K hc h2.h hn hst h⟩
def piL {X:Cx} {e:aW} {te:TE} (K:bJ) {tg:aW} (hl:QE X e te) (h:X.K=K:=by rfl):QI X tg e (LJ K te):=⟨My.piL K hl.h h⟩
def piT (K:bJ)  (hl:QE X e te) (h:X.K=K:=by rfl):QI X tg e (Ut K te):=⟨My.piT K hl.h h⟩
def iM (hg:Gl X "range") (hm:X.mg "range"=none) (ha:QA X [a] t) (hs:bf [a] X.env=[(false,eval a X.env)]:=by rfl):QI X tg (.Call (.Name "range" p) [a] [] pos) (PB t):=⟨L2.iM hg hm ha.h hs⟩
def De (hg:Gl X x) (C:Cn X.mg x n) (hd:0#g:=by decide):QE X (.Name x pos) (tC (.int n)):=⟨My.De hg C hd⟩
def uH (ho:QE X o to) (hbase:tQ o "bit_length" X.env (eval o X.env)=eval o X.env:=by rfl) (hline:0#o:=by rfl) :
 QE X (.Call (.Attribute o "bit_length" apos) [] [] cpos) (tUn (λx H Q=>Vq X.K "int" x H/\([]:0#m)=[]/\Ma x H Q) to):=⟨My.uH ho.h hbase hline⟩
def J7 (ho:QE X o to) (hi:QE X i ti) (hs:Yg X ts)
 (ha:∀v,assign (.Subscript o i pos) X.env v=(holding [v] (eval o X.env) >>= λov=>holding [v,ov] (eval i X.env) >>= λiv=>xM pos >>= λ_=>holding [v,ov,iv] (setItem ov iv v) >>= λ_=>release [v,ov,iv] []):=by intro _;rfl) :
 QG X (.Subscript o i pos) (YS to ti ts):=⟨L2.J7 ho.h hi.h hs ha⟩
end Jd
namespace My
noncomputable def fV (cells:List (Str×af)):List (Str×u9)->List (Str×af)->List (Str×af)
 | [],cs=>cs
 | (y,k)::r,cs=>fV cells r (if k=.free then ((cells.lookup y).map λc=>(y,c)).toList++cs else cs)
noncomputable def gJ (cells:List (Str×af)) (names:List (Str×u9)):Bool:=names.all λp=>!(p.2==NameKind.free)||(cells.lookup p.1).isSome
def sD {env:Env}:∀(names:List (Str×u9)) (cs:List (Str×af)),gJ env.cells names=true ->
 (forIn (m:=Sem) names cs λx r=>match x with | (name,kind)=>if (kind==NameKind.free)=true then do let a <- cellOf env name;pure (ForInStep.yield ((name,a)::r)) else pure (ForInStep.yield r))=pure (fV env.cells names cs)
 | [],cs,_=>rfl
 | (y,k)::r,cs,h=>by
   have h2:gJ env.cells r=true:=by
    unfold gJ at h ⊢
    rw [DI,Gg] at h
    exact h.2
   rw [List.forIn_cons]
   by_cases hk:k=.free
   ·subst hk
    have v:(env.cells.lookup y).isSome=true:=by
     unfold gJ at h
     rw [DI,Gg] at h
     simpa using h.1
    obtain ⟨c,u⟩:=RS.mp v
    have p:=sD r ((y,c)::cs) h2
    have e:cellOf env y=pure c:=by unfold cellOf;rw [u]
    show (((if (NameKind.free==NameKind.free)=true then do let a <- cellOf env y;pure (ForInStep.yield ((y,a)::cs)) else pure (ForInStep.yield cs)):Sem _) >>= _)=_
    rw [if_pos (by rfl),e,pure_bind,pure_bind]
    show forIn (m:=Sem) r ((y,c)::cs) _=_
    rw [p]
    show _=pure (fV env.cells r (if NameKind.free=.free then ((env.cells.lookup y).map λc=>(y,c)).toList++cs else cs))
    rw [if_pos rfl,u]
    rfl
   ·have p:=sD r cs h2
    have n:(k==NameKind.free)=false:=by simpa using hk
    show (((if (k==NameKind.free)=true then do let a <- cellOf env y;pure (ForInStep.yield ((y,a)::cs)) else pure (ForInStep.yield cs)):Sem _) >>= _)=_
    rw [n,if_neg nv,pure_bind]
    show forIn (m:=Sem) r cs _=_
    rw [p]
    show _=pure (fV env.cells r (if k=.free then _ else cs))
    rw [if_neg hk]
def zM (h:gJ env.cells scope.names=true):closureFor scope env=pure (fV env.cells scope.names []):=-by
 have e:=sD (env:=env) scope.names [] h
 show (forIn (m:=Sem) scope.names [] _ >>= λn=>pure n)=_
 exact (congrArg (· >>= λn=>pure n) e).trans (pure_bind _ _)
def C3:∀(names:List (Str×u9)) (cs:List (Str×af)) (p:Str×af),p∈fV cells names cs->p∈cs\/cells.lookup p.1=some p.2
 | [],_,_,h=>.inl h
 | (y,k)::r,cs,p,h=>by
   rcases C3 r _ p h with q | q
   ·by_cases hk:k=.free
    ·rw [if_pos hk] at q
     rcases iw.mp q with z | z
     ·cases e:cells.lookup y with
      | none=>rw [e] at z;simp at z
      | some c=>rw [e] at z;simp at z;subst z;exact .inr e
     ·exact .inl z
    ·rw [if_neg hk] at q
     exact .inl q
   ·exact .inr q
def C2:∀(names:List (Str×u9)) (cs:List (Str×af)) (y:Str) (c:af),((y,NameKind.free)∈names/\cells.lookup y=some c)\/(y,c)∈cs->(y,c)∈fV cells names cs
 | [],_,_,_,h=>h.elim (λz=>by simp at z) id
 | (z,k)::r,cs,y,c,h=>by
   refine C2 r _ y c ?_
   rcases h with ⟨m,e⟩ | m
   ·rcases jG.mp m with q | q
    ·cases q
     right
     rw [if_pos rfl,e]
     simp
    ·exact .inl ⟨q,e⟩
   ·right
    by_cases hk:k=.free
    ·rw [if_pos hk];exact B5 _ m
    ·rw [if_neg hk];exact m
def rj {α:Type}:∀{l:List (Str×α)} {x:Str} {v:α},l.lookup x=some v->(x,v)∈l
 | (y,u)::r,x,v,h=>by
   rw [Il] at h
   cases e:x==y with
   | true=>
     rw [e] at h
     cases h
     have:x=y:=by simpa using e
     subst this
     exact BN
   | false=>
     rw [e] at h
     exact CQ _ (rj h)
def C9 {α:Type}:∀{l:List (Str×α)} {x:Str} {v:α},(x,v)∈l->∃u,l.lookup x=some u
 | (y,u)::r,x,v,h=>by
   rw [Il]
   cases e:x==y with
   | true=>exact ⟨_,rfl⟩
   | false=>
     rcases jG.mp h with q | q
     ·cases q;simp at e
     ·exact C9 q
def sC (h:(fV cells names []).lookup y=some c):cells.lookup y=some c:=
 (C3 names [] (y,c) (rj h)).elim (λz=>by simp at z) id
def zL (h:(y,NameKind.free)∈names) (e:cells.lookup y=some c):(fV cells names []).lookup y=some c:=-by
 obtain ⟨u,q⟩:=C9 (C2 names [] y c (.inl ⟨h,e⟩))
 rw [q]
 rw [sC q] at e
 exact e
def Gn (X:Cx) (scope:oB):List Str->List Nat->Prop
 | [],[]=>True
 | y::ys,j::js=>(X.N[j]?=some y/\X.env.kindOf y=some .cell/\scope.names.lookup y=some .free/\(relabel scope X.env).names.lookup y=some .cell)/\Gn X scope ys js
 | _,_=>False
def C5 (h:gJ cells names=true) (m:(y,NameKind.free)∈names):∃c,cells.lookup y=some c:=-by
 unfold gJ at h
 have q:=Xa.mp h _ m
 exact RS.mp (by simpa using q)
def Gn.ok (h:gJ X.env.cells scope.names=true):∀{ys:List Str} {js:List Nat},Gn X scope ys js->tV X scope (fV X.env.cells scope.names []) ys js
 | [],[],_=>trivial
 | y::ys,j::js,⟨⟨a,b,c,d⟩,r⟩=>by
   have m:=rj c
   obtain ⟨e,he⟩:=C5 h m
   exact ⟨⟨a,b,d,by rw [zL m he,he]⟩,Gn.ok h r⟩
def xr (h:gJ env.cells scope.names=true) (hcell:∀y∈scope.names,y.2≠.cell) (y:Str)
 (q:(relabel scope env).names.lookup y=some .cell\/(relabel scope env).names.lookup y=some .free):∃c,(fV env.cells scope.names []).lookup y=some c:=-by
 have m:(y,NameKind.free)∈scope.names:=by
  rcases q with q | q
  all_goals
   have m:=rj q
   unfold relabel at m
   obtain ⟨⟨n,k⟩,u,e⟩:=lV.mp m
   dsimp only at e
   split at e
   ·rename_i p
    rw [Gg,Gg] at p
    have v:k=.free:=by simpa using p.1.1
    subst v
    cases e
    first | exact u | done
   ·cases e
    first | exact u | exact absurd rfl (hcell _ u)
 obtain ⟨c,p⟩:=C5 h m
 exact ⟨c,zL m p⟩
def Qz (hc:X.calm=true) (hi:PI X tg iter wi)
 (hg:∀(C:af) (s0:aZ) (H0:Hp) (ex':List af) (jw:List (af×Obj)),PG 0#B tg g)
 (NH:∀(C:af) (s0:aZ) (H0:Hp) (ex':List af) (jw:List (af×Obj)),Vy 0#B ifs tt)
 (helt:∀(C:af) (s0:aZ) (H0:Hp) (ex':List af) (jw:List (af×Obj)),PE 0#B elt te)
 (hO:O.length=n) (hcap:Gn X scope N' cap) (hf:gJ X.env.cells scope.names=true) (hcell:∀y∈scope.names,y.2≠.cell) (hkind:scope.kind=.function) (hnames:0#l)
 (hs:∀z,Ge iter X.env z=pure z:=by intro _;rfl) :
 PE X 0#E (xy wi n cap g tt te):=
 EI hc hi hg NH helt hO (hcap.ok hf) (zM hf) hcell hkind hnames (λ_ _=>sC) (xr hf hcell) hs
def QH (hN:X.N.Nodup) (hix:X.N[i]?=some x) (hx:Loc X.env.scope x) (hc:X.calm=true) (hi:PI X tg iter wi)
 (hg:∀(C:af) (s0:aZ) (H0:Hp) (ex':List af) (jw:List (af×Obj)),PG 0#B tg g)
 (NH:∀(C:af) (s0:aZ) (H0:Hp) (ex':List af) (jw:List (af×Obj)),Vy 0#B ifs tt)
 (helt:∀(C:af) (s0:aZ) (H0:Hp) (ex':List af) (jw:List (af×Obj)),PE 0#B elt te)
 (hO:O.length=n) (hcap:Gn X scope N' cap) (hf:gJ X.env.cells scope.names=true) (hcell:∀y∈scope.names,y.2≠.cell) (hkind:scope.kind=.function) (hnames:0#l)
 (hsw:kr 0#E (some (.Name x pos')) spos.line X.env=pure true)
 (hs:∀z,Ge iter X.env z=pure z:=by intro _;rfl) (hfn:0#j:=by first | exact .inl rfl | exact .inr rfl | assumption) :
 PS X (.Assign [.Name x pos'] 0#E spos) (CO (xy wi n cap g tt te) (jf i)):=
 kI hN hix hx hc hi hg NH helt hO (hcap.ok hf) (zM hf) hcell hkind hnames (λ_ _=>sC) (xr hf hcell) hsw hs hfn
noncomputable def rm (D:af) (H:Hp):Hp:=λb=>if b=D then none else H b
def lH (h:b≠D):rm D H b=H b:=if_neg h
def gM:ah (rm D H) H:=λb o e=>by
 unfold rm at e
 by_cases h:b=D
 ·rw [if_pos h] at e;cases e
 ·rw [if_neg h] at e;exact e
def rV (s:ah H H'):ah (rm D H) (rm D H'):=λb o e=>by
 unfold rm at e ⊢
 by_cases h:b=D
 ·rw [if_pos h] at e;cases e
 ·rw [if_neg h] at e ⊢;exact s b o e
def vW:rm D (upd H D o)=rm D H:=-by
 funext b
 unfold rm
 by_cases h:b=D
 ·rw [if_pos h,if_pos h]
 ·rw [if_neg h,if_neg h,aJ h]
def eK (hD:H D=some (.lst ys)) (h:H p=some (.tup xs)):rm D H p=some (.tup xs):=-by
 rw [lH (λe=>by rw [e,hD] at h;cases h)];exact h
def AV (D:af) (H:Hp) (o:HO):ah (rm D H) (upd H D o):=λb u e=>by
 unfold rm at e
 by_cases h:b=D
 ·rw [if_pos h] at e;cases e
 ·rw [if_neg h] at e;rw [aJ h];exact e
def Eg (h:n=m+1):OB n (-1)=some m:=-by
 subst h
 unfold OB
 rw [if_neg 0#r,if_pos 0#r]
 congr 1
 simp?
def PJ {n:Nat} (h0:0<=i) (h:i<(n:Int)):OB n i=some i.toNat:=-by
 unfold OB
 rw [if_pos h0,if_pos h]
structure Tells (J:It) (ok:Hp->Prop) (xs:0#m):Prop where
 go:∀i H,ok H->i<xs.length->J.go i H/\∀x H',J.OG i H x H'->H'=H/\xs[i]?=some x
 stop:∀H,ok H->J.stop xs.length H
def cQ {K:bJ}:Tells (Yc K a) (λH=>bw K H a xs) xs:=
 ⟨λi H h hi=>⟨⟨xs,xs[i],h,by simp [hi]⟩,λx H' y=>⟨y.1,y.2 xs h⟩⟩,λH h=>⟨xs,h,d8 _⟩⟩
def Og {K:bJ}:Tells (Yd K a) (λH=>ny K H a xs) xs:=
 ⟨λi H h hi=>⟨⟨xs,xs[i],h,by simp [hi]⟩,λx H' y=>⟨y.1,y.2 xs h⟩⟩,λH h=>⟨xs,h,d8 _⟩⟩
def Of {lo:Int}:Tells (S7 lo n) (λ_=>True) ((fN n).map λ(i:Nat)=>V.int (lo+(i:Int))):=
 ⟨λi H h hi=>⟨show i<n by simpa using hi,λx H' y=>⟨y.1,by
  have hi':i<n:=by simpa using hi
  rw [lZ,CS hi']
  exact congrArg some y.2.symm⟩⟩,λH h=>by show n<=_;simp⟩
def Lg (n:Nat) (cap:List Nat) (g:TG) (tt:TT) (te:TE) (σ:L2.St) (Q:VK) (J:It) (H1:Hp):Prop:=∀D,H1 D=none->∃W:Nat->Nat->0#m->Hp->Prop,(∃m,W 0 m [] (upd H1 D (.lst []))) /\
 ∀i m xs H2,W i m xs H2->H2 D=some (.lst xs)/\((J.stop i H2/\Q (.ref D) H2)\/(J.go i H2/\xs.length<sizeLine/\∀x H3 jT,jT.length=n->J.OG i H2 x H3 ->
  g x (jT++jY cap σ) H3 λσ2 H4=>(∃σ1,σ1.length=n/\σ2=σ1++jY cap σ)/\tt σ2 H4 λb H5=>if b=true then te σ2 H5 λy H6=>H6 D=some (.lst xs)/\∃m',m'<m/\W (i+1) m' (xs++[y]) (upd H6 D (.lst (xs++[y])))
    else ∃m',m'<m/\W (i+1) m' xs H5))
def ZQ (h:wi σ H λJ H1=>Lg n cap g tt te σ Q J H1):xy wi n cap g tt te σ H Q:=h
def AO (h:ta σ H λvs H1=>∃j:Int,vs=[.int j]/\-(2 ^ 62)<=j/\j<2 ^ 62/\R (S7 0 j.toNat) H1):PB ta σ H R:=h
def abT (h:B true H):aap σ H B:=h
def di (T:Tells J ok xs) (hok:∀H2,ah H H2->ok H2) (hl:xs.length<=1000000) (P:Nat->0#m->Hp->Prop) (h0:P 0 [] H)
 (step:∀(D:af) (i:Nat) (x:V) (ys:0#m) (H2:Hp) (jT:L2.St) (N:VK) (N0:Hp->Prop),jT.length=n->H D=none->H2 D=some (.lst ys)->ah H H2->xs[i]?=some x->ys.length<=i->P i ys (rm D H2) ->
   (∀y H6,ah H2 H6->P (i+1) (ys++[y]) (rm D H6)->N y H6)->(∀H5,ah H2 H5->P (i+1) ys (rm D H5)->N0 H5) ->
   g x (jT++jY cap σ) H2 λσ2 H4=>(∃σ1,σ1.length=n/\σ2=σ1++jY cap σ)/\tt σ2 H4 λb H5=>if b=true then te σ2 H5 N else N0 H5)
 (done:∀(D:af) (ys:0#m) (H2:Hp),H D=none->H2 D=some (.lst ys)->ah H H2->ys.length<=xs.length->P xs.length ys (rm D H2)->Q (.ref D) H2):Lg n cap g tt te σ Q J H:=-by
 intro D u
 refine ⟨λi m ys H2=>H2 D=some (.lst ys)/\ah H H2/\ys.length<=i/\i<=xs.length/\m=xs.length-i/\P i ys (rm D H2),⟨xs.length,au,bB (ah.refl _) u,lY _,lY _,rfl,?_⟩,?_⟩
 ·rw [vW]
  have e:rm D H=H:=by
   funext b
   by_cases h:b=D
   ·rw [h,u];exact if_pos rfl
   ·exact lH h
  rw [e];exact h0
 ·rintro i m ys H2 ⟨e,s,v,I,rfl,p⟩
  refine ⟨e,?_⟩
  by_cases hlt:i<xs.length
  ·obtain ⟨go,E⟩:=T.go i H2 (hok H2 s) hlt
   refine .inr ⟨go,Gd (iy (iy v I) hl) 0#s,λx B jT h0 y=>?_⟩
   obtain ⟨rfl,L⟩:=E x B y
   refine step D i x ys _ jT _ _ h0 u e s L v p (λy H6 A O=>?_) λH5 z M=>?_
   ·refine ⟨A _ _ e,xs.length-(i+1),by simp?,au,bB (s.trans A) u,?_,by simp?,rfl,?_⟩
    ·rw [gA,IE];simp?
    ·rw [vW];exact O
   ·exact ⟨xs.length-(i+1),by simp?,z _ _ e,s.trans z,by simp?,by simp?,rfl,M⟩
  ·have G:i=xs.length:=by simp?
   subst G
   exact .inl ⟨T.stop H2 (hok H2 s),done D ys H2 u e s v p⟩
def jx {R:L2.St->Hp->Prop} (h0:jT.length=1) (h:R (some x::jY cap σ) H):jf 0 x (jT++jY cap σ) H λσ2 H4=>(∃σ1,σ1.length=1/\σ2=σ1++jY cap σ)/\R σ2 H4:=-by
 obtain ⟨v,rfl⟩:=fS h0
 exact ⟨⟨[some x],rfl,rfl⟩,h⟩
def AN {K:bJ} {R:L2.St->Hp->Prop} (h0:jT.length=2) (hp:H p=some (.tup [x,y])) (h:R (some x::some y::jY cap σ) H) :
 Nk K 2 (uo (jf 0) (uo (jf 1) Pd)) (.ref p) (jT++jY cap σ) H λσ2 H4=>(∃σ1,σ1.length=2/\σ2=σ1++jY cap σ)/\R σ2 H4:=-by
 obtain ⟨v,u,rfl⟩:=adJ h0
 exact ⟨p,_,rfl,ny.of hp,rfl,x,_,rfl,y,_,rfl,rfl,⟨[some x,some y],rfl,rfl⟩,h⟩
end My
namespace Jd
structure QTs (X:Cx) (ifs:List aW) (t:TT):Prop where
 h:Vy X ifs t
def ET {X:Cx}:QTs X [] aap:=⟨My.ET⟩
def rE (h:QT X c tt):QTs X [c] tt:=⟨My.rE h.h⟩
def EI {X:Cx} {elt iter tg:aW} {ifs:List aW} {pos:Pos} {scope:oB} {wi:TI} {te:TE} {tt:TT} {g:TG} {O N':List Str} {cap:List Nat} {n:Nat} (hc:X.calm=true) (hi:QI X tg iter wi)
 (hg:∀(C:af) (s0:aZ) (H0:Hp) (ex':List af) (jw:List (af×Obj)),QG 0#B tg g)
 (NH:∀(C:af) (s0:aZ) (H0:Hp) (ex':List af) (jw:List (af×Obj)),QTs 0#B ifs tt)
 (helt:∀(C:af) (s0:aZ) (H0:Hp) (ex':List af) (jw:List (af×Obj)),QE 0#B elt te)
 (hO:O.length=n) (hcap:Gn X scope N' cap) (hf:gJ X.env.cells scope.names=true) (hcell:∀y∈scope.names,y.2≠.cell) (hkind:scope.kind=.function) (hnames:0#l)
 (hs:∀z,Ge iter X.env z=pure z:=by intro _;rfl) :
 QE X 0#E (xy wi n cap g tt te):=
 ⟨My.Qz hc hi.h (λC s0 H0 ex' jw=>(hg C s0 H0 ex' jw).h) (λC s0 H0 ex' jw=>(NH C s0 H0 ex' jw).h) (λC s0 H0 ex' jw=>(helt C s0 H0 ex' jw).h) hO hcap hf hcell hkind hnames hs⟩
def kI (hN:X.N.Nodup) (hix:X.N[i]?=some x) (hx:Loc X.env.scope x) (hc:X.calm=true) (hi:QI X tg iter wi)
 (hg:∀(C:af) (s0:aZ) (H0:Hp) (ex':List af) (jw:List (af×Obj)),QG 0#B tg g)
 (NH:∀(C:af) (s0:aZ) (H0:Hp) (ex':List af) (jw:List (af×Obj)),QTs 0#B ifs tt)
 (helt:∀(C:af) (s0:aZ) (H0:Hp) (ex':List af) (jw:List (af×Obj)),QE 0#B elt te)
 (hO:O.length=n) (hcap:Gn X scope N' cap) (hf:gJ X.env.cells scope.names=true) (hcell:∀y∈scope.names,y.2≠.cell) (hkind:scope.kind=.function) (hnames:0#l)
 (hsw:kr 0#E (some (.Name x pos')) spos.line X.env=pure true)
 (hs:∀z,Ge iter X.env z=pure z:=by intro _;rfl) (hfn:0#j:=by first | exact .inl rfl | exact .inr rfl | assumption) :
 QS X (.Assign [.Name x pos'] 0#E spos) (CO (xy wi n cap g tt te) (jf i)):=
 ⟨My.QH hN hix hx hc hi.h (λC s0 H0 ex' jw=>(hg C s0 H0 ex' jw).h) (λC s0 H0 ex' jw=>(NH C s0 H0 ex' jw).h) (λC s0 H0 ex' jw=>(helt C s0 H0 ex' jw).h) hO hcap hf hcell hkind hnames hsw hs hfn⟩
end Jd
namespace My
def U4 (h:ts σ H λvs H1=>sp (vs++[]) H1 Q E):xx sp [] E ts σ H Q:=h
noncomputable def LZ (K:bJ) (C fI:af):Bool:=match K.lookup C with
 | some ⟨.type "type",_,.cls cd,sl⟩=>(match cd.mro,sl.toList with
   | .ref C'::bm,[_,_,_,_,some (.builtin n),_]=>C'==C&&n == "ValueError.__new__"&&!cd.hasDel&&cd.hasDict&&PySem.W.tailIn K [.type "ValueError",.type "Exception",.type "BaseException",.type "object"] bm&&PySem.W.nsOkIn K cd.ns&&iz K cd.ns "__init__"==some (some (.ref fI))
   | _,_=>false)
 | _=>false
end My
namespace Jd
def abm (hg:Gl X x) (hm:X.mg x=some (.ref C)) (hd:0#g:=by decide):QE X (.Name x pos) (tC (.ref C)):=⟨L2.L6 hg hm (show RelV (.ref C) (.ref C) from rfl) hd⟩
end Jd
namespace My
def Kl (h:ta σ H λvs H1=>∃i j:Int,vs=[.int i,.int j]/\(-(2 ^ 62)<=i/\i<2 ^ 62/\-(2 ^ 62)<=j/\j<2 ^ 62)/\R (S7 i (j-i).toNat) H1):PC ta σ H R:=h
end My
namespace Jd
def nV (hg:Gl X "range") (hm:X.mg "range"=none) (ha:QA X [a,b] t) (hs:bf [a,b] X.env=[(false,eval a X.env),(false,eval b X.env)]:=by rfl) (hs2:bf [b] X.env=[(false,eval b X.env)]:=by rfl) :
 QI X tg (.Call (.Name "range" p) [a,b] [] pos) (PC t):=⟨L2.nV hg hm ha.h hs hs2⟩
end Jd
namespace My
def qg {σ:L2.St} {T:af} (ch:List af) (I:L2.Inv X pins σ H s) (k:∀b u,b∉ch->s.heap.get? b=some u->h'.get? b=some u)
 (hf:∀b∈ch,xS X pins H b) (hT:s.heap.objs.size<=T) (new:fm X.prog X.w (upd H T o) h' T o):L2.Inv X pins σ (upd H T o) { s with heap:=h',toks:=t' }:=-by
 have M:H T=none:=I.hok.fresh hT
 have out:∀b u,H b=some u->b∉ch:=λb u e z=>by rw [(hf b z).1] at e;cases e
 have n:∀b u,H b=some u->upd H T o b=some u:=λb u e=>by rw [aJ (bh e M)];exact e
 refine I.step (g':=s.gens) (d':=s.drawn) (ch:=ch) (λb A=>?_) (λb u _ _ p e _=>k b u p e) (λb u _ _ p e _=>⟨u.slots,k b u p e⟩) (λb u p e z=>?_) (λb u p e=>⟨u,k b u p e⟩)
  (λb O e=>n b _ e) (λb u v e=>n b _ e) (λb ps e=>⟨#[],by rw [n b _ e];simp⟩) (λm L=>?_) (λb u e=>?_) I.bare
 ·obtain ⟨_,D,_,E,G,J⟩:=hf b A
  exact ⟨E,D,G,J⟩
 ·have A:b≠T:=lU (pD (eO e) hT)
  rw [aJ A]
  exact z
 ·obtain ⟨u,es,B,N,r⟩:=L
  exact ⟨u,es,B,k _ u (λz=>(hf _ z).2.1 rfl) N,r⟩
 ·by_cases A:b=T
  ·subst A
   rw [au] at e
   cases e
   exact new
  ·rw [aJ A] at e
   exact fm.stay (I.hok b u e) (λc v p q=>k c v (p.elim (λz=>z▸out b u e) λz=>out c _ z) q) (λc q=>n c _ q) λc O q=>n c _ q
def Yb (K:bJ) (a:af):It:=
 ⟨λi H=>∃xs x,bw K H a xs/\xs[i]?=some x,λi H v H'=>∃(p:af) (x:V),H p=none/\v=.ref p/\H'=upd H p (.tup [.int (i:Int),x])/\∀xs,bw K H a xs->xs[i]?=some x,λi H=>∃xs,bw K H a xs/\xs.length<=i⟩
def Oj {K:bJ} (a e it:af) (hei:e≠it) :
 Turn P w K (.Tuple elts kt tpos) (Yb K a) [e,it] e (λi h=>(∃old,IsEnum h e it (i:Int) old)/\h.IsListIter it a i) where
 mem:=by simp
 obj:=λi h st b hb=>by
  obtain ⟨⟨old,he⟩,o,eo,c,d⟩:=st
  rcases (show b=e\/b=it by simpa using hb) with rfl | rfl
  ·exact ⟨_,he,λv z=>by cases z⟩
  ·exact ⟨o,eo,λv z=>by rw [d] at z;cases z⟩
 keep:=λi h h' st k=>⟨let ⟨old,he⟩:=st.1;⟨old,k e 0#t _ he⟩,st.2.at λo q=>k it 0#t o q⟩
 item:=-by
  intro X R Z Q hc i B s σ H E I L st U
  subst R Z Q
  obtain ⟨⟨old,he⟩,A⟩:=st
  obtain ⟨xs,x,M,hx⟩:=U
  obtain ⟨ad,rv,p,hz⟩:=I.list M
  obtain ⟨u,hu,ru⟩:=rv.get hx
  refine wpAny_pyNext_enum_item he A p.isList (x:=u) (by simpa using hu) hei λh1 ho O hT hsz hk=>?_
  refine ⟨_,rfl,wpAny_letOwnedTupleGo_enum (s:={ s with heap:=h1,toks:=s.toks+1 }) ho λJ Tc Y=>?_⟩
  have N:DJ e h1 J:=Y
  have ke:∀b o,b∉[e,it]->s.heap.get? b=some o->J.get? b=some o:=λb o hb q=>by
   have n:b≠e:=λz=>hb (by simp [z])
   have D:b≠it:=λz=>hb (by simp [z])
   exact (N.2 b n).trans (hk b o n D q)
  have G:e<s.heap.objs.size:=eO he
  have S:J.get? s.heap.objs.size=some { cls:=.type "tuple",data:=.seq #[.int i s.toks,u] }:=(N.2 _ (SA G)).trans hT
  have hn:H s.heap.objs.size=none:=I.hok.fresh (d8 _)
  have I2:L2.Inv X B σ (upd H s.heap.objs.size (.tup [.int (i:Int),x])) { s with heap:=J,toks:=s.toks+1 }:=by
   refine qg [e,it] I ke L (d8 _) ?_
   exact ⟨by show 2<=sizeLine;decide,[.int (i:Int) s.toks,u],.cons ⟨_,rfl⟩ (.cons ru .nil),_,S,rfl,_,rfl⟩
  refine ⟨.ref s.heap.objs.size,upd H s.heap.objs.size (.tup [.int (i:Int),x]),I2,rfl,⟨s.heap.objs.size,x,hn,rfl,rfl,λys hy=>by rw [I.uA hy M];exact hx⟩,⟨⟨u,?_⟩,O.at λo q=>(N.2 it (jS hei)).trans q⟩,λb hb=>?_⟩
  ·have:=Tc
   simpa using this
  ·have n:=(L b hb).1
   have ac:it<s.heap.objs.size:=by
    obtain ⟨o,eo,_⟩:=A
    exact eO eo
   have D:b≠s.heap.objs.size:=by
    rcases (show b=e\/b=it by simpa using hb) with rfl | rfl
    ·exact lU G
    ·exact lU ac
   rw [aJ D]
   exact n
 done:=by
  intro X R Z Q hc i B s σ H E I L st U
  subst R Z Q
  obtain ⟨⟨old,he⟩,A⟩:=st
  obtain ⟨xs,M,hx⟩:=U
  obtain ⟨ad,rv,p,hz⟩:=I.list M
  have hl:=rv.length
  obtain ⟨f0,f1,f2,f3,f4,f5⟩:=L it 0#t
  exact wpAny_pyNext_enum_end (I.ok.hd hc) he A p.isList (by simp;simp?) λh' eb=>⟨rfl,I.turned (t':=s.toks) (λb o hb q=>eb b o hb q) f0 f1 f3 f4 f5⟩
 self:=λ_ _ _ _ _ st h=>let ⟨_,he⟩:=st.1;W0 he h
def Pz (K:bJ) (ta:TA):TI:=λσ H R=>ta σ H λvs H1=>∃a xs,vs=[.ref a]/\bw K H1 a xs/\R (Yb K a) H1
def yL (K:bJ) (hg:Gl X "enumerate") (hm:X.mg "enumerate"=none) (ha:PA X [a] ta) (hs:bf [a] X.env=[(false,eval a X.env)]:=by rfl) (hK:X.K=K:=by rfl) :
 PI X (.Tuple elts kt tpos) (.Call (.Name "enumerate" p) [a] [] pos) (Pz K ta):=-by
 subst hK
 intro u s E H R I h
 refine Call_ (sJ I hg hm boot_enumerate (S4 (gP (ha pos u s E H _ I h) λus n ⟨vs,A,v,Q,O⟩=>?_) hs rfl))
 obtain ⟨l,xs,e,M,q⟩:=O
 subst e
 cases Q with
 | cons r rr=>
   cases rr
   cases r
   obtain ⟨its,rv,N,hz⟩:=v.list M
   refine call_enumerate_list N.isList λB D z hsz L=>?_
   have G:L2.Inv X u E A { n with heap:=B }:=v.kept (t':=n.toks) L
   refine W0 (s:={ n with heap:=B }) D ?_
   refine ⟨n.heap.objs.size+1,[n.heap.objs.size+1,n.heap.objs.size],_,_,A,rfl,G,Oj l (n.heap.objs.size+1) n.heap.objs.size (Nat.succ_ne_self _),⟨⟨_,D⟩,z⟩,λb J=>?_,q⟩
   rcases (show b=n.heap.objs.size+1\/b=n.heap.objs.size by simpa using J) with rfl | rfl
   ·exact v.Je (Iz _) (v.hok.fresh (Iz _))
   ·exact v.Je (d8 _) (v.hok.fresh (d8 _))
def QU {K:bJ} (h:ta σ H λvs H1=>∃a xs,vs=[.ref a]/\bw K H1 a xs/\R (Yb K a) H1):Pz K ta σ H R:=h
def O8 {σ:L2.St} {H:Hp} {K:bJ} {a:af} {g:TG} {tb:TS} {D:Ends} (Pv:Nat->L2.St->Hp->Prop) (h0:Pv 0 σ H) (hl:∀i σ H,i<=xs.length->Pv i σ H->bw K H a xs)
 (hs:∀(i:Nat) (x:V) (σ:L2.St) (H:Hp) (p:af) (H':Hp),xs[i]?=some x->Pv i σ H->ah H H'->H p=none->H' p=some (.tup [.int (i:Int),x])->g (.ref p) σ H' λσ2 H2=>tb { D with nx:=Pv (i+1),ct:=Pv (i+1),bk:=D.nx } σ2 H2)
 (hd:∀σ H,Pv xs.length σ H->D.nx σ H) :
 ∃W:Nat->Nat->L2.St->Hp->Prop,(∃m,W 0 m σ H)/\∀i m σ H,W i m σ H ->
  ((Yb K a).stop i H/\D.nx σ H)\/((Yb K a).go i H/\∃N:L2.St->Hp->Prop,(∀σ' H',N σ' H'->∃m',m'<m/\W (i+1) m' σ' H')/\∀x H',(Yb K a).OG i H x H'->g x σ H' λσ2 H2=>tb { D with nx:=N,ct:=N,bk:=D.nx } σ2 H2):=-by
 refine ⟨λi m σ H=>m=xs.length-i/\i<=xs.length/\Pv i σ H,⟨xs.length,rfl,lY _,h0⟩,?_⟩
 rintro i m σ H ⟨rfl,z,p⟩
 have q:=hl i σ H z p
 rcases XD i xs.length with n | hge
 ·refine .inr ⟨⟨xs,xs[i],q,lW n⟩,Pv (i+1),λσ' H' B=>⟨xs.length-(i+1),by simp?,rfl,n,B⟩,λx H' y=>?_⟩
  obtain ⟨pt,E,u,rfl,rfl,A⟩:=y
  exact hs i E σ H pt _ (A xs q) p (iu u _) u au
 ·have v:i=xs.length:=by simp?
  subst v
  exact .inl ⟨⟨xs,q,d8 _⟩,hd σ H p⟩
def ZS (h:D.ct σ H):Rz D σ H:=h
def LK (K:bJ) (h:X.K=K:=by rfl):qY X (pQ .In) (rIn K false):=h▸N1
def An (K:bJ) (h:X.K=K:=by rfl):qY X (pQ .NotIn) (rIn K true):=h▸EG
end My
namespace Jd
def qq:QS X (.Continue pos) Rz:=⟨L2.qq⟩
def yL (K:bJ)  (hg:Gl X "enumerate") (hm:X.mg "enumerate"=none) (ha:QA X [a] ta) (hs:bf [a] X.env=[(false,eval a X.env)]:=by rfl) (hK:X.K=K:=by rfl) :
 QI X (.Tuple elts kt tpos) (.Call (.Name "enumerate" p) [a] [] pos) (Pz K ta):=⟨My.yL K hg hm ha.h hs hK⟩
end Jd
namespace My
def tX (K:bJ) (C:af):List Str->Prop
 | []=>True
 | f::fs=>mT K C f/\tX K C fs
def tX.of {K:bJ}:∀{fs:List Str},tX K C fs->f∈fs->mT K C f
 | g::fs,h,hm=>by
   rcases jG.mp hm with z | z
   ·rw [z];exact h.1
   ·exact tX.of h.2 z
structure Cl (K:bJ) (mg:0#h) (x:Str) (C:af) (fs:List Str):Prop where
 cl:IK K C
 at_:mg x=some (.ref C)
 no:tX K C fs
structure Dm (P:fP) (w:dh) (K:bJ) (mg:0#h) (base:cA) (k:Nat) (C:af) (m:Str) (ps:List Str) (sp:Sp):Prop where
 ex:∃(f:af) (fd:fU),aX P w K mg base cO k f fd ps sp/\Meth K C m f/\Binds K fd ps []
structure Dk (P:fP) (w:dh) (K:bJ) (mg:0#h) (base:cA) (k:Nat) (x:Str) (C:af) (ps:List Str) (sp:Sp):Prop where
 ex:∃(f:af) (fd:fU),aX P w K mg base cO k f fd ps sp/\Mk K C f/\Binds K fd ps []/\mg x=some (.ref C)
def abt (K:bJ) (f:Str):V->Hp->VK->Prop:=λx H Q=>∃a C dx fs v,x=.ref a/\H a=some (.ins C dx fs)/\IK K C/\mT K C f/\fs.lookup f=some v/\Q v H
def V1 (K:bJ) (f:Str) (y:V) (N:Hp->Prop):V->Hp->Prop:=λx H=>∃a C dx fs,x=.ref a/\H a=some (.ins C dx fs)/\IK K C/\mT K C f/\fs.length<1000/\N (upd H a (.ins C dx (av f y fs)))
def V3 (C:af) (m:Str) (sp:Sp) (σ:L2.St) (t:TA):V->Hp->VK->Prop:=λx H1 Q=>∃a dx fs,x=.ref a/\H1 a=some (.ins C dx fs)/\fs.lookup m=none/\t σ H1 λvs H2=>sp (x::(vs++[])) H2 Q E0
def abB {K:bJ} (h:to σ H λx H1=>abt K f x H1 Q):aah K to f σ H Q:=h
def Z3 {K:bJ} (h:tv σ H λy H1=>to σ H1 λx H2=>V1 K f y (λH3=>D.nx σ H3) x H2):aab K to tv f D σ H:=h
def ZX (h:to σ H λx H1=>V3 C m sp σ t x H1 Q):HQ C m sp [] E0 to t σ H Q:=h
def ZV (h:t σ H λvs H1=>∀x dx,H1 x=none->H1 dx=none->dx≠x->sp (.ref x::(vs++[])) (upd (upd H1 dx (.own x)) x (.ins C dx [])) (λv H2=>v=.bG/\Q (.ref x) H2) E0):RB C sp [] E0 t σ H Q:=h
def kq {K:bJ} (k:Cl K mg x C fn) (ha:H a=some (.ins C dx fs)) (hl:fs.lookup f=some v) (q:Q v H) (hf:f∈fn:=by decide):abt K f (.ref a) H Q:=⟨a,C,dx,fs,v,rfl,ha,k.cl,k.no.of hf,hl,q⟩
def yO {K:bJ} (k:Cl K mg x C fn) (ha:H a=some (.ins C dx fs)) (hn:fs.length<1000) (q:N (upd H a (.ins C dx (av f y fs)))) (hf:f∈fn:=by decide):V1 K f y N (.ref a) H:=⟨a,C,dx,fs,rfl,ha,k.cl,k.no.of hf,hn,q⟩
def OE (ha:H a=some (.ins C dx fs)) (hm:fs.lookup m=none) (q:t σ H λvs H2=>sp (.ref a::(vs++[])) H2 Q E0):V3 C m sp σ t (.ref a) H Q:=⟨a,dx,fs,rfl,ha,hm,q⟩
end My
namespace Jd
def JZ {X:Cx} {f:Str} {pos:Pos} {e:aW} {to:TE} (K:bJ) (he:QE X e to) (hb:tQ e f X.env (eval e X.env)=eval e X.env:=by rfl) (hK:X.K=K:=by rfl):QE X (.Attribute e f pos) (aah K to f):=⟨hK▸L2.JZ he.h hb⟩
def Kc {X:Cx} {f:Str} {pos:Pos} {o value:aW} {to tv:TE} (K:bJ) {pos':Pos} (ha:QE X o to) (hv:QE X value tv) (hs:kr value (some (.Attribute o f pos')) pos.line X.env=pure false:=by rfl) (hK:X.K=K:=by rfl):QS X (.Assign [.Attribute o f pos'] value pos) (aab K to tv f):=⟨hK▸L2.Kc ha.h hv.h hs⟩
def QB (D:Dk X.prog X.w X.K X.mg X.base k x C ps sp) (hr:gY (k+1) X.A) (hg:Gl X x) (ha:QA X (e::es) t) (hdb:0#g:=by decide)
 (he:0#i:=by rfl) (hpl:0#n:=by rfl):QE X (.Call (.Name x p) (e::es) [] pos) (RB C sp [] E0 t):=-by
 obtain ⟨fa,fd,ok,v,u,z⟩:=D.ex
 exact ⟨UT v ok hr hg z u .nil L5 ha.h hdb he hpl⟩
def uJ {X:Cx} {k:Nat} {m:Str} {ps:List Str} {sp:Sp} {pos apos:Pos} {o e:aW} {es:List aW} {to:TE} {t:TA} {C:af} (D:Dm X.prog X.w X.K X.mg X.base k C m ps sp) (c:IK X.K C) (hr:gY k X.A) (ho:QE X o to) (ha:QA X (e::es) t) {pl:Sem Bool}
 (he:0#i:=by rfl) (hpl:0#n:=by rfl)
 (ht:eval (.Call (.Attribute o m apos) (e::es) [] pos) X.env=(do
   let ov <- eval o X.env
   xM apos.atName
   let (g,first) <- holding [ov] (getMethod ov m pl)
   callWith pos g first (gB pos (bf (e::es) X.env)) (qS pos (qR [] X.env))):=by rfl):QE X (.Call (.Attribute o m apos) (e::es) [] pos) (HQ C m sp [] E0 to t):=-by
 obtain ⟨fa,fd,ok,u,p⟩:=D.ex
 exact ⟨UU ho.h c u ok hr p .nil L5 ha.h he hpl ht⟩
def JY {X:Cx} {k:Nat} {m:Str} {ps:List Str} {sp:Sp} {pos apos:Pos} {o:aW} {to:TE} {C:af} (D:Dm X.prog X.w X.K X.mg X.base k C m ps sp) (c:IK X.K C) (hr:gY k X.A) (ho:QE X o to) {pl:Sem Bool}
 (ht:eval (.Call (.Attribute o m apos) [] [] pos) X.env=(do
   let ov <- eval o X.env
   xM apos.atName
   let (g,first) <- holding [ov] (getMethod ov m pl)
   callWith pos g first (gB pos (bf [] X.env)) (qS pos (qR [] X.env))):=by rfl):QE X (.Call (.Attribute o m apos) [] [] pos) (HQ C m sp [] E0 to pA):=-by
 obtain ⟨fa,fd,ok,p,n⟩:=D.ex
 exact ⟨QC ho.h c p ok hr n .nil L5 ht⟩
end Jd
namespace My
def Z7 (K:bJ)  (ho:PE X o to) (h:X.K=K:=by rfl) (hbase:tQ o "reverse" X.env (eval o X.env)=eval o X.env:=by rfl) (hline:0#o:=by rfl) :
 PE X (.Call (.Attribute o "reverse" apos) [] [] cpos) (tUn (λx H Q=>Vq K "list" x H/\uL x [] H Q) to):=
 h▸Qy Mq PySem.F.slot_list_reverse PySem.F.type_list_reverse JK ho hbase hline
def abN (h:H p=some (.lst xs)) (q:Q .bG (upd H p (.lst xs.reverse))):uL (.ref p) [] H Q:=⟨p,xs,rfl,rfl,h,q⟩
def GI (K:bJ)  (ho:PE X o to) (he:PE X e te) (h:X.K=K:=by rfl)
 (hbase:tQ o "extend" X.env (eval o X.env)=eval o X.env:=by rfl)
 (hfew:((gB cpos (bf (e::[]) X.env)).all (λx=>!x.1)&&(qS cpos (qR [] X.env)).all (λx=>x.1.isSome)
   && decide ((e::([]:List aW)).length+([]:List mJ).length+(if ([]:List mJ).isEmpty then 0 else 1)<30))=true:=by rfl)
 (hline:0#o:=by rfl) (hs:bf (e::[]) X.env=(false,eval e X.env)::bf [] X.env:=by rfl) (hplain:(gB cpos (bf [] X.env)).any (·.1)=false:=by rfl) :
 PE X (.Call (.Attribute o "extend" apos) [e] [] cpos) (Wb K "list" yN to (eV te pA)):=
 h▸Qx Mq PySem.F.slot_list_extend PySem.F.type_list_extend NR ho (jJ he sR hs) hbase hfew hline hs hplain
def Di (h:H p=some (.lst xs)) (hb:H b=some (.lst zs)) (hl:xs.length+zs.length<=sizeLine) (q:Q .bG (upd H p (.lst (xs++zs)))):yN (.ref p) [.ref b] H Q:=⟨p,b,xs,zs,rfl,rfl,h,hb,hl,q⟩
end My
namespace Jd
open PySem PySem.Spec PyProof.Rows L2 Mth
def Z7 (K:bJ)  (ho:QE X o to) (h:X.K=K:=by rfl) (hbase:tQ o "reverse" X.env (eval o X.env)=eval o X.env:=by rfl) (hline:0#o:=by rfl) :
 QE X (.Call (.Attribute o "reverse" apos) [] [] cpos) (tUn (λx H Q=>Vq K "list" x H/\uL x [] H Q) to):=⟨My.Z7 K ho.h h hbase hline⟩
def GI (K:bJ)  (ho:QE X o to) (he:QE X e te) (h:X.K=K:=by rfl)
 (hbase:tQ o "extend" X.env (eval o X.env)=eval o X.env:=by rfl)
 (hfew:((gB cpos (bf (e::[]) X.env)).all (λx=>!x.1)&&(qS cpos (qR [] X.env)).all (λx=>x.1.isSome)
   && decide ((e::([]:List aW)).length+([]:List mJ).length+(if ([]:List mJ).isEmpty then 0 else 1)<30))=true:=by rfl)
 (hline:0#o:=by rfl) (hs:bf (e::[]) X.env=(false,eval e X.env)::bf [] X.env:=by rfl) (hplain:(gB cpos (bf [] X.env)).any (·.1)=false:=by rfl) :
 QE X (.Call (.Attribute o "extend" apos) [e] [] cpos) (Wb K "list" yN to (eV te pA)):=⟨My.GI K ho.h he.h h hbase hfew hline hs hplain⟩
end Jd
namespace L2
open PySem PySem.Spec PyProof.Rows
def sL {α:Type}:∀{us:List α},us.length=n+1->∃(a:α) (as:List α),us=a::as/\as.length=n
 | [],h=>nomatch h
 | a::as,h=>⟨a,as,rfl,XC h⟩
def len0 {α:Type}:∀{us:List α},us.length=0->us=[]
 | [],_=>rfl
 | _::_,h=>nomatch h
def pM.OP {K:bJ} {st:aO} (F:pM K x qual st f fd) (h:∀(kV doc pm:aE) (an:Option af) (cdv ct ua:aE),BZ (qU x qual (eY st) (dI st) (bW st) .none kV doc pm an cdv ct) ⟨[ua],[]⟩=pure [(pa,ua)]):Binds K fd [pa] []:=
 F.binds λkV doc pm an cdv ct us hl=>by
  obtain ⟨ua,us0,rfl,Uq⟩:=sL (n:=0) hl
  obtain rfl:=len0 Uq
  exact h kV doc pm an cdv ct ua
def pM.DW {K:bJ} {st:aO} (F:pM K x qual st f fd) (h:∀(kV doc pm:aE) (an:Option af) (cdv ct ua ub:aE),BZ (qU x qual (eY st) (dI st) (bW st) .none kV doc pm an cdv ct) ⟨[ua,ub],[]⟩=pure [(pa,ua),(pb,ub)]):Binds K fd [pa,pb] []:=
 F.binds λkV doc pm an cdv ct us hl=>by
  obtain ⟨ua,us1,rfl,hl1⟩:=sL (n:=1) hl
  obtain ⟨ub,us0,rfl,Uq⟩:=sL (n:=0) hl1
  obtain rfl:=len0 Uq
  exact h kV doc pm an cdv ct ua ub
def pM.OR {K:bJ} {st:aO} (F:pM K x qual st f fd) (h:∀(kV doc pm:aE) (an:Option af) (cdv ct ua ub uc:aE),BZ (qU x qual (eY st) (dI st) (bW st) .none kV doc pm an cdv ct) ⟨[ua,ub,uc],[]⟩=pure [(pa,ua),(pb,ub),(pc,uc)]):Binds K fd [pa,pb,pc] []:=
 F.binds λkV doc pm an cdv ct us hl=>by
  obtain ⟨ua,us2,rfl,hl2⟩:=sL (n:=2) hl
  obtain ⟨ub,us1,rfl,hl1⟩:=sL (n:=1) hl2
  obtain ⟨uc,us0,rfl,Uq⟩:=sL (n:=0) hl1
  obtain rfl:=len0 Uq
  exact h kV doc pm an cdv ct ua ub uc
def pM.OS {K:bJ} {st:aO} (F:pM K x qual st f fd) (h:∀(kV doc pm:aE) (an:Option af) (cdv ct ua ub uc ud:aE),BZ (qU x qual (eY st) (dI st) (bW st) .none kV doc pm an cdv ct) ⟨[ua,ub,uc,ud],[]⟩=pure [(pa,ua),(pb,ub),(pc,uc),(pd,ud)]):Binds K fd [pa,pb,pc,pd] []:=
 F.binds λkV doc pm an cdv ct us hl=>by
  obtain ⟨ua,us3,rfl,hl3⟩:=sL (n:=3) hl
  obtain ⟨ub,us2,rfl,hl2⟩:=sL (n:=2) hl3
  obtain ⟨uc,us1,rfl,hl1⟩:=sL (n:=1) hl2
  obtain ⟨ud,us0,rfl,Uq⟩:=sL (n:=0) hl1
  obtain rfl:=len0 Uq
  exact h kV doc pm an cdv ct ua ub uc ud
def pM.Yn {K:bJ} {st:aO} (F:pM K x qual st f fd) (h:∀(kV doc pm:aE) (an:Option af) (cdv ct ua ub uc ud ue:aE),BZ (qU x qual (eY st) (dI st) (bW st) .none kV doc pm an cdv ct) ⟨[ua,ub,uc,ud,ue],[]⟩=pure [(pa,ua),(pb,ub),(pc,uc),(pd,ud),(pe,ue)]):Binds K fd [pa,pb,pc,pd,pe] []:=
 F.binds λkV doc pm an cdv ct us hl=>by
  obtain ⟨ua,us4,rfl,VM⟩:=sL (n:=4) hl
  obtain ⟨ub,us3,rfl,hl3⟩:=sL (n:=3) VM
  obtain ⟨uc,us2,rfl,hl2⟩:=sL (n:=2) hl3
  obtain ⟨ud,us1,rfl,hl1⟩:=sL (n:=1) hl2
  obtain ⟨ue,us0,rfl,Uq⟩:=sL (n:=0) hl1
  obtain rfl:=len0 Uq
  exact h kV doc pm an cdv ct ua ub uc ud ue
end L2
namespace My
open PySem PySem.Spec PyProof.Rows L2
def iB (Pv:L2.St->Hp->Prop) (rest:∀σ' H',Pv σ' H'->u D σ' H') (h:∀N:L2.St->Hp->Prop,(∀σ' H',Pv σ' H'->N σ' H')->t { D with nx:=N } σ H):BI t u D σ H:=h (u D) rest
def Rg (Pv:L2.St->Hp->Prop) (rest:∀σ' H',Pv σ' H'->u D σ' H') (h:∀N:L2.St->Hp->Prop,(∀σ' H',Pv σ' H'->N σ' H')->BI a (BI b (BI c d)) { D with nx:=N } σ H):BI a (BI b (BI c (BI d u))) D σ H:=h (u D) rest
def Qc (h:N σ H):(Ends.mk N rt bk ct).nx σ H:=h
def ig {g:TG} {tb:TS} (h:∀(M B:L2.St->Hp->Prop) (R:VK),(∀σ H,Pv σ H->M σ H)->(∀σ H,bk σ H->B σ H)->(∀v H,rt v H->R v H)->g x σ H λσ2 H2=>tb (Ends.mk M R B M) σ2 H2):g x σ H λσ2 H2=>tb (Ends.mk Pv rt bk Pv) σ2 H2:=h Pv bk rt (λ_ _ z=>z) (λ_ _ z=>z) (λ_ _ z=>z)
end My
namespace My
def V2 (K:bJ):0#m->Hp->VK->Prop:=λxs H Q=>∃(l:af) (ns:List Int),xs=[.ref l]/\bw K H l (ns.map V.int)/\0<ns.length/\∀M:Int,M∈ns->(∀a∈ns,a<=M)->Q (.int M) H
def adP (K:bJ) (hc:X.calm=true) (hK:X.K=K:=by rfl):je X (.builtin "max") (V2 K):=-by
 subst hK
 intro pins s σ H xs us Q I r h
 obtain ⟨l,D,rfl,L,hpos,q⟩:=h
 obtain ⟨u,rfl,O⟩:=vals1 r
 cases O
 obtain ⟨its,N,p,hz⟩:=I.list L
 have B:=intsAre_of N
 obtain ⟨z,e⟩:=B.allInts.items
 have n:D=z.toList.map (·.1):=by
  have A:=nums_intItems z
  rw [<- e] at A
  exact B.numsOf.symm.trans A
 have E:s.heap.IsList l (intItems z):=by rw [<- e];exact p.isList
 have hlen:D.length=z.size:=by rw [n,iR,Sb]
 refine max_intList (I.ok.hd hc) E 0#r λv h' tk M J=>?_
 obtain ⟨t,rfl⟩:=intItems_at M
 obtain ⟨h1,A⟩:=argBest_gt (numAt z) (z.size-1)
 refine ⟨.int _,H,I.kept J,⟨t,rfl⟩,q _ ?_ λa G=>?_⟩
 ·rw [numAt_eq,<- n]
  exact PySem.getD_mem 0#r
 ·obtain ⟨j,hj,rfl⟩:=PySem.mem_getD G
  have:=A j 0#r
  rw [numAt_eq z j,<- n] at this
  exact this
def ZW {K:bJ} {ns:List Int} (h:bw K H l (ns.map V.int)) (hp:0<ns.length) (q:∀M:Int,M∈ns->(∀a∈ns,a<=M)->Q (.int M) H):V2 K [.ref l] H Q:=⟨l,ns,rfl,h,hp,q⟩
def EV:V->0#m->Hp->VK->Prop:=λx vs H Q=>∃(l:af) (ns:List Int) (k:Int),x=.ref l/\vs=[.int k]/\H l=some (.lst (ns.map V.int))/\ns.length<=1000/\k∈ns/\∀j:Nat,ns[j]?=some k->Q (.int (j:Int)) H
def Hf:∀{ns:List Int},k∈ns->∃j:Nat,ns[j]?=some k/\∀i:Nat,i<j->ns[i]?≠some k
 | a::ns,h=>by
   by_cases e:a=k
   ·exact ⟨0,by rw [e];rfl,λi hi=>absurd hi (xC _)⟩
   ·rcases jG.mp h with z | z
    ·exact absurd z.symm e
    ·obtain ⟨j,h1,h2⟩:=Hf z
     refine ⟨j+1,h1,λi hi=>?_⟩
     cases i with
     | zero=>exact λq=>e (tO q)
     | succ i=>exact h2 i (Nat.lt_of_succ_lt_succ hi)
def P6:MtM X "list.index" EV:=-by
 intro pins s σ H x vs v us Q I rx rv h
 obtain ⟨l,E,k,rfl,rfl,S,aeo,U,q⟩:=h
 cases rx
 obtain ⟨u,rfl,R⟩:=rv.one
 obtain ⟨t,rfl⟩:=R
 obtain ⟨j,M,O⟩:=Hf U
 obtain ⟨z,p,n,r,Y,e⟩:=I.Ho S
 have hlen:p.length=E.length:=by rw [<- Y,iR]
 have hjn:j<E.length:=(kM.mp M).1
 have L:∀(i:Nat) (a:Int),E[i]?=some a->∃A,p[i]?=some (Value.int a A):=λi a B=>by
  obtain ⟨u,Z,R⟩:=Vals.get r (i:=i) (x:=.int a) (by rw [lZ,B];rfl)
  obtain ⟨A,rfl⟩:=R
  exact ⟨A,Z⟩
 have at2:∀(i:Nat) (G:i<p.length),∃(a:Int) (A:Nat),E[i]?=some a/\p[i]=Value.int a A:=λi G=>by
  have B:E[i]?=some E[i]:=lW 0#r
  obtain ⟨A,D⟩:=L i _ B
  rw [lW G] at D
  exact ⟨_,A,B,tO D⟩
 refine DL F.slot_list_index ⟨_,e,rfl⟩ F.entry_list_index (F.args_list_index_2 _ _)
  (MeetsSeq.list_index l p.toArray n (.int k t) (isInt k) (λy hy=>?_) j (by rw [jb];simp?) 0#r ?_ (λm J N=>?_)) ⟨e,?_⟩
 ·obtain ⟨i,G,rfl⟩:=List.mem_iff_getElem.mp (List.mem_toArray.mp hy)
  obtain ⟨a,A,_,D⟩:=at2 i G
  rw [D]
  exact acP a k A t
 ·obtain ⟨a,A,B,D⟩:=at2 j 0#r
  rw [M] at B
  cases B
  show isInt k p[j]=true
  rw [D]
  simp [isInt]
 ·obtain ⟨a,A,B,D⟩:=at2 m (by rw [jb] at J;exact J)
  show isInt k (p[m]'(by rw [jb] at J;exact J))=false
  rw [D]
  have:a≠k:=λq=>O m N (by rw [B,q])
  simp [isInt,this]
 ·exact ⟨.int (j:Int),H,I.tok _,⟨_,rfl⟩,q j M⟩
def Zg (K:bJ)  (ho:PE X o to) (he:PE X e te) (h:X.K=K:=by rfl)
 (hbase:tQ o "index" X.env (eval o X.env)=eval o X.env:=by rfl)
 (hfew:((gB cpos (bf (e::[]) X.env)).all (λx=>!x.1)&&(qS cpos (qR [] X.env)).all (λx=>x.1.isSome)
   && decide ((e::([]:List aW)).length+([]:List mJ).length+(if ([]:List mJ).isEmpty then 0 else 1)<30))=true:=by rfl)
 (hline:0#o:=by rfl) (hs:bf (e::[]) X.env=(false,eval e X.env)::bf [] X.env:=by rfl) (hplain:(gB cpos (bf [] X.env)).any (·.1)=false:=by rfl) :
 PE X (.Call (.Attribute o "index" apos) [e] [] cpos) (Wb K "list" EV to (eV te pA)):=
 h▸Qx Mq PySem.F.slot_list_index PySem.F.type_list_index P6 ho (jJ he sR hs) hbase hfew hline hs hplain
def abC {ns:List Int} (h:H p=some (.lst (ns.map V.int))) (hl:ns.length<=1000) (hk:k∈ns) (q:∀j:Nat,ns[j]?=some k->Q (.int (j:Int)) H):EV (.ref p) [.int k] H Q:=⟨p,ns,k,rfl,rfl,h,hl,hk,q⟩
end My
namespace Jd
open PySem PySem.Spec PyProof.Rows L2 Mth
def Zg (K:bJ)  (ho:QE X o to) (he:QE X e te) (h:X.K=K:=by rfl)
 (hbase:tQ o "index" X.env (eval o X.env)=eval o X.env:=by rfl)
 (hfew:((gB cpos (bf (e::[]) X.env)).all (λx=>!x.1)&&(qS cpos (qR [] X.env)).all (λx=>x.1.isSome)
   && decide ((e::([]:List aW)).length+([]:List mJ).length+(if ([]:List mJ).isEmpty then 0 else 1)<30))=true:=by rfl)
 (hline:0#o:=by rfl) (hs:bf (e::[]) X.env=(false,eval e X.env)::bf [] X.env:=by rfl) (hplain:(gB cpos (bf [] X.env)).any (·.1)=false:=by rfl) :
 QE X (.Call (.Attribute o "index" apos) [e] [] cpos) (Wb K "list" My.EV to (eV te pA)):=⟨My.Zg K ho.h he.h h hbase hfew hline hs hplain⟩
end Jd
namespace My
def JA {σ:L2.St} (ch:List af) (I:L2.Inv X pins σ H s) (k:∀b u,b∉ch->s.heap.get? b=some u->h'.get? b=some u)
 (hf:∀b∈ch,xS X pins H b):L2.Inv X pins σ H { s with heap:=h',toks:=t' }:=-by
 have out:∀b u,H b=some u->b∉ch:=λb u e z=>by rw [(hf b z).1] at e;cases e
 refine I.step (g':=s.gens) (d':=s.drawn) (ch:=ch) (λb G=>?_) (λb u _ _ n e _=>k b u n e) (λb u _ _ n e _=>⟨u.slots,k b u n e⟩) (λb u n e z=>z) (λb u n e=>⟨u,k b u n e⟩)
  (λb M e=>e) (λb u v e=>e) (λb ps e=>⟨#[],by rw [e];simp⟩) (λm J=>?_) (λb u e=>?_) I.bare
 ·obtain ⟨_,A,_,B,D,E⟩:=hf b G
  exact ⟨B,A,D,E⟩
 ·obtain ⟨u,es,p,L,r⟩:=J
  exact ⟨u,es,p,k _ u (λz=>(hf _ z).2.1 rfl) L,r⟩
 ·exact fm.stay (I.hok b u e) (λc v n q=>k c v (n.elim (λz=>z▸out b u e) λz=>out c _ z) q) (λc q=>q) λc M q=>q
def Itz (K:bJ) (a b:af):It:=
 ⟨λi H=>∃xs ys x y,bw K H a xs/\bw K H b ys/\xs[i]?=some x/\ys[i]?=some y,
  λi H v H'=>∃(p:af) (x y:V),H p=none/\v=.ref p/\H'=upd H p (.tup [x,y])/\(∀xs,bw K H a xs->xs[i]?=some x)/\∀ys,bw K H b ys->ys[i]?=some y,
  λi H=>∃xs ys,bw K H a xs/\bw K H b ys/\(xs.length<=i\/ys.length<=i)⟩
def RM {K:bJ} (z TI TO i1 i2 a b:af) (D:ZipApart z TI TO i1 i2 a b) :
 Turn P w K (.Tuple elts kt tpos) (Itz K a b) [z,TI,TO,i1,i2] z (λi h=>IsZip h z TI TO .none/\IsPair h TI (.ref i1) (.ref i2)/\(∃u v,IsPair h TO u v)/\h.IsListIter i1 a i/\h.IsListIter i2 b i) where
 mem:=by simp
 obj:=λi h st c hc=>by
  obtain ⟨hz,hTI,⟨u,v,hTO⟩,⟨o1,e1,_,d1⟩,⟨o2,e2,_,d2⟩⟩:=st
  rcases (show c=z\/c=TI\/c=TO\/c=i1\/c=i2 by simpa using hc) with rfl | rfl | rfl | rfl | rfl
  ·exact ⟨_,hz,λv q=>by cases q⟩
  ·exact ⟨_,hTI,λv q=>by cases q⟩
  ·exact ⟨_,hTO,λv q=>by cases q⟩
  ·exact ⟨o1,e1,λv q=>by rw [d1] at q;cases q⟩
  ·exact ⟨o2,e2,λv q=>by rw [d2] at q;cases q⟩
 keep:=λi h h' st k=>by
  obtain ⟨hz,hTI,⟨u,v,hTO⟩,h1,h2⟩:=st
  exact ⟨k z 0#t _ hz,k TI 0#t _ hTI,⟨u,v,k TO 0#t _ hTO⟩,h1.at λo q=>k i1 0#t o q,h2.at λo q=>k i2 0#t o q⟩
 item:=-by
  intro X hP hw hK hc i B s σ H E I Q st hg
  subst hP hw hK
  obtain ⟨hz,hTI,⟨u0,v0,hTO⟩,h1,h2⟩:=st
  obtain ⟨xs,ys,x,y,S,A,U,hy⟩:=hg
  obtain ⟨al,rv,p,_⟩:=I.list S
  obtain ⟨M,J,p',_⟩:=I.list A
  obtain ⟨u,hu,ru⟩:=rv.get U
  obtain ⟨v,hv,am⟩:=J.get hy
  refine wpAny_pyNext_zip_item D hz hTI hTO h1 h2 p.isList p'.isList (x:=u) (y:=v) (by simpa using hu) (by simpa using hv) λh' a1 a2 a3 a4 a5 a6 R=>?_
  refine ⟨_,rfl,wpAny_letOwnedTupleGo_zip (s:={ s with heap:=h' }) a1 λO ak aj=>?_⟩
  have L:DJ z h' O:=aj
  have ke:∀c o,c∉[z,TI,TO,i1,i2]->s.heap.get? c=some o->O.get? c=some o:=λc o n q=>by
   have c1:c≠z:=λe=>n (by simp [e])
   exact (L.2 c c1).trans (R c o c1 (λe=>n (by simp [e])) (λe=>n (by simp [e])) (λe=>n (by simp [e])) q)
  have N:z<s.heap.objs.size:=eO hz
  have ad:TO<s.heap.objs.size:=eO hTO
  have ac:TI<s.heap.objs.size:=eO hTI
  have Y:i1<s.heap.objs.size:=by obtain ⟨_,e,_⟩:=h1;exact eO e
  have Z:i2<s.heap.objs.size:=by obtain ⟨_,e,_⟩:=h2;exact eO e
  have ae:O.get? s.heap.objs.size=some { cls:=.type "tuple",data:=.seq #[u,v] }:=(L.2 _ (SA N)).trans a5
  have hn:H s.heap.objs.size=none:=I.hok.fresh (d8 _)
  have I2:L2.Inv X B σ (upd H s.heap.objs.size (.tup [x,y])) { s with heap:=O }:=by
   refine qg (t':=s.toks) [z,TI,TO,i1,i2] I ke Q (d8 _) ?_
   exact ⟨by show 2<=sizeLine;decide,[u,v],.cons ru (.cons am .nil),_,ae,rfl,_,rfl⟩
  refine ⟨.ref s.heap.objs.size,upd H s.heap.objs.size (.tup [x,y]),I2,rfl,⟨s.heap.objs.size,x,y,hn,rfl,rfl,λzs G=>by rw [I.uA G S];exact U,λzs G=>by rw [I.uA G A];exact hy⟩,⟨ak,?_,⟨u,v,(L.2 TO D.TOz).trans a2⟩,a3.at λo q=>(L.2 i1 D.i1z).trans q,a4.at λo q=>(L.2 i2 D.i2z).trans q⟩,λc n=>?_⟩
  ·exact (L.2 TI D.TIz).trans (R TI _ D.TIz D.TITO D.TIi1 D.TIi2 hTI)
  ·have ag:=(Q c n).1
   have ai:c≠s.heap.objs.size:=by
    rcases (show c=z\/c=TI\/c=TO\/c=i1\/c=i2 by simpa using n) with rfl | rfl | rfl | rfl | rfl
    ·exact lU N
    ·exact lU ac
    ·exact lU ad
    ·exact lU Y
    ·exact lU Z
   rw [aJ ai]
   exact ag
 done:=by
  intro X hP hw hK hc i B s σ H E I Q st hg
  subst hP hw hK
  obtain ⟨hz,hTI,⟨u0,v0,hTO⟩,h1,h2⟩:=st
  obtain ⟨xs,ys,S,A,U⟩:=hg
  obtain ⟨al,rv,p,_⟩:=I.list S
  obtain ⟨M,J,p',_⟩:=I.list A
  have hl:=rv.length
  have hl':=J.length
  refine wpAny_pyNext_zip_end (I.ok.hd hc) D hz hTI hTO h1 h2 p.isList p'.isList ?_ λh' R=>⟨rfl,?_⟩
  ·rcases U with q | q
   ·exact .inl (by simp;simp?)
   ·exact .inr (by simp;simp?)
  ·exact JA (t':=s.toks) [z,TI,TO,i1,i2] I (λc o n q=>R c o (λe=>n (by simp [e])) (λe=>n (by simp [e])) (λe=>n (by simp [e])) (λe=>n (by simp [e])) q) Q
 self:=λ_ _ _ _ _ st h=>Xb st.1 h
def Zf (K:bJ) (ta:TA):TI:=λσ H R=>ta σ H λvs H1=>∃a b xs ys,vs=[.ref a,.ref b]/\bw K H1 a xs/\bw K H1 b ys/\R (Itz K a b) H1
def AH (K:bJ) (hg:Gl X "zip") (hm:X.mg "zip"=none) (ha:PA X [a,b] ta) (hs:bf [a,b] X.env=(false,eval a X.env)::bf [b] X.env:=by rfl) (hs2:bf [b] X.env=[(false,eval b X.env)]:=by rfl) (hK:X.K=K:=by rfl) :
 PI X (.Tuple elts kt tpos) (.Call (.Name "zip" p) [a,b] [] pos) (Zf K ta):=-by
 subst hK
 intro u s S H R I h
 refine Call_ (sJ I hg hm boot_zip (S4 (gP (ha pos u s S H _ I h) λus n ⟨vs,B,v,r1,q1⟩=>?_) hs (by rw [hs2];rfl)))
 obtain ⟨l,O,xs,ys,e,hq,L,q⟩:=q1
 subst e
 cases r1 with
 | cons r rr=>
   cases rr with
   | cons r' rr'=>
     cases rr'
     cases r
     cases r'
     obtain ⟨its,rv,Q,_⟩:=v.list hq
     obtain ⟨its',rv',A,_⟩:=v.list L
     have a1:l<n.heap.objs.size:=by obtain ⟨_,e,_⟩:=Q.isList;exact eO e
     have a2:O<n.heap.objs.size:=by obtain ⟨_,e,_⟩:=A.isList;exact eO e
     refine call_zip_2 Q.isList A.isList λM N D E G J hsz Z=>?_
     have U:L2.Inv X u S B { n with heap:=M }:=v.kept (t':=n.toks) Z
     refine Xb (s:={ n with heap:=M }) N ?_
     refine ⟨n.heap.objs.size+4,[n.heap.objs.size+4,n.heap.objs.size+2,n.heap.objs.size+3,n.heap.objs.size,n.heap.objs.size+1],_,_,B,rfl,U,RM _ _ _ _ _ l O (zipApart_new a1 a2),⟨N,D,⟨_,_,E⟩,G,J⟩,λc Y=>?_,q⟩
     have z:∀k,xS X u B (n.heap.objs.size+k):=λk=>v.Je (MI _ _) (v.hok.fresh (MI _ _))
     rcases (show c=n.heap.objs.size+4\/c=n.heap.objs.size+2\/c=n.heap.objs.size+3\/c=n.heap.objs.size\/c=n.heap.objs.size+1 by simpa using Y) with rfl | rfl | rfl | rfl | rfl
     ·exact z 4
     ·exact z 2
     ·exact z 3
     ·exact z 0
     ·exact z 1
def QX {K:bJ} (h:ta σ H λvs H1=>∃a b xs ys,vs=[.ref a,.ref b]/\bw K H1 a xs/\bw K H1 b ys/\R (Itz K a b) H1):Zf K ta σ H R:=h
def vz {K:bJ} (hn1:Gu<=xs.length) (hn2:Gu<=ys.length) (hn:xs.length<=Gu\/ys.length<=Gu) (hok:∀H2,ah H H2->bw K H2 a xs/\bw K H2 b ys) (hl:Gu<=1000) (P:Nat->0#m->Hp->Prop) (h0:P 0 [] H)
 (step:∀(D:af) (i:Nat) (x y:V) (us:0#m) (H2 H3:Hp) (p:af) (jT:L2.St) (N:VK) (N0:Hp->Prop),jT.length=n->H D=none->H2 D=some (.lst us)->ah H H2->ah H2 H3->H3 p=some (.tup [x,y])->i<Gu->xs[i]?=some x->ys[i]?=some y->us.length<=i->P i us (rm D H2) ->
   (∀v H6,ah H3 H6->P (i+1) (us++[v]) (rm D H6)->N v H6)->(∀H5,ah H3 H5->P (i+1) us (rm D H5)->N0 H5) ->
   g (.ref p) (jT++jY cap σ) H3 λσ2 H4=>(∃σ1,σ1.length=n/\σ2=σ1++jY cap σ)/\tt σ2 H4 λb H5=>if b=true then te σ2 H5 N else N0 H5)
 (done:∀(D:af) (us:0#m) (H2:Hp),H D=none->H2 D=some (.lst us)->ah H H2->us.length<=Gu->P Gu us (rm D H2)->Q (.ref D) H2):Lg n cap g tt te σ Q (Itz K a b) H:=-by
 intro D u
 refine ⟨λi m us H2=>H2 D=some (.lst us)/\ah H H2/\us.length<=i/\i<=Gu/\m=Gu-i/\P i us (rm D H2),⟨Gu,au,bB (ah.refl _) u,lY _,lY _,rfl,?_⟩,?_⟩
 ·rw [vW]
  have e:rm D H=H:=by
   funext b
   by_cases h:b=D
   ·rw [h,u];exact if_pos rfl
   ·exact lH h
  rw [e];exact h0
 ·rintro i m us H2 ⟨e,s,B,O,rfl,p⟩
  refine ⟨e,?_⟩
  obtain ⟨q,E⟩:=hok H2 s
  by_cases hlt:i<Gu
  ·refine .inr ⟨⟨xs,ys,xs[i],ys[i],q,E,lW _,lW _⟩,Gd (iy B O) (aY hl),λv H3 jT h0 y=>?_⟩
   obtain ⟨pt,J,L,A,rfl,rfl,R,S⟩:=y
   have z:=iu A (.tup [J,L])
   refine step D i J L us H2 _ pt jT _ _ h0 u e s z au hlt (R xs q) (S ys E) B p (λv H6 I Y=>?_) λH5 G U=>?_
   ·refine ⟨(z.trans I) _ _ e,Gu-(i+1),by simp?,au,bB (s.trans (z.trans I)) u,?_,by simp?,rfl,?_⟩
    ·rw [gA,IE];simp?
    ·rw [vW];exact Y
   ·exact ⟨Gu-(i+1),by simp?,(z.trans G) _ _ e,s.trans (z.trans G),by simp?,by simp?,rfl,U⟩
  ·have M:i=Gu:=by simp?
   subst M
   exact .inl ⟨⟨xs,ys,q,E,hn⟩,done D us H2 u e s B p⟩
end My
namespace Jd
def AH (K:bJ)  (hg:Gl X "zip") (hm:X.mg "zip"=none) (ha:QA X [a,b] ta) (hs:bf [a,b] X.env=(false,eval a X.env)::bf [b] X.env:=by rfl) (hs2:bf [b] X.env=[(false,eval b X.env)]:=by rfl) (hK:X.K=K:=by rfl) :
 QI X (.Tuple elts kt tpos) (.Call (.Name "zip" p) [a,b] [] pos) (Zf K ta):=⟨My.AH K hg hm ha.h hs hs2 hK⟩
end Jd
namespace My
def Fx (K:bJ) (x:Str) (st:aO):Prop:=∃(f:af) (fd:fU),iz K dZ x=some (some (.ref f))/\pM K x x st f fd
def Fm (K:bJ) (C:af) (m q:Str) (st:aO):Prop:=∃(f:af) (fd:fU),jF K (.ref C) m=some (some (.ref f))/\xG K (.ref f)=true/\pM K m q st f fd
def Fi (K:bJ) (C:af) (q:Str) (st:aO):Prop:=∃(f:af) (fd:fU),jF K (.ref C) "__init__"=some (some (.ref f))/\LZ K C f=true/\xG K (.ref f)=true/\pM K "__init__" q st f fd
def aaO {K:bJ} {st:aO} {kV:aE} (a:iz K dZ x=some (some (.ref f))) (l:K.lookup f=some ⟨oc,od,.func (qU x x (eY st) (dI st) (bW st) .none kV doc pm an cdv ct),osl⟩) (c:u5 K cdv x=true) (k:ve K (.ref f)=true):Fx K x st:=⟨f,_,a,Jg l c k⟩
def aaL {K:bJ} {q:Str} {st:aO} {f C:af} {oc:aE} {od an:Option af} {kV doc pm cdv ct:aE} (a:jF K (.ref C) "__init__"=some (some (.ref f))) (o:LZ K C f=true) (i:xG K (.ref f)=true) (l:K.lookup f=some ⟨oc,od,.func (qU "__init__" q (eY st) (dI st) (bW st) .none kV doc pm an cdv ct),osl⟩) (c:u5 K cdv q=true) (k:ve K (.ref f)=true):Fi K C q st:=⟨f,_,a,o,i,Jg l c k⟩
def aaM {K:bJ} {m q:Str} {st:aO} {f C:af} {oc:aE} {od an:Option af} {kV doc pm cdv ct:aE} (a:jF K (.ref C) m=some (some (.ref f))) (i:xG K (.ref f)=true) (l:K.lookup f=some ⟨oc,od,.func (qU m q (eY st) (dI st) (bW st) .none kV doc pm an cdv ct),osl⟩) (c:u5 K cdv q=true) (k:ve K (.ref f)=true):Fm K C m q st:=⟨f,_,a,i,Jg l c k⟩
section
variable (P:fP) (w:dh) (base:cA) {K:bJ} {mg:0#h} {h:cA} {k:Nat} {x m q:Str} {ps:List Str} {sp:Sp} {st:aO} {f C:af} {fd:fU}
def dnm (X:K.In h) (G:h.Ns dZ mg) (a:iz K dZ x=some (some (.ref f))) (F:pM K x x st f fd) (ok:0#b k f fd ps sp) (b:Binds K fd ps []):0#c k x ps sp:=aaF F ok (BW X G a) b
def dmm (a:jF K (.ref C) m=some (some (.ref f))) (i:xG K (.ref f)=true) (F:pM K m q st f fd) (ok:0#b k f fd ps sp) (b:Binds K fd ps []):Dm P w K mg base k C m ps sp:=⟨f,fd,ok,⟨a,i,F.kp⟩,b⟩
end
structure Tp (P:fP) (w:dh) (K:bJ) (mg:0#h) (base:cA):Prop where
 ex:∃h:cA,K.In h/\h.Ns dZ mg
def Tp.d {K:bJ} {st:aO} (Y:Tp P w K mg base) (h:Fx K x st) (ok:∀{f fd},pM K x x st f fd->0#b k f fd ps sp) (b:∀{f fd},pM K x x st f fd->Binds K fd ps []:=by intro _ _ F;first | exact F.DW λ_ _ _ _ _ _ _ _=>rfl | exact F.OP λ_ _ _ _ _ _ _=>rfl | exact F.OR λ_ _ _ _ _ _ _ _ _=>rfl | exact F.OS λ_ _ _ _ _ _ _ _ _ _=>rfl | exact F.Yn λ_ _ _ _ _ _ _ _ _ _ _=>rfl):0#c k x ps sp:=
 have ⟨_,X,G⟩:=Y.ex
 have ⟨_,_,a,F⟩:=h
 dnm P w base X G a F (ok F) (b F)
def Tp.m {P:fP} {w:dh} {K:bJ} {mg:0#h} {base:cA} {m q:Str} {C:af} {st:aO} {k:Nat} {ps:List Str} {sp:Sp} (_:Tp P w K mg base) (h:Fm K C m q st) (ok:∀{f fd},pM K m q st f fd->0#b k f fd ps sp) (b:∀{f fd},pM K m q st f fd->Binds K fd ps []:=by intro _ _ F;first | exact F.DW λ_ _ _ _ _ _ _ _=>rfl | exact F.OP λ_ _ _ _ _ _ _=>rfl | exact F.OR λ_ _ _ _ _ _ _ _ _=>rfl | exact F.OS λ_ _ _ _ _ _ _ _ _ _=>rfl):Dm P w K mg base k C m ps sp:=
 have ⟨_,_,a,i,F⟩:=h
 dmm P w base a i F (ok F) (b F)
mutual
def Den.up (s:ah H H'):∀{v:V} {d:r9},Den H v d->Den H' v d
 | _,_,.bG=>.bG
 | _,_,.bl b=>.bl b
 | _,_,.int i=>.int i
 | _,_,.str x=>.str x
 | _,_,.tup e dd=>.tup (s _ _ e) (rJ.up s dd)
 | _,_,.lst e dd=>.lst (s _ _ e) (rJ.up s dd)
def rJ.up (s:ah H H'):∀{vs:0#m} {ds:List r9},rJ H vs ds->rJ H' vs ds
 | _,_,.nil=>.nil
 | _,_,.cons d dd=>.cons (Den.up s d) (rJ.up s dd)
end
end My
namespace My
open PySem PySem.Spec PySem.Calls PyProof.Rows L2 Mth
structure aay (K:bJ) (x qual:Str) (st:aO) (f:af) (fd:fU) (d:aE):Prop where
 ex:∃(T:af) (oc:aE) (od:Option af) (kV doc pm:aE) (an:Option af) (cdv ct:aE) (osl:Array (Option aE)) (tc:aE) (td:Option af) (tn:Nat) (tsl:Array (Option aE)),
  fd=qU x qual (eY st) (dI st) (bW st) (.ref T) kV doc pm an cdv ct/\K.lookup f=some ⟨oc,od,.func fd,osl⟩/\u5 K cdv qual=true/\K.lookup T=some ⟨tc,td,.seq #[d] tn,tsl⟩
 kp:ve K (.ref f)=true
def Fxd (K:bJ) (x:Str) (st:aO) (i:Int):Prop:=∃(f:af) (fd:fU) (tk:Tok),iz K dZ x=some (some (.ref f))/\aay K x x st f fd (.int i tk)
def YR {K:bJ} {x:Str} {st:aO} {i:Int} {f T:af} {oc tc:aE} {od an td:Option af} {osl:Array (Option aE)} {kV doc pm cdv ct:aE} {tk:Tok} {tn:Nat} (a:iz K dZ x=some (some (.ref f)))
 (l:K.lookup f=some ⟨oc,od,.func (qU x x (eY st) (dI st) (bW st) (.ref T) kV doc pm an cdv ct),osl⟩) (t:K.lookup T=some ⟨tc,td,.seq #[.int i tk] tn,tsl⟩) (c:u5 K cdv x=true) (k:ve K (.ref f)=true):Fxd K x st i:=
 ⟨f,_,tk,a,⟨T,oc,od,kV,doc,pm,an,cdv,ct,osl,tc,td,tn,tsl,rfl,l,c,t⟩,k⟩
def Gt (K:bJ) (x:Str) (a:af) (z1 z2 z3 z4:Str):Prop:=iz K dZ x=some (some (.ref a))/\∀H,ny K H a [.str z1,.str z2,.str z3,.str z4]
def aaP {K:bJ} (h:iz K dZ x=some (some (.ref a)))
 (l:K.lookup a=some ⟨.type "tuple",td,.seq #[.str z1 t1,.str z2 t2,.str z3 t3,.str z4 t4] n,sl⟩):Gt K x a z1 z2 z3 z4:=
 ⟨h,λ_=>.inr ⟨_,_,_,l,rfl,rfl,by show 4<=sizeLine;decide,.cons ⟨t1,rfl⟩ (.cons ⟨t2,rfl⟩ (.cons ⟨t3,rfl⟩ (.cons ⟨t4,rfl⟩ .nil)))⟩⟩
def Fxb (K:bJ) (x:Str) (st:aO) (b:Bool):Prop:=∃(f:af) (fd:fU),iz K dZ x=some (some (.ref f))/\aay K x x st f fd (.bool b)
def YQ {K:bJ} {x:Str} {st:aO} {b:Bool} {f T:af} {oc tc:aE} {od an td:Option af} {osl:Array (Option aE)} {kV doc pm cdv ct:aE} {tn:Nat} (a:iz K dZ x=some (some (.ref f)))
 (l:K.lookup f=some ⟨oc,od,.func (qU x x (eY st) (dI st) (bW st) (.ref T) kV doc pm an cdv ct),osl⟩) (t:K.lookup T=some ⟨tc,td,.seq #[.bool b] tn,tsl⟩) (c:u5 K cdv x=true) (k:ve K (.ref f)=true):Fxb K x st b:=
 ⟨f,_,a,⟨T,oc,od,kV,doc,pm,an,cdv,ct,osl,tc,td,tn,tsl,rfl,l,c,t⟩,k⟩
end My
namespace Jd
open PySem PySem.Spec PyProof.Rows L2 Mth My
def Gk:aW->Bool
 | .Starred ..=>false
 | _=>true
def lS (h:Gk e=true):bf (e::es) env=(false,eval e env)::bf es env:=-by
 cases e <;> first | rfl | cases h
def a1 {X:Cx} {a:aW} {ta:TE} (h1:QE X a ta) (n1:Gk a=true:=by rfl):QA X [a] (eV ta pA):=jJ h1 sR (lS n1)
def a2 {X:Cx} {a b:aW} {ta tb:TE} (h1:QE X a ta) (h2:QE X b tb) (n1:Gk a=true:=by rfl) (n2:Gk b=true:=by rfl):QA X [a,b] (eV ta (eV tb pA)):=jJ h1 (a1 h2 n2) (lS n1)
def a3 (h1:QE X a ta) (h2:QE X b tb) (h3:QE X c tc) (n1:Gk a=true:=by rfl) (n2:Gk b=true:=by rfl) (n3:Gk c=true:=by rfl):QA X [a,b,c] (eV ta (eV tb (eV tc pA))):=jJ h1 (a2 h2 h3 n2 n3) (lS n1)
def a4 (h1:QE X a ta) (h2:QE X b tb) (h3:QE X c tc) (h4:QE X d td) (n1:Gk a=true:=by rfl) (n2:Gk b=true:=by rfl) (n3:Gk c=true:=by rfl) (n4:Gk d=true:=by rfl):QA X [a,b,c,d] (eV ta (eV tb (eV tc (eV td pA)))):=jJ h1 (a3 h2 h3 h4 n2 n3 n4) (lS n1)
def c1 (D:Dn X.prog X.w X.K X.mg X.base k x ps sp) (hr:gY m X.A) (h1:QE X a ta) (hk:k<=m:=by decide) (hg:Gl X x:=by rfl) (hd:0#g:=by decide) (n1:Gk a=true:=by rfl):QE X (.Call (.Name x p) [a] [] pos) (xx sp [] E0 (eV ta pA)):=Df D (hr.mono hk) hg (a1 h1 n1) hd (lS n1) cD
def c2 {X:Cx} {a b:aW} {ta tb:TE} {pos p:Pos} {x:Str} {k m:Nat} {ps:List Str} {sp:Sp} (D:Dn X.prog X.w X.K X.mg X.base k x ps sp) (hr:gY m X.A) (h1:QE X a ta) (h2:QE X b tb) (hk:k<=m:=by decide) (hg:Gl X x:=by rfl) (hd:0#g:=by decide) (n1:Gk a=true:=by rfl) (n2:Gk b=true:=by rfl):QE X (.Call (.Name x p) [a,b] [] pos) (xx sp [] E0 (eV ta (eV tb pA))):=Df D (hr.mono hk) hg (a2 h1 h2 n1 n2) hd (lS n1) (cV (lS n2) cD)
def c3 (D:Dn X.prog X.w X.K X.mg X.base k x ps sp) (hr:gY m X.A) (h1:QE X a ta) (h2:QE X b tb) (h3:QE X c tc) (hk:k<=m:=by decide) (hg:Gl X x:=by rfl) (hd:0#g:=by decide) (n1:Gk a=true:=by rfl) (n2:Gk b=true:=by rfl) (n3:Gk c=true:=by rfl):QE X (.Call (.Name x p) [a,b,c] [] pos) (xx sp [] E0 (eV ta (eV tb (eV tc pA)))):=Df D (hr.mono hk) hg (a3 h1 h2 h3 n1 n2 n3) hd (lS n1) (cV (lS n2) (cV (lS n3) cD))
def adL {X:Cx} {a:aW} {ta:TE} {pos p:Pos} (K:bJ) (hm:X.mg "len"=none) (h1:QE X a ta) (h:X.K=K:=by rfl) (hg:Gl X "len":=by rfl) (n1:Gk a=true:=by rfl):QE X (.Call (.Name "len" p) [a] [] pos) (tCB (ZL K) (eV ta pA)):=-by
 subst h
 exact uI (adK X.K) hg hm PySem.boot_len (a1 h1 n1) (he:=lS n1) (hpl:=cD)
def iT {X:Cx} {a:aW} {ta:TE} {pos:Pos} (K:bJ) (h1:QE X a ta) {n:Int} {j:Nat} {q:Pos} (h:X.K=K:=by rfl):QE X (.Subscript a (.Constant (.int n) j q) pos) (RH (Kh K) ta (tC (.int n))):=-by
 subst h
 exact HG (PF X.K) h1 AF λ_ _=>rfl
def iL {X:Cx} {a:aW} {ta:TE} {pos:Pos} (K:bJ) (h1:QE X a ta) {n:Int} {j:Nat} {q:Pos} (h:X.K=K:=by rfl):QE X (.Subscript a (.Constant (.int n) j q) pos) (RH (U3 K) ta (tC (.int n))):=-by
 subst h
 exact HG (iQ X.K) h1 AF λ_ _=>rfl
def sE {X:Cx} {e:aW} {te:TE} {pos:Pos} {x:Str} (i:Nat) {pos':Pos} (hN:X.N.Nodup) (he:QE X e te) (hi:X.N[i]?=some x:=by rfl) (hx:Loc X.env.scope x:=by exact Or.inl rfl) (hs:kr e (some (.Name x pos')) pos.line X.env=pure false:=by rfl) (hf:0#j:=by first | exact .inl rfl | exact .inr rfl | assumption):QS X (.Assign [.Name x pos'] e pos) (CO te (jf i)):=EN hN hi hx he hs hf
end Jd
abbrev aa:=@Jd.pv
abbrev ao:=@Jd.AK
abbrev aA:=@Jd.AF
abbrev aB:=@Jd.iT
abbrev aF:=@Jd.ER
abbrev aI:=@Jd.QD
abbrev aM:=@Jd.sE
abbrev aS:=@Jd.Ke
abbrev br:=@Jd.a2
abbrev bu:=@Jd.J4
abbrev bx:=@Jd.go
abbrev bA:=@Jd.c2
abbrev bC:=@Jd.ES
abbrev bU:=@Jd.QJ
abbrev bV:=@Jd.HG
abbrev bY:=@Jd.EO
abbrev c8:=@Jd.EJ
abbrev c9:=@Jd.a1
abbrev dD:=@Jd.JZ
abbrev dU:=@Jd.J0
abbrev eN:=@Jd.jJ
abbrev fZ:=@Jd.sR
abbrev gc:=@Jd.EK
abbrev gK:=@Jd.J1
abbrev ju:=@Jd.adL
abbrev j0:=@Jd.piL
abbrev fB:=@Jd.Yl
abbrev fD:=@Jd.uI
abbrev gQ:=@Jd.Kd
abbrev gR:=@Jd.EH
abbrev gT:=@Jd.Kc
abbrev gU:=@Jd.J3
abbrev iW:=@Jd.Kf
abbrev iX:=@Jd.Df
abbrev jg:=@Jd.ac9
abbrev jh:=@Jd.QF
abbrev ly:=@Jd.ET
abbrev lz:=@Jd.AG
abbrev lA:=@Jd.EN
abbrev mh:=@Jd.Qw
abbrev nK:=@Jd.QK
abbrev pG:=@Jd.EI
abbrev uu:=@Jd.AE
abbrev uv:=@Jd.EU
abbrev uw:=@Jd.vU
namespace My
def IX {K:bJ} (hok:∀H2,ah H H2->bw K H2 a xs) (hl:xs.length<=1000) (P:Nat->0#m->Hp->Prop) (h0:P 0 [] H)
 (step:∀(D:af) (i:Nat) (x:V) (us:0#m) (H2 H3:Hp) (p:af) (jT:L2.St) (N:VK) (N0:Hp->Prop),jT.length=n->H D=none->H2 D=some (.lst us)->ah H H2->ah H2 H3->H3 p=some (.tup [.int (i:Int),x])->xs[i]?=some x->us.length<=i->P i us (rm D H2) ->
   (∀v H6,ah H3 H6->P (i+1) (us++[v]) (rm D H6)->N v H6)->(∀H5,ah H3 H5->P (i+1) us (rm D H5)->N0 H5) ->
   g (.ref p) (jT++jY cap σ) H3 λσ2 H4=>(∃σ1,σ1.length=n/\σ2=σ1++jY cap σ)/\tt σ2 H4 λb H5=>if b=true then te σ2 H5 N else N0 H5)
 (done:∀(D:af) (us:0#m) (H2:Hp),H D=none->H2 D=some (.lst us)->ah H H2->us.length<=xs.length->P xs.length us (rm D H2)->Q (.ref D) H2):Lg n cap g tt te σ Q (Yb K a) H:=-by
 intro D u
 refine ⟨λi m us H2=>H2 D=some (.lst us)/\ah H H2/\us.length<=i/\i<=xs.length/\m=xs.length-i/\P i us (rm D H2),⟨xs.length,au,bB (ah.refl _) u,lY _,lY _,rfl,?_⟩,?_⟩
 ·rw [vW]
  have e:rm D H=H:=by
   funext b
   by_cases h:b=D
   ·rw [h,u];exact if_pos rfl
   ·exact lH h
  rw [e];exact h0
 ·rintro i m us H2 ⟨e,s,B,L,rfl,p⟩
  refine ⟨e,?_⟩
  have q:=hok H2 s
  by_cases hlt:i<xs.length
  ·refine .inr ⟨⟨xs,xs[i],q,lW _⟩,Gd (iy B L) (aY hl),λv H3 jT h0 y=>?_⟩
   obtain ⟨pt,I,A,rfl,rfl,M⟩:=y
   have z:=iu A (.tup [.int (i:Int),I])
   refine step D i I us H2 _ pt jT _ _ h0 u e s z au (M xs q) B p (λv H6 G R=>?_) λH5 E O=>?_
   ·refine ⟨(z.trans G) _ _ e,xs.length-(i+1),by simp?,au,bB (s.trans (z.trans G)) u,?_,by simp?,rfl,?_⟩
    ·rw [gA,IE];simp?
    ·rw [vW];exact R
   ·exact ⟨xs.length-(i+1),by simp?,(z.trans E) _ _ e,s.trans (z.trans E),by simp?,by simp?,rfl,O⟩
  ·have J:i=xs.length:=by simp?
   subst J
   exact .inl ⟨⟨xs,q,d8 _⟩,done D us H2 u e s B p⟩
end My
end
local macro_rules | `(tactic| walk_at "vb") => `(tactic| repeat (first
 | apply_rules (transparency:=.reducible) (exfalso:=false) (symm:=false) only [My.abO,My.abP,My.abM,My.ZT,My.aea,My.QV,My.r_c,My.aec,My.Z4,My.r_B,My.ad3,My.ZR,My.abH,My.abQ,My.ZP,My.ad2]
 | apply_rules (transparency:=.reducible) (exfalso:=false) (symm:=false) only [My.ZS,My.abB,My.Z3,My.ZX,My.ZV,My.aej,My.ad0,My.r_U,My.ad1,My.abE,My.U4,My.abK,My.r_g,My.ZM,My.ZO,My.ZQ,My.abT,My.ZU,My.abF,My.abG,My.abR,My.abJ,My.aby,My.aed,My.ZN,My.ZZ,My.abD]
  | ((with_reducible refine' My.abS ?e1 ?_); (case e1 => rfl))
  | ((with_reducible refine My.fR ?e7 ?_); (case e7 => first | decide | assumption | exact ⟨by decide, by decide, by decide⟩ | (show (0 : Int) < _; first | decide | simp?) | exact My.mulR (by decide) (by decide) | exact My.mulL (by decide) (by decide)))
  | ((with_reducible refine My.ad7 ?e2 ?_); (case e2 => rfl))
  | ((with_reducible refine My.aeb ?e3 ?_); (case e3 => rfl))
  | ((with_reducible refine' My.aef ?e4 ?_); (case e4 => assumption))
  | ((with_reducible refine' My.aeg ?e5 ?_); (case e5 => assumption))
  | ((with_reducible refine' My.aeh ?e6 ?_); (case e6 => assumption))
  | ((with_reducible refine' My.aei ?e8 ?_); (case e8 => assumption))))
local macro_rules | `(tactic| rw?) => `(tactic| walk_at "vb")
local macro_rules | `(tactic| try?) => `(tactic| first
 | assumption
 | exact tR (by assumption)
 | exact xH (by assumption) (by assumption)
 | exact pD (by assumption) (by assumption)
 | exact iy (by assumption) (by assumption)
 | exact rX (by assumption)
 | exact SI (by assumption)
 | exact Int.ne_of_lt (by assumption)
 | exact Ia _
 | lia
 | omega)
local macro_rules | `(tactic| walk_at "fx") => `(tactic| (refine' My.aaO ?a ?l ?c ?k; (case a => k_is); (case l => k_is); (case c => k_is); (case k => k_is)))
local macro_rules | `(tactic| walk_at "fm") => `(tactic| (refine' My.aaM ?a ?i ?l ?c ?k; (case a => k_is); (case i => k_is); (case l => k_is); (case c => k_is); (case k => k_is)))
local macro_rules | `(tactic| walk_at "fi") => `(tactic| (refine' My.aaL ?a ?o ?i ?l ?c ?k; (case a => k_is); (case o => kernel_rfl); (case i => k_is); (case l => k_is); (case c => k_is); (case k => k_is)))
local macro_rules | `(tactic| walk_at "fd") => `(tactic| (refine' My.YR ?a ?l ?t ?c ?k; (case a => k_is); (case l => k_is); (case t => k_is); (case c => k_is); (case k => k_is)))
local macro_rules | `(tactic| walk_at "fb") => `(tactic| (refine' My.YQ ?a ?l ?t ?c ?k; (case a => k_is); (case l => k_is); (case t => k_is); (case c => k_is); (case k => k_is)))
local macro_rules | `(tactic| walk_at "fg") => `(tactic| (refine' My.aaP ?h ?l; (case h => k_is); (case l => k_is)))
local macro_rules | `(tactic| walk_at "fy") => `(tactic| (refine' My.adk ?a ?l ?c ?k; (case a => k_is); (case l => k_is); (case c => k_is); (case k => k_is)))
local macro_rules | `(tactic| walk_at "fe") => `(tactic| (refine' My.adj ?a ?j ?l ?t ?c ?k; (case a => k_is); (case j => k_is); (case l => k_is); (case t => k_is); (case c => k_is); (case k => k_is)))
local macro_rules | `(tactic| walk_at "fz") => `(tactic| first | walk_at "fx" | walk_at "fy" | walk_at "fe" | walk_at "fd" | walk_at "fb" | walk_at "fg" | walk_at "fm" | walk_at "fi" | k_is | k_exc | kts_exm | kit_is)
local macro_rules | `(tactic| walk_at "vs") => `(tactic| first
  | with_reducible refine My.aeH ?_
  | with_reducible refine My.aee ?_
  | with_reducible refine My.abI ?_
  | with_reducible refine My.aeG ?_)
local macro_rules | `(tactic| walk_at "vd") => `(tactic| ((rw?); (repeat ((walk_at "vs"); (rw?)))))
local macro_rules | `(tactic| walk_at "ve") => `(tactic| ((walk_at "vb"); (repeat ((first | with_reducible refine My.ad4 ?_ | with_reducible refine My.ad6 ?_ | with_reducible refine My.ad8 ?_ | with_reducible refine My.ad5 ?_ | with_reducible refine My.aeF ?_ | with_reducible refine My.aeE ?_ | with_reducible refine My.aeI ?_); (walk_at "vb")))))
namespace Lw
inductive Tu {A0 A1:Type} (p:A0->A1->Prop):Prop
 | mk (a0:A0) (a1:A1):p a0 a1->Tu p
inductive VB {A0 A1 A2:Type} (p:A0->A1->A2->Prop):Prop
 | mk (a0:A0) (a1:A1) (a2:A2):p a0 a1 a2->VB p
inductive Yi {A0 A1 A2 A3:Type} (p:A0->A1->A2->A3->Prop):Prop
 | mk (a0:A0) (a1:A1) (a2:A2) (a3:A3):p a0 a1 a2 a3->Yi p
inductive Xs5 {A0 A1 A2 A3 A4:Type} (p:A0->A1->A2->A3->A4->Prop):Prop
 | mk (a0:A0) (a1:A1) (a2:A2) (a3:A3) (a4:A4):p a0 a1 a2 a3 a4->Xs5 p
inductive Xs6 {A0 A1 A2 A3 A4 A5:Type} (p:A0->A1->A2->A3->A4->A5->Prop):Prop
 | mk (a0:A0) (a1:A1) (a2:A2) (a3:A3) (a4:A4) (a5:A5):p a0 a1 a2 a3 a4 a5->Xs6 p
inductive Xs7 {A0 A1 A2 A3 A4 A5 A6:Type} (p:A0->A1->A2->A3->A4->A5->A6->Prop):Prop
 | mk (a0:A0) (a1:A1) (a2:A2) (a3:A3) (a4:A4) (a5:A5) (a6:A6):p a0 a1 a2 a3 a4 a5 a6->Xs7 p
inductive Xs9 {A0 A1 A2 A3 A4 A5 A6 A7 A8:Type} (p:A0->A1->A2->A3->A4->A5->A6->A7->A8->Prop):Prop
 | mk (a0:A0) (a1:A1) (a2:A2) (a3:A3) (a4:A4) (a5:A5) (a6:A6) (a7:A7) (a8:A8):p a0 a1 a2 a3 a4 a5 a6 a7 a8->Xs9 p
inductive aaB {A0 A1 A2 A3 A4 A5 A6 A7 A8 A9:Type} (p:A0->A1->A2->A3->A4->A5->A6->A7->A8->A9->Prop):Prop
 | mk (a0:A0) (a1:A1) (a2:A2) (a3:A3) (a4:A4) (a5:A5) (a6:A6) (a7:A7) (a8:A8) (a9:A9):p a0 a1 a2 a3 a4 a5 a6 a7 a8 a9->aaB p
inductive aaC {A0 A1 A2 A3 A4 A5 A6 A7 A8 A9 A10:Type} (p:A0->A1->A2->A3->A4->A5->A6->A7->A8->A9->A10->Prop):Prop
 | mk (a0:A0) (a1:A1) (a2:A2) (a3:A3) (a4:A4) (a5:A5) (a6:A6) (a7:A7) (a8:A8) (a9:A9) (a10:A10):p a0 a1 a2 a3 a4 a5 a6 a7 a8 a9 a10->aaC p
open PySem L2 Mth My
noncomputable def top (i:Nat):aO:=PySem.Challenge.pw_lath_k81_rules_by_bounds.main.body.getD i (.Pass ⟨0,0,0,0⟩)
abbrev sY:aO:=top 119
abbrev wc:aO:=top 120
abbrev we:aO:=top 121
abbrev qC:aO:=top 122
abbrev lN:aO:=top 123
abbrev j8:aO:=top 11
abbrev jA:aO:=top 12
abbrev vZ:aO:=top 13
abbrev E5:aO:=top 15
abbrev wm:aO:=top 16
abbrev o6:aO:=top 17
abbrev jK:aO:=top 18
abbrev m7:aO:=top 19
abbrev E3:aO:=top 21
abbrev Kw:aO:=top 20
abbrev Kv:aO:=top 23
abbrev ir:aO:=top 30
abbrev m5:aO:=top 31
abbrev lO:aO:=top 32
abbrev qE:aO:=top 33
abbrev E7:aO:=top 34
abbrev wg:aO:=top 35
abbrev AY:aO:=top 36
abbrev Ku:aO:=top 37
abbrev E4:aO:=top 24
abbrev Ky:aO:=top 25
abbrev m6:aO:=top 45
abbrev Kx:aO:=top 57
abbrev jy:aO:=top 39
abbrev sW:aO:=top 27
abbrev tE:aO:=top 28
abbrev mY:aO:=top 40
abbrev E1:aO:=top 41
abbrev qz:aO:=top 42
abbrev vX:aO:=top 43
abbrev iF:aO:=top 85
abbrev j7:aO:=top 86
abbrev tG:aO:=top 87
abbrev tF:aO:=top 88
abbrev E8:aO:=top 89
abbrev EZ:aO:=top 90
abbrev lJ:aO:=inClass (top 68) 0
abbrev j6:aO:=top 66
abbrev j9:aO:=top 67
abbrev j4:aO:=inClass (top 68) 1
abbrev lK:aO:=inClass (top 68) 2
abbrev qF:aO:=top 69
abbrev lQ:aO:=top 59
abbrev mW:aO:=top 60
abbrev m9:aO:=top 61
abbrev qy:aO:=top 62
abbrev j5:aO:=top 63
abbrev E9:aO:=top 46
abbrev Fc:aO:=top 22
abbrev Kr:aO:=top 64
abbrev m8:aO:=top 71
abbrev oY:aO:=top 72
abbrev lM:aO:=top 73
abbrev EY:aO:=top 74
abbrev o7:aO:=top 26
abbrev oZ:aO:=top 76
abbrev wz:aO:=top 77
abbrev qv:aO:=inClass (top 78) 0
abbrev lI:aO:=inClass (top 78) 4
abbrev gZ:aO:=inClass (top 78) 2
abbrev g8:aO:=inClass (top 78) 3
abbrev qw:aO:=inClass (top 78) 1
abbrev j3:aO:=inClass (top 78) 5
abbrev tu:aO:=top 80
abbrev tD:aO:=top 81
abbrev lP:aO:=top 82
abbrev AZ:aO:=top 83
abbrev wu:aO:=top 95
abbrev mZ:aO:=top 14
abbrev sX:aO:=top 55
abbrev vY:aO:=top 56
abbrev qx:aO:=top 93
abbrev mX:aO:=top 94
abbrev AX:aO:=top 96
abbrev Ks:aO:=top 97
abbrev E2:aO:=top 108
abbrev jz:aO:=top 116
abbrev E6:aO:=top 113
abbrev Ba:aO:=top 111
abbrev i6:aO:=top 114
abbrev AW:aO:=top 110
abbrev wj:aO:=top 117
abbrev qD:aO:=top 124
abbrev sZ:aO:=top 125
abbrev qB:aO:=top 126
abbrev qA:aO:=top 127
abbrev o4:aO:=top 128
abbrev Q3:aO:=top 129
inductive KL (K:bJ) (vs:List V) (H:Hp) (Q:VK) (E_:XK):Prop where
 | mk (a:af) (ns:List Int) (i:Int):vs=[.ref a,.int i]->bw K H a (ns.map V.int)->0<=i->i<1000->(∀(c:Int) (H':Hp),ah H H'->Q (.int c) H')->KL K vs H Q E_
inductive Rm (vs:List V) (H:Hp) (Q:VK) (E_:XK):Prop where
 | mk (c k:Int):vs=[.int c,.int k]->0<=k->k<1000->(∀z:Int,Q (.int z) H)->Rm vs H Q E_
inductive Ro (K:bJ) (vs:List V) (H:Hp) (Q:VK) (E_:XK):Prop where
 | mk (a:af) (ns:List Int) (i:Int) (l:af) (zs:List Int):vs=[.ref a,.int i,.ref l]->bw K H a (ns.map V.int)->0<=i->i<900->H l=some (.lst (zs.map V.int))->zs.length<=900->(∀z∈zs,0<z/\z<2 ^ 60)->(∀(p:af) (xs:List Int) (H':Hp),ah H H'->H p=none->H' p=some (.lst (xs.map V.int))->xs.length=zs.length->(∀(j:Nat) (x z:Int),xs[j]?=some x->zs[j]?=some z->0<=x/\x<z)->Q (.ref p) H')->Ro K vs H Q E_
inductive yV (vs:List V) (H:Hp) (Q:VK) (E_:XK):Prop where
 | mk (t b:Int):vs=[.int t,.int b]->0<b->Sz 8990 b->(∀(p:af) (t' b':Int) (H':Hp),ah H H'->H' p=some (.tup [.int t',.int b'])->S8 t b t' b'->Q (.ref p) H')->yV vs H Q E_
inductive Vh (vs:List V) (H:Hp) (Q:VK) (E_:XK):Prop where
 | mk (p:af) (a b:Int):vs=[.ref p]->H p=some (.tup [.int a,.int b])->Sz 8990 b->(∀(r:Bool) (H':Hp),ah H H'->(r=true↔1<=b/\bT a b=1)->Q (.bl r) H')->Vh vs H Q E_
structure Txt (mg:0#h):Prop where
 jv:mg "len"=none
 xU:mg "abs"=none
 range:mg "range"=none
 fY:mg "isinstance"=none
 NI:mg "int"=none
 VC:mg "bool"=none
 K4:mg "tuple"=none
 Hj:mg "list"=none
 Zw:mg "max"=none
 Zy:mg "min"=none
 zO:mg "enumerate"=none
 aat:mg "zip"=none
 aep:mg "all"=none
 aeq:mg "any"=none
 aeK:mg "sum"=none
 ac8:mg "sorted"=none
 aau:mg "reversed"=none
 aeJ:mg "str"=none
def Uu {ns:List Int} (h0:0<=i) (h:i<(ns.length:Int)):∃v:Int,tU (ns.map V.int) i=some (.int v):=-by
 have n:i.toNat<ns.length:=by try?
 exact ⟨ns[i.toNat],cN (lW n) 0#q⟩
def TR {ns:List Int} {i:Nat} (h:(rK (ns.map V.int) lo hi)[i]?=some y):∃m:Int,y=.int m:=-by
 have n:y∈rK (ns.map V.int) lo hi:=nk h
 unfold rK at n
 obtain ⟨m,_,e⟩:=lV.mp (R9 (WH n))
 exact ⟨m,e.symm⟩
def LW (x y:Nat):((x:Int) % (y:Int))=((x % y:Nat):Int):=(Int.natCast_emod x y).symm
def iV (t:Int):(if t<0 then -t else t)=(t.natAbs:Int):=by split <;> try?
noncomputable def OW (i:Nat) (σ:St):Nat:=match σ[i]? with | some (some (V.int n))=>n.toNat | _=>0
noncomputable def We (σ:St):Nat:=match σ[3]? with | some (some (V.int n))=>n.toNat | _=>0
def mE:dB 2 [cg,fL,"_law_seed",dR] sY:=0#p
def Hw (F:dS K "_law_cell" sY f fd) (T:Txt mg):0#b 1 f fd [cg,fL] (KL K):=-by
 refine F.dm mE 0#a
 obtain ⟨a,ns,i,rfl,D,I,h1,k⟩:=h
 apply bx ⟨_,(ao (bU (bC qo 0#C (ju K T.jv 0#w) (aD _)) (aF (aS (bV (iQ K) 0#w 0#C 0#z))) bY) (ao (aM 2 mE.nd aA) (ao (gQ jd rfl (j0 K (Jd.nU (slL K) 0#w Jd.rC (Jd.rD aA))) (c8 (i:=3) mE.nd rfl (Or.inl rfl)) (aF (aM 2 mE.nd (aI iY (aI cE (aI cE (aI aK (aa 2) aA) (aI iY (aa 3) aA)) aA) aA)))) (aF (aS (aI iY (aI cE (aa 2) (aI aK aA 0#C)) aA)))))),?_⟩
 apply dN (.inl D) ?_
 refine c7 (λc=>?_) (λc=>?_)
 ·have G:=dF c
  rw [iR] at G
  obtain ⟨v,M⟩:=Uu (ns:=ns) I G
  rw?
  exact ⟨a,_,i,_,rfl,rfl,D,M,k v H (ah.refl _)⟩
 ·rw?
  refine ⟨_,rfl,_,rfl,a,_,rfl,D,λp L=>?_⟩
  have N:ah H (upd H p (.lst (rK (ns.map V.int) none (some 63)))):=iu L _
  have e1:upd H p (.lst (rK (ns.map V.int) none (some 63))) p=some (.lst (rK (ns.map V.int) none (some 63))):=au
  refine ⟨p,rfl,⟨_,bw.of e1⟩,fu (K:=K) (a:=p) (xs:=rK (ns.map V.int) none (some 63)) (λ_ B u=>Tu λ(z:Int) (v:Option V)=>B=[some (.ref a),some (.int i),some (.int z),v]/\0<=z/\z<2147483647/\ah (upd H p (.lst (rK (ns.map V.int) none (some 63)))) u)
   ⟨5,none,rfl,by decide,by decide,ah.refl _⟩ (λ_ B u _ ⟨_,_,_,_,_,n⟩=>bw.of (n _ _ e1)) ?_ ?_⟩
  ·rintro j y B u J ⟨z,v,rfl,O,R,n⟩
   obtain ⟨m,rfl⟩:=TR J
   rw?
   exact ⟨_,_,rfl,CT _ 0#s,B6 _ 0#s,n⟩
  ·rintro B u ⟨z,v,rfl,O,R,n⟩
   rw?
   exact k _ _ (N.trans n)
def tH:dB 2 [dR,"_law_k",gC,"_law_two"] wc:=0#p
def JP (F:dS K "_law_mix" wc f fd):0#b 1 f fd [dR,"_law_k"] Rm:=-by
 refine F.dm tH 0#a
 obtain ⟨c,j,rfl,h0,h1,k⟩:=h
 refine bx ⟨_,(ao (aM 2 tH.nd (aI iY (aI sQ (aI cE (aI cE (aI iY 0#w aA) (aI aK aA 0#C)) aA) aA) aA)) (ao (aM 3 tH.nd (aI iY (aI cE (aI cE (aI aK (aa 2) aA) (aI aK (aI aK aA 0#C) 0#C)) aA) aA)) (aF (aS (aI eF (aa 3) aA))))),?_⟩
 have b0:0<=c % 2147483629:=CT _ 0#s
 have b1:c % 2147483629<2147483629:=B6 _ 0#s
 rw?
 apply fR (show aav _ _ from ⟨by decide,by decide,by try?⟩) ?_
 apply fR (mulR 0#q 0#q) ?_
 refine fR (show CU _ _ from ⟨by decide,by decide +kernel⟩) ?_
 exact k _
def iG:dB 3 [cg,fL,"_law_sizes",dR,"_law_left","_law_some","_law_k",dc] we:=0#p
def JQ (F:dS K "_law_row" we f fd) (T:Txt mg) (oF:0#c 1 "_law_cell" [cg,fL] (KL K)) (qW:0#c 1 "_law_mix" [dR,"_law_k"] Rm) :
 aX P w K mg base cO 3 f fd [cg,fL,"_law_sizes"] (Ro K):=-by
 refine F.dm iG 0#a
 obtain ⟨a,ns,i,l,N,rfl,hS,h0,h1,hl,hz,ai,k⟩:=h
 apply bx ⟨_,(ao (aM 3 iG.nd (bA oF hr 0#w 0#C)) (ao (aM 4 iG.nd (aa 3)) (ao (aM 5 iG.nd (dU fZ)) (ao (gQ jd rfl (Jd.iM rfl T.range (c9 (ju K T.jv (aa 2)))) (c8 (i:=6) iG.nd rfl (Or.inl rfl)) (aF (bU (bC qo (aa 3) (aI sQ aA aA) (aD _)) (aF (gc (fB K (aa 5) (aI iY (bA qW hr (aa 3) (aa 6)) (bV (iQ K) (aa 2) (aa 6) 0#z))) (hs:=fH))) (aF (bU (bC fF (aa 4) aA (aD _)) (ao (gc (fB K (aa 5) (aI iY (aa 4) (bV (iQ K) (aa 2) (aa 6) 0#z))) (hs:=fH)) (aF (aM 4 iG.nd (aI eF (aa 4) (bV (iQ K) (aa 2) (aa 6) 0#z))))) (ao (aM 7 iG.nd (bA oF hr 0#w (aI iY (aI cE (aI cE 0#C aA) (aa 6)) aA))) (aF (gc (fB K (aa 5) (aI iY (bA qW hr (aa 7) (aa 6)) (bV (iQ K) (aa 2) (aa 6) 0#z))) (hs:=fH))))))))) (aF (aS (aa 5))))))),?_⟩
 apply ⟨a,ns,i,rfl,hS,h0,by try?,λc H1 R=>?_⟩
 apply aC (mk:=.lst) 0#t λp H2 s2 n2 e2=>?_
 have ae:H2 l=some (.lst (N.map V.int)):=s2 _ _ (R _ _ hl)
 refine ⟨_,rfl,l,_,rfl,.inl (bw.of ae),_,rfl,by lia,by rw [iR];lia,iK (λj σ B=>Yi λ(left:Int) (u:List Int) (J L:Option V)=>
  σ=[some (.ref a),some (.int i),some (.ref l),some (.int c),some (.int left),some (.ref p),J,L]/\ah H1 B/\B p=some (.lst (u.map V.int))/\u.length=j/\(∀(j:Nat) (x z:Int),u[j]?=some x->N[j]?=some z->0<=x/\x<z)) ?_ ?_ ?_⟩
 ·exact ⟨c,[],none,none,rfl,s2,e2,rfl,λj x z e _=>by simp at e⟩
 ·rintro j σ B hj ⟨left,u,J,L,rfl,S,e3,Y,G⟩
  have ad:j<N.length:=by simpa using hj
  obtain ⟨z,ez⟩:∃z,N[j]?=some z:=⟨_,lW ad⟩
  obtain ⟨Z,zq⟩:=ai z (nk ez)
  have v:B l=some (.lst (N.map V.int)):=S _ _ (R _ _ hl)
  have U:tU (N.map V.int) (0+(j:Int))=some (.int z):=cN ez 0#q
  have ac:bw K B a (ns.map V.int):=(R.trans S).seq hS
    -- one more item
  have D:∀(y n:Int) (J L:Option V) (O:Hp),ah B O->O p=some (.lst (u.map V.int))->Yi λ(left:Int) (M:List Int) (aj ak:Option V)=>
   [some (.ref a),some (.int i),some (.ref l),some (.int c),some (.int n),some (.ref p),J,L]=[some (.ref a),some (.int i),some (.ref l),some (.int c),some (.int left),some (.ref p),aj,ak] /\
   ah H1 (upd O p (.lst (u.map V.int++[.int (y % z)])))/\upd O p (.lst (u.map V.int++[.int (y % z)])) p=some (.lst (M.map V.int))/\M.length=j+1/\(∀(j:Nat) (x z:Int),M[j]?=some x->N[j]?=some z->0<=x/\x<z):=by
   intro y n J L O I e4
   refine ⟨n,u++[y % z],J,L,rfl,bB (S.trans I) n2,?_,by rw [gA,Y];rfl,λm x z' e1 e2=>?_⟩
   ·rw [au,gw];rfl
   ·by_cases hm:m<u.length
    ·rw [B4 hm] at e1
     exact G m x z' e1 e2
    ·have ag:m=j:=by
      have:=(kM.mp e1).1
      rw [gA] at this
      simp at this
      try?
     subst ag
     rw [F9 0#q,Y] at e1
     simp at e1
     rw [ez] at e2
     cases e2
     subst e1
     exact ⟨CT _ 0#q,B6 _ Z⟩
  have KJ:(u.map V.int).length<sizeLine:=by rw [iR];exact aY 0#q
  rw?
  refine c7 (λ_=>?_) (λ_=>?_)
  ·rw?
   apply ⟨.inl ⟨rfl,_,bw.of e3⟩,?_⟩
   apply ⟨_,_,rfl,by try?,by try?,λy=>?_⟩
   refine dM v U ?_
   apply fR (show (0:Int)<z from Z) ?_
   refine eG e3 KJ ?_
   exact D y _ _ _ _ (ah.refl _) e3
  ·rw?
   refine c7 (λ_=>?_) (λ_=>?_)
   ·rw?
    apply ⟨.inl ⟨rfl,_,bw.of e3⟩,?_⟩
    refine dM v U ?_
    apply fR (show (0:Int)<z from Z) ?_
    apply eG e3 KJ ?_
    refine dM (by rw [aJ (bh (R _ _ hl) n2)];exact v) U ?_
    refine fR (show CU _ _ from ⟨by try?,Sz.log (m:=60) (Sz.of_lt (k:=2 ^ 60) 0#q (d8 _)) 0#s 0#s⟩) ?_
    exact D left _ _ _ _ (ah.refl _) e3
   ·rw?
    have q0:0<=(i+1+(0+(j:Int))) % 63:=CT _ 0#s
    have q1:(i+1+(0+(j:Int))) % 63<63:=B6 _ 0#s
    apply ⟨a,ns,_,rfl,ac,q0,by try?,λc2 O I=>?_⟩
    apply ⟨.inl ⟨rfl,_,bw.of (I _ _ e3)⟩,?_⟩
    apply ⟨_,_,rfl,by try?,by try?,λy=>?_⟩
    refine dM (I _ _ v) U ?_
    apply fR (show (0:Int)<z from Z) ?_
    refine eG (I _ _ e3) KJ ?_
    exact D y _ _ _ _ I (I _ _ e3)
 ·rintro σ B ⟨left,u,J,L,rfl,S,e3,Y,G⟩
  rw?
  exact k p u B (R.trans S) (R.free n2) e3 (by simpa using Y) G
def o9:dB 2 ["_law_top","_law_bottom",gC,"_law_two"] qC:=0#p
def Ez (F:dS K "_law_ratio" qC f fd) (T:Txt mg):0#b 1 f fd ["_law_top","_law_bottom"] yV:=-by
 refine F.dm o9 0#a
 obtain ⟨t,b,rfl,G,I,k⟩:=h
 apply bx ⟨_,(ao (Jd.EL (i:=2) (j:=3) rfl o9.nd rfl rfl 0#s rfl rfl (br (fD xT rfl T.xU yu (c9 0#w) (he:=bH) (hpl:=cD)) 0#C) rfl) (ao (Jd.jP jd (bC fF (aa 3) aA (aD _)) (aF (Jd.EL (i:=2) (j:=3) rfl o9.nd rfl rfl 0#s rfl rfl (br (aa 3) (aI iY (aa 2) (aa 3))) rfl))) (aF (aS (bu (br (aI eF 0#w (aa 2)) (aI eF 0#C (aa 2)))))))),?_⟩
 have hgb:bT t b<=b.natAbs:=by
  have:=Int.gcd_le_right (a:=t) (b:=b) 0#q
  try?
 refine uZ (λn z=>z=H/\Tu λx y:Nat=>n=[some (.int t),some (.int b),some (.int x),some (.int y)]/\IB x y=bT t b) (λn _=>We n) ?_ ?_ ?_
 ·refine ⟨rfl,t.natAbs,b.natAbs,?_,rfl⟩
  rw [iV]
  have e:b=((b.natAbs:Nat):Int):=by try?
  rw [<- e]
  rfl
 ·rintro n z ⟨rfl,x,y,rfl,u⟩
  rw?
  refine c7 (λc=>?_) (λc=>?_)
  ·have D:(0:Int)<(y:Int):=dF c
   rw?
   refine ⟨⟨rfl,y,x % y,?_,by rw [GK];exact u⟩,?_⟩
   ·rw [<- LW];rfl
   ·show ((x:Int) % (y:Int)).toNat<(y:Int).toNat
    rw [LW]
    have:=XW x (y:=y) 0#q
    try?
  ·have D:¬(0:Int)<(y:Int):=kh (ki.mpr c)
   have L:y=0:=by try?
   subst L
   rw [WR] at u
   subst u
   have gp:0<bT t b:=Oq t 0#q
   have cd:CU t ((bT t b:Nat):Int):=⟨by try?,Sz.log (m:=8990) (Sz.of_le I 0#q) 0#s 0#s⟩
   rw?
   refine aC (mk:=.tup) 0#t λp B J n1 e1=>?_
   exact k p _ _ B J e1 (El G)
 ·intro n H Q Q' h q
  obtain ⟨v,e,i,j,e1,e2,b,e3,q⟩:=q
  exact ⟨v,e,i,j,e1,e2,b,e3,h _ _ q⟩
def pJ:dB 1 [gC,"_law_part"] lN:=0#p
abbrev XZ P w K mg base:=Dn P w K mg base 1 "_law_ratio" ["_law_top","_law_bottom"] yV
def yh (F:dS K "_law_is_ratio" lN f fd) (T:Txt mg) (cJ:XZ P w K mg base):0#b 3 f fd [gC] Vh:=-by
 refine F.dm pJ 0#a
 obtain ⟨p,a,b,rfl,u,R,k⟩:=h
 have M:=hr.units
 apply bx ⟨_,(ao (bU (jg (nK (Jd.oU (iW (fD (JB K) rfl T.fY Lc (br 0#w (Jd.uK rfl T.K4 RX)) (he:=bH) (hpl:=(cV bH cD))))) (Jd.lG (bC xm (ju K T.jv 0#w) aA (aD _))))) (aF (aS mh)) bY) (ao (gQ jd rfl (Jd.piT K 0#w) (c8 (i:=1) pJ.nd rfl (Or.inl rfl)) (aF (bU (jg (nK (iW (fD (JB K) rfl T.fY Lc (br 0#C (Jd.uK rfl T.VC Ww)) (he:=bH) (hpl:=(cV bH cD)))) (Jd.lG (Jd.oU (iW (fD (JB K) rfl T.fY Lc (br 0#C (Jd.uK rfl T.NI Dv)) (he:=bH) (hpl:=(cV bH cD)))))))) (aF (aS mh)) bY))) (aF (aS (Jd.lC (gR HE (aB K 0#w) aA (aD _)) (Jd.oR (gR (EE M) (bA cJ hr (aB K 0#w) (aB K 0#w)) 0#w (aD _)))))))),?_⟩
 apply AM (.tup u) PN ?_
 apply bF ?_
 apply dN (.inr (ny.of u)) ?_
 apply bF ?_
 refine ⟨_,rfl,p,rfl,⟨_,ny.of u⟩,T6 (K:=K) (a:=p) (xs:=[.int a,.int b]) (λ_ B n=>n=H/\∃v:Option V,B=[some (.ref p),v]) ⟨rfl,none,rfl⟩ (λ_ B n _ ⟨e,_⟩=>by subst e;exact ny.of u) ?_ ?_⟩
 ·rintro j y B n O ⟨rfl,v,rfl⟩
  obtain ⟨m,rfl⟩:∃m:Int,y=.int m:=by
   have G:=nk O
   simp at G
   rcases G with h | h
   ·exact ⟨_,h⟩
   ·exact ⟨_,h⟩
  rw?
  apply AM (.int m) PL ?_
  apply bF ?_
  apply AM (.int m) PM ?_
  apply bF ?_
  exact ⟨rfl,_,rfl⟩
 ·rintro B n ⟨rfl,v,rfl⟩
  rw?
  refine c7 (λc=>?_) (λc=>?_)
  ·have z:(1:Int)<=b:=dF c
   rw?
   apply ⟨_,_,rfl,by try?,R,λp' L D N J e3 I=>?_⟩
   refine ⟨_,_,.tup e3 (.cons (.int _) (.cons (.int _) .nil)),.tup (J _ _ u) (.cons (.int _) (.cons (.int _) .nil)),rfl,rfl,?_⟩
   refine k _ N J ?_
   have e:u7 (.tuple [.int L,.int D]) (.tuple [.int a,.int b])=(L==a&&(D==b&&true)):=rfl
   rw [e]
   constructor
   ·intro q
    simp at q
    obtain ⟨rfl,rfl⟩:=q
    exact ⟨z,I.co⟩
   ·rintro ⟨_,q⟩
    obtain ⟨rfl,rfl⟩:=I.self z q
    simp
  ·have z:¬(1:Int)<=b:=kh (ki.mpr c)
   exact k false n (ah.refl _) ⟨λq=>absurd q 0#s,λq=>absurd q.1 z⟩
def bI (H:Hp) (p:af) (q:Rat) (n:Nat):Prop:=∃t b:Int,H p=some (.tup [.int t,.int b])/\Qt t b q/\Sz n t/\Sz n b
def bP (H:Hp) (p:af) (q:Rat) (n:Nat):Prop:=∃t b:Int,H p=some (.tup [.int t,.int b])/\Fr t b q/\Sz n t/\Sz n b
def gH (H:Hp) (p:af) (m:Int) (q:Rat) (n:Nat):Prop:=∃v:af,H p=some (.tup [.int m,.ref v])/\bP H v q n/\Sz n m
def ic (H:Hp) (p:af) (s h:Rat) (n:Nat):Prop:=∃a b:af,H p=some (.tup [.ref a,.ref b])/\bP H a s (2*n/3)/\bP H b h n
def bP.qt (f:bP H p q n):bI H p q n:=let ⟨t,b,e,f,z⟩:=f;⟨t,b,e,f.qt,z⟩
def bI.mono (f:bI H p q m) (h:m<=n):bI H p q n:=let ⟨t,b,e,f,z1,z2⟩:=f;⟨t,b,e,f,z1.mono h,z2.mono h⟩
def bP.mono (f:bP H p q m) (h:m<=n):bP H p q n:=let ⟨t,b,e,f,z1,z2⟩:=f;⟨t,b,e,f,z1.mono h,z2.mono h⟩
def bI.up (f:bI H p q n) (s:ah H H'):bI H' p q n:=let ⟨t,b,e,f⟩:=f;⟨t,b,s _ _ e,f⟩
def bP.up (f:bP H p q n) (s:ah H H'):bP H' p q n:=let ⟨t,b,e,f⟩:=f;⟨t,b,s _ _ e,f⟩
def gH.up (f:gH H p t q n) (s:ah H H'):gH H' p t q n:=let ⟨v,e,f,z⟩:=f;⟨v,s _ _ e,f.up s,z⟩
def ic.up (f:ic H p q h n) (s:ah H H'):ic H' p q h n:=let ⟨a,b,e,f,g⟩:=f;⟨a,b,s _ _ e,f.up s,g.up s⟩
def bP.den (f:bP H p q n):∃t b:Int,Den H (.ref p) (.tuple [.int t,.int b])/\Fr t b q:=let ⟨t,b,e,f,_⟩:=f;⟨t,b,.tup e (.cons (.int _) (.cons (.int _) .nil)),f⟩
inductive FJ (vs:List V) (H:Hp) (Q:VK) (E_:XK):Prop where
 | mk (m n:Int):vs=[.int m,.int n]->0<=m->0<=n->Q (.int (bT m n:Nat)) H->FJ vs H Q E_
inductive FT (vs:List V) (H:Hp) (Q:VK) (E_:XK):Prop where
 | mk (m n:Int):vs=[.int m,.int n]->0<=n->n<=m->m<115792089237316195423570985008687907853269984665640564039457584007913129639936->(∀(p:af) (x0 y0 x1 y1 high low:Int) (H':Hp),ah H H'->H' p=some (.tup [.int x0,.int y0,.int x1,.int y1])->ie m n high low x0 y0 x1 y1->low<=340282366920938463463374607431768211456->Q (.ref p) H')->FT vs H Q E_
inductive wD (vs:List V) (H:Hp) (Q:VK) (E_:XK):Prop where
 | mk (m n:Int):vs=[.int m,.int n]->Sz 8990 m->Sz 8990 n->(∀H',ah H H'->Q (.int (bT m n:Nat)) H')->wD vs H Q E_
inductive uX (vs:List V) (H:Hp) (Q:VK) (E_:XK):Prop where
 | mk (t b:Int):vs=[.int t,.int b]->b≠0->Sz 8990 t->Sz 8990 b->(∀(p:af) (t' b':Int) (H':Hp),ah H H'->H' p=some (.tup [.int t',.int b'])->S8 t b t' b'->Q (.ref p) H')->uX vs H Q E_
inductive wK (vs:List V) (H:Hp) (Q:VK) (E_:XK):Prop where
 | mk (p:af) (q:Rat) (n:Nat):vs=[.ref p]->bI H p q n->n<=8990->(∀(r:af) (H':Hp),ah H H'->bP H' r q n->Q (.ref r) H')->wK vs H Q E_
inductive iO (f:Rat->Rat->Rat) (k:Nat) (vs:List V) (H:Hp) (Q:VK) (E_:XK):Prop where
 | mk (p r:af) (q q':Rat) (m n:Nat):vs=[.ref p,.ref r]->bI H p q m->bI H r q' n->m+n<=100000->(∀(s:af) (H':Hp),ah H H'->bI H' s (f q q') (m+n+k)->Q (.ref s) H')->iO f k vs H Q E_
inductive kg (f:Rat->Rat->Rat) (k:Nat) (vs:List V) (H:Hp) (Q:VK) (E_:XK):Prop where
 | mk (p r:af) (q q':Rat) (m n:Nat):vs=[.ref p,.ref r]->bI H p q m->bI H r q' n->m+n+k<=8990->(∀(s:af) (H':Hp),ah H H'->bP H' s (f q q') (m+n+k)->Q (.ref s) H')->kg f k vs H Q E_
inductive KZ (vs:List V) (H:Hp) (Q:VK) (E_:XK):Prop where
 | mk (p r:af) (q q':Rat) (m n:Nat):vs=[.ref p,.ref r]->bI H p q m->bI H r q' n->m+n<=8990->q'≠0->(∀(s:af) (H':Hp),ah H H'->bP H' s (q/q') (m+n)->Q (.ref s) H')->KZ vs H Q E_
inductive uW (vs:List V) (H:Hp) (Q:VK) (E_:XK):Prop where
 | mk (p r:af) (t t':Int) (q q':Rat) (n:Nat):vs=[.ref p,.ref r]->gH H p t q n->gH H r t' q' n->t≠t'->n<=2000->(∀(s:af) (H':Hp),ah H H'->bI H' s ((q'-q)/((t'-t:Int):Rat)) (4*n+3)->Q (.ref s) H')->uW vs H Q E_
inductive FQ (vs:List V) (H:Hp) (Q:VK) (E_:XK):Prop where
 | mk (p r:af) (t t':Int) (q q':Rat) (n:Nat):vs=[.ref p,.ref r]->gH H p t q n->gH H r t' q' n->t≠t'->n<=1000->(∀(s:af) (H':Hp),ah H H'->bP H' s ((q'-q)/((t'-t:Int):Rat)) (4*n+3)->Q (.ref s) H')->FQ vs H Q E_
inductive Bv (vs:List V) (H:Hp) (Q:VK) (E_:XK):Prop where
 | mk (p r:af) (s q:Rat) (t u:Int) (m n:Nat):vs=[.ref p,.ref r,.int u]->bI H p s m->gH H r t q n->Sz n u->m<=20000->n<=20000->(∀(x:af) (H':Hp),ah H H'->bI H' x (q+s*((u-t:Int):Rat)) (m+2*n+2)->Q (.ref x) H')->Bv vs H Q E_
def dg:dB 2 [aG,az,cI,"rest","left"] j8:=0#p
def vP (F:dS K "plain_divisor" j8 f fd) (T:Txt mg):0#b 1 f fd [aG,az] FJ:=-by
 refine F.dm dg 0#a
 obtain ⟨m,n,rfl,hm,hn,k⟩:=h
 apply bx ⟨_,(ao (aM 2 dg.nd 0#w) (ao (aM 3 dg.nd 0#C) (ao (Jd.jP jd (bC xm (aa 3) aA (aD _)) (ao (aM 4 dg.nd (aI iY (aa 2) (aa 3))) (ao (aM 2 dg.nd (aa 3)) (aF (aM 3 dg.nd (aa 4)))))) (aF (aS (aa 2)))))),?_⟩
 refine uZ (λp z=>z=H/\VB λ(x y:Nat) (v:Option V)=>p=[some (.int m),some (.int n),some (.int x),some (.int y),v]/\IB x y=bT m n) (λp _=>We p) ?_ ?_ ?_
 ·refine ⟨rfl,m.natAbs,n.natAbs,none,?_,rfl⟩
  rw [show ((m.natAbs:Nat):Int)=m by try?,show ((n.natAbs:Nat):Int)=n by try?]
  rfl
 ·rintro p z ⟨rfl,x,y,v,rfl,u⟩
  rw?
  refine c7 (λc=>?_) (λc=>?_)
  ·have B:¬(y:Int)=0:=by simpa using c
   rw?
   refine ⟨⟨rfl,y,x % y,some (.int ((x % y:Nat):Int)),?_,by rw [GK];exact u⟩,?_⟩
   ·rw [LW];rfl
   ·show ((x:Int) % (y:Int)).toNat<(y:Int).toNat
    rw [LW]
    have:=XW x (y:=y) 0#q
    try?
  ·have B:(y:Int)=0:=by simpa using c
   have G:y=0:=by try?
   subst G
   rw [WR] at u
   subst u
   rw?
   exact k
 ·intro p H Q Q' h q
  obtain ⟨v,e,D,b,e3,q⟩:=q
  exact ⟨v,e,D,b,e3,h _ _ q⟩
def bK:dB 2 ["high","low","ahead","now","many","left","behind"] jA:=0#p
def uG (F:dS K "steps_of_heads" jA f fd) (sq:Cn mg "HEAD" 256):0#b 1 f fd ["high","low"] FT:=-by
 refine F.dm bK 0#a
 obtain ⟨B,ld,rfl,h0,h1,h2,k⟩:=h
 apply bx ⟨_,(ao (aM 2 bK.nd (bu (br aA aA))) (ao (aM 3 bK.nd (bu (br aA aA))) (ao (Jd.jP jd (bC fF (Jd.uH 0#C) (aI eF (Jd.De rfl sq) aA) (aD _)) (ao (aM 4 bK.nd (aI eF 0#w 0#C)) (ao (aM 5 bK.nd (aI cF 0#w (aI aK (aa 4) 0#C))) (ao (aM 0 bK.nd 0#C) (ao (aM 1 bK.nd (aa 5)) (ao (aM 6 bK.nd (bu (br (aI cF (aB K (aa 2)) (aI aK (aa 4) (aB K (aa 3)))) (aI cF (aB K (aa 2)) (aI aK (aa 4) (aB K (aa 3))))))) (ao (aM 2 bK.nd (aa 3)) (aF (aM 3 bK.nd (aa 6)))))))))) (aF (aS (aI (aaE K) (aa 2) (aa 3))))))),?_⟩
 apply aC (mk:=.tup) 0#t λI Ha sa na Y=>?_
 apply aC (mk:=.tup) 0#t λD Hn sn nn en=>?_
 refine uZ (λN O=>ah H O/\aaC λ(high low J L u z:Int) (I D:af) (v4 v5 v6:Option V)=>N=[some (.int high),some (.int low),some (.ref I),some (.ref D),v4,v5,v6] /\
  O I=some (.tup [.int J,.int L])/\O D=some (.tup [.int u,.int z])/\ie B ld high low J L u z) (λN _=>OW 1 N) ?_ ?_ ?_
 ·exact ⟨sa.trans sn,B,ld,1,0,0,1,I,D,none,none,none,rfl,sn _ _ Y,en,ie.init h0 h1⟩
 ·rintro N O ⟨sH,high,low,J,L,u,z,I,D,v4,v5,v6,rfl,Y,en,S⟩
  rw?
  apply fR ⟨by decide,by decide⟩ ?_
  refine c7 (λc=>?_) (λc=>?_)
  ·have G:=dF c
   rw [show Int.fdiv 256 2=128 by decide] at G
   have p:=NC G S.l0
   have hq:=S.step p rfl
   have hH:B.natAbs<2 ^ 256:=by
    have:(2:Nat) ^ 256=115792089237316195423570985008687907853269984665640564039457584007913129639936:=by decide
    try?
   have zl:Sz 256 ld:=Sz.of_le (m:=256) (x:=B) hH 0#q
   have zh:Sz 256 high:=Sz.of_le (m:=256) (x:=B) hH (by have:=S.Up h1;have:=S.lh;have:=S.l0;try?)
   have R:=S.ZA (by have:=S.lh;try?)
   have zx:Sz 256 u:=Sz.of_le zl R.1
   have zy:Sz 256 z:=Sz.of_le (m:=256) (x:=B) hH R.2
   have M:Sz 256 low:=zh.of_le (by have:=S.lh;have:=S.l0;try?)
   have eq:high.fdiv low=high/low:=B3 _ S.l0
   have zq:Sz 256 (high/low):=zh.of_le (O2 (by have:=S.lh;have:=S.l0;try?) S.l0)
   rw?
   refine fR ⟨by try?,M.log 0#s 0#s⟩ ?_
   rw [eq]
   rw?
   apply fR (bL zq M) ?_
   apply fR (bL zq zx) ?_
   apply fR (bL zq zy) ?_
   apply aC (mk:=.tup) 0#t λpb Hb U R Z=>?_
   refine ⟨⟨sH.trans U,low,high-high/low*low,u,z,J-high/low*u,L-high/low*z,D,pb,_,_,_,rfl,U _ _ en,Z,hq⟩,?_⟩
   show (high-high/low*low).toNat<low.toNat
   have e:=Mu high low
   rw [qQ] at e
   have:=B6 high (b:=low) 0#q
   try?
  ·have G:=kh (ki.mpr c)
   rw [show Int.fdiv 256 2=128 by decide] at G
   have p:=GZ G
   rw?
   refine QN Y en ?_
   refine aC (mk:=.tup) 0#t λpb Hb U R Z=>?_
   exact k pb J L u z high low Hb (sH.trans U) Z S 0#q
 ·intro N H Q Q' h q
  obtain ⟨v,e,a1,a2,i,a3,m,n,e1,e2,hc,m',n',e3,e4,b,e5,q⟩:=q
  exact ⟨v,e,a1,a2,i,a3,m,n,e1,e2,hc,m',n',e3,e4,b,e5,h _ _ q⟩
def dW:dB 2 [aG,az,cI,"rest","tail","steps","ahead","now"] vZ:=0#p
def JO (F:dS K "divisor" vZ f fd) (T:Txt mg) (sq:Cn mg "HEAD" 256) (jX:0#c 1 "plain_divisor" [aG,az] FJ) (jr:0#c 1 "steps_of_heads" ["high","low"] FT) :
 aX P w K mg base cO 2 f fd [aG,az] wD:=-by
 refine F.dm dW 0#a
 obtain ⟨m,n,rfl,zm,zn,k⟩:=h
 apply bx ⟨_,(ao (aM 2 dW.nd (fD (abg rfl) rfl T.Zw RZ (br (fD xT rfl T.xU yu (c9 0#w) (he:=bH) (hpl:=cD)) (fD xT rfl T.xU yu (c9 0#C) (he:=bH) (hpl:=cD))) (he:=FZ) (hpl:=(cV FZ cD)))) (ao (aM 3 dW.nd (fD (Zx rfl) rfl T.Zy R5 (br (fD xT rfl T.xU yu (c9 0#w) (he:=bH) (hpl:=cD)) (fD xT rfl T.xU yu (c9 0#C) (he:=bH) (hpl:=cD))) (he:=FZ) (hpl:=(cV FZ cD)))) (ao (Jd.jP jd (bC fF (Jd.uH (aa 3)) (Jd.De rfl sq) (aD _)) (ao (aM 4 dW.nd (aI cF (Jd.uH (aa 2)) (Jd.De rfl sq))) (ao (aM 5 dW.nd (bA jr hr (aI Qu (aa 2) (aa 4)) (aI Qu (aa 3) (aa 4)))) (ao (bU (bC cX (aB K (aa 5)) aA (aD _)) (aF (aM 5 dW.nd (bu (Jd.a4 aA aA aA (jh fM (aI eF (aa 2) (aa 3))))))) bY) (ao (aM 6 dW.nd (fD xT rfl T.xU yu (c9 (aI cE (aI aK (aB K (aa 5)) (aa 2)) (aI aK (aB K (aa 5)) (aa 3)))) (he:=Rp) (hpl:=cD))) (ao (aM 7 dW.nd (fD xT rfl T.xU yu (c9 (aI cE (aI aK (aB K (aa 5)) (aa 2)) (aI aK (aB K (aa 5)) (aa 3)))) (he:=Rp) (hpl:=cD))) (ao (aM 2 dW.nd (fD (abg rfl) rfl T.Zw RZ (br (aa 6) (aa 7)) (he:=bH) (hpl:=(cV bH cD)))) (aF (aM 3 dW.nd (fD (Zx rfl) rfl T.Zy R5 (br (aa 6) (aa 7)) (he:=bH) (hpl:=(cV bH cD)))))))))))) (aF (aS (bA jX hr (aa 2) (aa 3))))))),?_⟩
 rw [iV,iV]
 refine uZ (λG O=>ah H O/\Xs6 λ(x y:Int) (v4 v5 v6 v7:Option V)=>G=[some (.int m),some (.int n),some (.int x),some (.int y),v4,v5,v6,v7] /\
  0<=y/\y<=x/\bT x y=bT m n/\Sz 8991 (x+y)) (λG _=>OW 2 G+OW 3 G) ?_ ?_ ?_
 ·refine ⟨ah.refl _,_,_,none,none,none,none,rfl,?_,?_,(sG rfl rfl).trans ?_,?_⟩
  ·exact P5 _ _
  ·exact P4 _ _
  ·rfl
  ·have z:=(zm.of_le (y:=(m.natAbs:Int)) 0#t).add (zn.of_le (y:=(n.natAbs:Int)) 0#t)
   exact z.of_le (JI 0#q)
 ·rintro G O ⟨Y,x,y,v4,v5,v6,v7,rfl,p,B,U,M⟩
  have zx:Sz 8991 x:=M.of_le 0#q
  have N:Sz 8991 y:=M.of_le 0#q
  rw?
  refine c7 (λc=>?_) (λc=>?_)
  ·have c':=dF c
   obtain ⟨t,ht,lo,hi⟩:=Jx c' p B
   have tp:(0:Int)<2 ^ t:=SS 0#s
   have hd:=LI lo hi
   have J:1<=y:=by
    have:(256:Int)<(rQ y:Nat):=c'
    by_cases e:y=0
    ·subst e;simp [rQ] at this
    ·try?
   rw?
   apply fR (show (0:Int)<=_ by try?) ?_
   apply fR (show (0:Int)<=_ by try?) ?_
   rw [show ((rQ x:Nat)-256:Int).toNat=t by try?]
   apply ⟨x/2 ^ t,y/2 ^ t,rfl,Xh p 0#q,Sm tp B,hd.2,λps x0 u x1 y1 high low H1 s1 e1 S hl=>?_⟩
   refine c7 (λc2=>?_) (λc2=>?_)
   ·have c3:u=0:=dF c2
    have zq:Sz 8991 (x.fdiv y):=by
     rw [B3 _ p]
     exact zx.of_le (O2 0#q p)
    rw?
    apply fR ⟨by try?,N.log 0#s 0#s⟩ ?_
    refine aC (mk:=.tup) 0#t λp2 H2 s2 n2 e2=>?_
    have D:=(Y.trans s1).trans s2
    have za:Sz 8991 (0:Int):=by decide
    have Z:Sz 8991 (1:Int):=by decide
    have zc:Sz 8991 (1:Int):=Z
    have zd:Sz 8991 (-(x.fdiv y)):=zq.neg
    have R:bT (0*x+1*y) (1*x+-(x.fdiv y)*y)=bT x y:=LH (.inr 0#q)
    have I:=T4 J B
    rw?
    apply fR (bL zd N) ?_
    simp only [iV]
    refine ⟨⟨D,_,_,_,_,_,_,rfl,?_,?_,(sG rfl rfl).trans (R.trans U),?_⟩,?_⟩
    ·exact P5 _ _
    ·exact P4 _ _
    ·exact M.of_le (JI (VV I p B))
    ·exact VU I p B
   ·have c3:u≠0:=kh (ki.mpr c2)
    have D:=Y.trans s1
    have sm:=S.small c3 (Sm tp B) hd.2
    have L:(340282366920938463463374607431768211456:Nat)<2 ^ 8991:=by decide +kernel
    have za:Sz 8991 x0:=Gd sm.1 L
    have Z:Sz 8991 u:=Gd sm.2.1 L
    have zc:Sz 8991 x1:=Gd sm.2.2.1 L
    have zd:Sz 8991 y1:=Gd sm.2.2.2 L
    have R:bT (x0*x+u*y) (x1*x+y1*y)=bT x y:=S.gcd
    have I:=Jw S c3 B lo hi rfl rfl hl
    rw?
    apply fR (bL za zx) ?_
    apply fR (bL Z N) ?_
    apply fR (bL zc zx) ?_
    apply fR (bL zd N) ?_
    simp only [iV]
    refine ⟨⟨D,_,_,_,_,_,_,rfl,?_,?_,(sG rfl rfl).trans (R.trans U),?_⟩,?_⟩
    ·exact P5 _ _
    ·exact P4 _ _
    ·exact M.of_le (JI (VV I p B))
    ·exact VU I p B
  ·rw?
   refine ⟨x,y,rfl,by try?,p,?_⟩
   rw [U]
   exact k O Y
 ·intro G H Q Q' h q
  obtain ⟨v,e,a1,a2,i,a3,m',n',e3,e4,b,e5,q⟩:=q
  exact ⟨v,e,a1,a2,i,a3,m',n',e3,e4,b,e5,h _ _ q⟩
def Bl:dB 2 ["top","bottom","shared"] E5:=0#p
def NQ (hb:b≠0):S8 t b (t.fdiv (if b<0 then -(bT t b:Int) else (bT t b:Int))) (b.fdiv (if b<0 then -(bT t b:Int) else (bT t b:Int))):=-by
 by_cases h:b<0
 ·rw [if_pos h]
  have l:=UB (t:=t) h
  exact ⟨l.pos,l.co,by have:=l.eq;rw [SR,MY] at this;try?,by rw [<- xE t];exact l.tb,by rw [<- xE b];exact l.bb⟩
 ·rw [if_neg h]
  exact El 0#q
abbrev X0 P w K mg base:=Dn P w K mg base 2 "divisor" [aG,az] wD
def Qk (F:dS K "ratio" E5 f fd) (T:Txt mg) (gF:X0 P w K mg base):0#b 3 f fd ["top","bottom"] uX:=-by
 refine F.dm Bl 0#a
 obtain ⟨t,b,rfl,B,D,I,k⟩:=h
 apply bx ⟨_,(ao (bU (bC cX 0#C aA (aD _)) (aF Jd.lE) bY) (ao (aM 2 Bl.nd (bA gF hr 0#w 0#C)) (ao (bU (bC qo 0#C aA (aD _)) (aF (aM 2 Bl.nd (jh fM (aa 2)))) bY) (aF (aS (bu (br (aI eF 0#w (aa 2)) (aI eF 0#C (aa 2))))))))),?_⟩
 rw [g9 B]
 apply bF ?_
 refine ⟨t,b,rfl,D,I,λH0 J=>?_⟩
 have gp:0<bT t b:=Oq t B
 have hgb:bT t b<=b.natAbs:=Xv 0#q (W2 _ _)
 have n:∀x:Int,CU x (if b<0 then -(bT t b:Int) else (bT t b:Int)):=λx=>by
  refine ⟨by split <;> try?,Sz.log (m:=8990) (Sz.of_le I ?_) 0#s 0#s⟩
  split <;> try?
 have v:=NQ (t:=t) B
 rw?
 refine c7 (λc=>?_) (λc=>?_)
 ·have u:=dF c
  rw [if_pos u] at v
  simp only [if_pos u] at n
  rw?
  apply fR (n t) ?_
  apply fR (n b) ?_
  refine aC (mk:=.tup) 0#t λp z G L e1=>?_
  exact k p _ _ z (J.trans G) e1 v
 ·have u:=kh (ki.mpr c)
  rw [if_neg u] at v
  simp only [if_neg u] at n
  rw?
  apply fR (n t) ?_
  apply fR (n b) ?_
  refine aC (mk:=.tup) 0#t λp z G L e1=>?_
  exact k p _ _ z (J.trans G) e1 v
def KC:dB 1 ["quotient"] wm:=0#p
def JT (F:dS K "reduced" wm f fd) (qX:0#c 3 "ratio" ["top","bottom"] uX):0#b 4 f fd ["quotient"] wK:=-by
 refine F.dm KC 0#a
 obtain ⟨p,q,n,rfl,⟨t,b,hp,z,D,B⟩,v,k⟩:=h
 refine bx ⟨_,(aF (aS (bA qX hr (aB K 0#w) (aB K 0#w)))),?_⟩
 have hb:=z.pos
 rw?
 refine ⟨t,b,rfl,by try?,D.mono v,B.mono v,λr L I G J e1 u=>?_⟩
 exact k r G J ⟨L,I,e1,Fr.JL u 0#q z.eq,D.of_le u.tb,B.of_le u.bb⟩
def CM:dB 2 [aG,az] o6:=0#p
def CF (F:dS K "loose_plus" o6 f fd):0#b 1 f fd [aG,az] (iO (·+·) 1):=-by
 refine F.dm CM 0#a
 obtain ⟨p,r,q,q',m,n,rfl,⟨a,b,hp,I,B,u⟩,⟨c,d,hr',z,D,v⟩,hn,k⟩:=h
 apply bx ⟨_,(aF (aS (bu (br (aI cE (aI aK (aB K 0#w) (aB K 0#C)) (aI aK (aB K 0#C) (aB K 0#w))) (aI aK (aB K 0#w) (aB K 0#C)))))),?_⟩
 apply fR (bL B v 0#q) ?_
 apply fR (bL D u 0#q) ?_
 apply fR (bL u v 0#q) ?_
 refine aC (mk:=.tup) 0#t λx G J n1 e1=>?_
 exact k x G J ⟨_,_,e1,I.plus z,(B.mul v).add ((D.mul u).mono 0#q),(u.mul v).mono 0#q⟩
def qH:dB 2 [aG,az] jK:=0#p
def Av (F:dS K "loose_minus" jK f fd):0#b 1 f fd [aG,az] (iO (·-·) 1):=-by
 refine F.dm qH 0#a
 obtain ⟨p,r,q,q',m,n,rfl,⟨a,b,hp,I,B,u⟩,⟨c,d,hr',z,D,v⟩,hn,k⟩:=h
 apply bx ⟨_,(aF (aS (bu (br (aI cF (aI aK (aB K 0#w) (aB K 0#C)) (aI aK (aB K 0#C) (aB K 0#w))) (aI aK (aB K 0#w) (aB K 0#C)))))),?_⟩
 apply fR (bL B v 0#q) ?_
 apply fR (bL D u 0#q) ?_
 apply fR (bL u v 0#q) ?_
 refine aC (mk:=.tup) 0#t λx G J n1 e1=>?_
 exact k x G J ⟨_,_,e1,I.minus z,(B.mul v).sub ((D.mul u).mono 0#q),(u.mul v).mono 0#q⟩
def Bg:dB 2 [aG,az] m7:=0#p
def Ay (F:dS K "loose_times" m7 f fd):0#b 1 f fd [aG,az] (iO (·*·) 0):=-by
 refine F.dm Bg 0#a
 obtain ⟨p,r,q,q',m,n,rfl,⟨a,b,hp,I,v,z⟩,⟨c,d,hr',u,B,D⟩,hn,k⟩:=h
 apply bx ⟨_,(aF (aS (bu (br (aI aK (aB K 0#w) (aB K 0#C)) (aI aK (aB K 0#w) (aB K 0#C)))))),?_⟩
 apply fR (bL v B 0#q) ?_
 apply fR (bL z D 0#q) ?_
 refine aC (mk:=.tup) 0#t λx G J n1 e1=>?_
 exact k x G J ⟨_,_,e1,I.times u,v.mul B,z.mul D⟩
inductive rG (vs:List V) (H:Hp) (Q:VK) (E_:XK):Prop where
 | mk (p r:af) (s h x:Rat) (m n:Nat):vs=[.ref p,.ref r]->ic H p s h n->bI H r x m->m<=20000->n<=20000->(∀(z:af) (H':Hp),ah H H'->bI H' z (s*x+h) (m+n+2*n/3+1)->Q (.ref z) H')->rG vs H Q E_
inductive Bt (vs:List V) (H:Hp) (Q:VK) (E_:XK):Prop where
 | mk (p r:af) (s h x:Rat) (m n:Nat):vs=[.ref p,.ref r]->ic H p s h n->bI H r x m->m+n+2*n/3+1<=8990->(∀(z:af) (H':Hp),ah H H'->bP H' z (s*x+h) (m+n+2*n/3+1)->Q (.ref z) H')->Bt vs H Q E_
inductive KS (vs:List V) (H:Hp) (Q:VK) (E_:XK):Prop where
 | mk (p r:af) (s h q:Rat) (t:Int) (m n:Nat):vs=[.ref p,.ref r]->ic H p s h n->gH H r t q m->1<=m->m<=20000->n<=20000->(∀(z:af) (H':Hp),ah H H'->bI H' z (q-(s*(t:Rat)+h)) (2*m+2*n+2)->Q (.ref z) H')->KS vs H Q E_
inductive uV (vs:List V) (H:Hp) (Q:VK) (E_:XK):Prop where
 | mk (p r:af) (s q:Rat) (t:Int) (m n:Nat):vs=[.ref p,.ref r]->bP H p s m->gH H r t q n->1<=n->m+2*n+2<=8990->(∀(z r':af) (H':Hp),ah H H'->H' z=some (.tup [.ref p,.ref r'])->bP H' r' (q-s*(t:Rat)) (m+2*n+2)->Q (.ref z) H')->uV vs H Q E_
inductive KU (vs:List V) (H:Hp) (Q:VK) (E_:XK):Prop where
 | mk (p r:af) (s h s' h':Rat) (n:Nat):vs=[.ref p,.ref r]->ic H p s h n->ic H r s' h' n->1<=n->n<=1795->(s=s'->∀H',ah H H'->Q .bG H')->(s≠s'->∀(z a b:af) (H':Hp),ah H H'->H' z=some (.tup [.ref a,.ref b])->bP H' a ((h'-h)/(s-s')) (2*n+2*(2*n/3)+2)->bP H' b (s*((h'-h)/(s-s'))+h) (5*n+3)->Q (.ref z) H')->KU vs H Q E_
def Jf (h:Fr t b q) (h':Fr t' b' q'):u7 (.tuple [.int t,.int b]) (.tuple [.int t',.int b'])=decide (q=q'):=-by
 have e:u7 (.tuple [.int t,.int b]) (.tuple [.int t',.int b'])=(t==t'&&(b==b'&&true)):=rfl
 rw [e]
 by_cases hq:q=q'
 ·subst hq
  obtain ⟨rfl,rfl⟩:=h.unique h'
  simp
 ·rw [g9 hq]
  by_cases e1:t=t'
  ·by_cases e2:b=b'
   ·exact absurd (h.worth h' e1 e2) hq
   ·simp [e2]
  ·simp [e1]
def oQ (h:1<=n):Sz n 1:=-by
 have:(2:Nat) ^ 1<=2 ^ n:=Mv 0#s h
 show XX 1<2 ^ n
 have e:XX 1=1:=rfl
 try?
def qO (h:H p=some (.tup [.int m,.int 1])) (z:Sz n m) (hn:1<=n):bI H p (m:Rat) n:=⟨m,1,h,Qt.whole m,z,oQ hn⟩
def Q6:dB 2 [aG,az] E3:=0#p
abbrev Gp P w K mg base:=Dn P w K mg base 4 "reduced" ["quotient"] wK
def Qi (F:dS K "minus" E3 f fd) (aR:0#c 1 "loose_minus" [aG,az] (iO (·-·) 1)) (bD:Gp P w K mg base):0#b 5 f fd [aG,az] (kg (·-·) 1):=-by
 refine F.dm Q6 0#a
 obtain ⟨p,r,q,D,m,n,rfl,v,z,B,k⟩:=h
 apply bx ⟨_,(aF (aS (Jd.c1 bD hr (bA aR hr 0#w 0#C)))),?_⟩
 apply ⟨p,r,q,D,m,n,rfl,v,z,by try?,λx H1 G e1=>?_⟩
 refine ⟨x,_,_,rfl,e1,B,λy u I e2=>?_⟩
 exact k y u (G.trans I) e2
def Vc:dB 2 [aG,az] Kw:=0#p
def UM (F:dS K "plus" Kw f fd) (bM:0#c 1 "loose_plus" [aG,az] (iO (·+·) 1)) (bD:Gp P w K mg base):0#b 5 f fd [aG,az] (kg (·+·) 1):=-by
 refine F.dm Vc 0#a
 obtain ⟨p,r,q,D,m,n,rfl,v,z,B,k⟩:=h
 apply bx ⟨_,(aF (aS (Jd.c1 bD hr (bA bM hr 0#w 0#C)))),?_⟩
 apply ⟨p,r,q,D,m,n,rfl,v,z,by try?,λx H1 G e1=>?_⟩
 refine ⟨x,_,_,rfl,e1,B,λy u I e2=>?_⟩
 exact k y u (G.trans I) e2
def Vb:dB 2 [aG,az] Kv:=0#p
def UL (F:dS K "over" Kv f fd) (qX:0#c 3 "ratio" ["top","bottom"] uX):0#b 4 f fd [aG,az] KZ:=-by
 refine F.dm Vb 0#a
 obtain ⟨p,r,q,q',m,n,rfl,⟨a,b,hp,S,B,D⟩,⟨c,d,hr',u,G,I⟩,J,O,k⟩:=h
 have R:c≠0:=λz=>O (u.qP.mp z)
 obtain ⟨L,U⟩:=UQ S u R
 apply bx ⟨_,(aF (aS (bA qX hr (aI aK (aB K 0#w) (aB K 0#C)) (aI aK (aB K 0#w) (aB K 0#C))))),?_⟩
 apply fR (bL B I 0#q) ?_
 apply fR (bL D G 0#q) ?_
 refine ⟨_,_,rfl,L,(B.mul I).mono J,(D.mul G).mono J,λx Z N M Y e1 v=>?_⟩
 exact k x M Y ⟨Z,N,e1,Fr.JL v L U,(B.mul I).of_le v.tb,(D.mul G).of_le v.bb⟩
def cH:dB 2 [aG,az,"rise","step"] ir:=0#p
def Aw (F:dS K "loose_slope" ir f fd) (aR:0#c 1 "loose_minus" [aG,az] (iO (·-·) 1)):0#b 3 f fd [aG,az] uW:=-by
 refine F.dm cH 0#a
 obtain ⟨p,r,t,L,q,Z,n,rfl,⟨v,S,U,zt⟩,⟨v',G,I,R⟩,ht,hn,k⟩:=h
 apply bx ⟨_,(ao (aM 2 cH.nd (bA aR hr (aB K 0#C) (aB K 0#w))) (ao (aM 3 cH.nd (aI cF (aB K 0#C) (aB K 0#w))) (ao (bU (bC qo (aa 3) aA (aD _)) (aF (aS (bu (br (jh fM (aB K (aa 2))) (aI aK (aB K (aa 2)) (jh fM (aa 3))))))) bY) (aF (aS (bu (br (aB K (aa 2)) (aI aK (aB K (aa 2)) (aa 3))))))))),?_⟩
 refine ⟨v',v,Z,q,n,n,rfl,I.qt,U.qt,by try?,λx H1 u e1=>?_⟩
 obtain ⟨a,b,hx,N,O,z⟩:=e1
 have hp1:=u _ _ S
 have hr1:=u _ _ G
 have B:Sz (n+1) (L-t):=R.sub zt
 rw?
 refine c7 (λc=>?_) (λc=>?_)
 ·have M:L-t<0:=dF c
  rw?
  apply fR (bL z B.neg 0#q) ?_
  refine aC (mk:=.tup) 0#t λy D J Y e2=>?_
  exact k y D (u.trans J) ⟨_,_,e2,N.adg M,O.neg.mono 0#q,(z.mul B.neg).mono 0#q⟩
 ·have M:¬L-t<0:=kh (ki.mpr c)
  rw?
  apply fR (bL z B 0#q) ?_
  refine aC (mk:=.tup) 0#t λy D J Y e2=>?_
  exact k y D (u.trans J) ⟨_,_,e2,N.div 0#q,O.mono 0#q,(z.mul B).mono 0#q⟩
def Be:dB 3 [dz,aV,"moment"] m5:=0#p
def Au (F:dS K "loose_along" m5 f fd) (bM:0#c 1 "loose_plus" [aG,az] (iO (·+·) 1)) (cU:0#c 1 "loose_times" [aG,az] (iO (·*·) 0)) :
 aX P w K mg base cO 3 f fd [dz,aV,"moment"] Bv:=-by
 refine F.dm Be 0#a
 obtain ⟨p,r,s',q,t,u,m,n,rfl,I,⟨v,hr',J,M⟩,N,hm,hn,k⟩:=h
 apply bx ⟨_,(aF (aS (bA bM hr (aB K 0#C) (bA cU hr 0#w (bu (br (aI cF (aa 2) (aB K 0#C)) aA)))))),?_⟩
 refine aC (mk:=.tup) 0#t λy H1 B n1 e1=>?_
 apply ⟨p,y,s',_,m,n+1,rfl,I.up B,qO e1 (N.sub M) 0#q,by try?,λx H2 D e2=>?_⟩
 refine ⟨v,x,q,_,n,_,rfl,(J.up (B.trans D)).qt,e2,by try?,λz G L e3=>?_⟩
 exact k z G (B.trans (D.trans L)) (e3.mono 0#q)
def yt:dB 2 [bX,"when"] lO:=0#p
def yi (F:dS K "loose_height" lO f fd) (bM:0#c 1 "loose_plus" [aG,az] (iO (·+·) 1)) (cU:0#c 1 "loose_times" [aG,az] (iO (·*·) 0)) :
 aX P w K mg base cO 3 f fd [bX,"when"] rG:=-by
 refine F.dm yt 0#a
 obtain ⟨p,r,s',h',x,m,n,rfl,⟨a,b,G,B,D⟩,I,hm,hn,k⟩:=h
 apply bx ⟨_,(aF (aS (bA bM hr (bA cU hr (aB K 0#w) 0#C) (aB K 0#w)))),?_⟩
 refine ⟨a,r,_,_,2*n/3,m,rfl,B.qt,I,by try?,λy H1 u e1=>?_⟩
 have hp1:=u _ _ G
 rw?
 refine ⟨y,b,_,_,_,n,rfl,e1,(D.up u).qt,by try?,λz v J e2=>?_⟩
 exact k z v (u.trans J) (e2.mono 0#q)
def Fg:dB 2 [bX,aV] qE:=0#p
def EB (F:dS K "loose_off" qE f fd) (aR:0#c 1 "loose_minus" [aG,az] (iO (·-·) 1)) (eB:0#c 3 "loose_height" [bX,"when"] rG) :
 aX P w K mg base cO 4 f fd [bX,aV] KS:=-by
 refine F.dm Fg 0#a
 obtain ⟨p,r,s',G,q,t,m,n,rfl,J,⟨v,hr',L,N⟩,I,hm,hn,k⟩:=h
 apply bx ⟨_,(aF (aS (bA aR hr (aB K 0#C) (bA eB hr 0#w (bu (br (aB K 0#C) aA)))))),?_⟩
 refine aC (mk:=.tup) 0#t λy H1 u n1 e1=>?_
 apply ⟨p,y,s',G,_,m,n,rfl,J.up u,qO e1 N I,by try?,by try?,λx H2 B e2=>?_⟩
 refine ⟨v,x,q,_,m,_,rfl,(L.up (u.trans B)).qt,e2,by try?,λz D M e3=>?_⟩
 exact k z D (u.trans (B.trans M)) (e3.mono 0#q)
def Q8:dB 2 [aG,az] E7:=0#p
def Qn (F:dS K "slope" E7 f fd) (fJ:0#c 3 "loose_slope" [aG,az] uW) (bD:Gp P w K mg base):0#b 5 f fd [aG,az] FQ:=-by
 refine F.dm Q8 0#a
 obtain ⟨p,r,t,J,q,D,n,rfl,z,u,B,hn,k⟩:=h
 apply bx ⟨_,(aF (aS (Jd.c1 bD hr (bA fJ hr 0#w 0#C)))),?_⟩
 apply ⟨p,r,t,J,q,D,n,rfl,z,u,B,by try?,λx H1 G e1=>?_⟩
 refine ⟨x,_,_,rfl,e1,by try?,λy v I e2=>?_⟩
 exact k y v (G.trans I) e2
def KA:dB 2 [dz,aV] wg:=0#p
abbrev X3 P w K mg base:=Dn P w K mg base 3 "loose_along" [dz,aV,"moment"] Bv
def JR (F:dS K "line_by" wg f fd) (cT:X3 P w K mg base) (bD:Gp P w K mg base):0#b 5 f fd [dz,aV] uV:=-by
 refine F.dm KA 0#a
 obtain ⟨p,r,s',q,t,m,n,rfl,D,u,h1,hn,k⟩:=h
 apply bx ⟨_,(aF (aS (bu (br 0#w (Jd.c1 bD hr (Jd.c3 cT hr 0#w 0#C aA)))))),?_⟩
 apply ⟨p,r,s',q,t,0,m,n,rfl,D.qt,u,Ss n,by try?,by try?,λx H1 G e1=>?_⟩
 apply ⟨x,_,_,rfl,e1,by try?,λy H2 I e2=>?_⟩
 refine aC (mk:=.tup) 0#t λz B v n3 e3=>?_
 refine k z y B (G.trans (I.trans v)) e3 ?_
 have e:q+s'*((0-t:Int):Rat)=q-s'*(t:Rat):=by
  simp only [rR]
  grind
 rw [e] at e2
 exact e2.up v
def N8:dB 2 [bX,"when"] AY:=0#p
def NW (F:dS K "height" AY f fd) (eB:0#c 3 "loose_height" [bX,"when"] rG) (bD:Gp P w K mg base):0#b 5 f fd [bX,"when"] Bt:=-by
 refine F.dm N8 0#a
 obtain ⟨p,r,s',v,x,m,n,rfl,B,G,D,k⟩:=h
 apply bx ⟨_,(aF (aS (Jd.c1 bD hr (bA eB hr 0#w 0#C)))),?_⟩
 apply ⟨p,r,s',v,x,m,n,rfl,B,G,by try?,by try?,λy H1 I e1=>?_⟩
 refine ⟨y,_,_,rfl,e1,D,λz u J e2=>?_⟩
 exact k z u (I.trans J) e2
def Mc:dB 2 [bX,az,"when"] Ku:=0#p
abbrev X4 P w K mg base:=Dn P w K mg base 5 "height" [bX,"when"] Bt
def UK (F:dS K "meet" Ku f fd) (IQ:0#c 4 "over" [aG,az] KZ) (yC:0#c 5 "minus" [aG,az] (kg (·-·) 1)) (ia:X4 P w K mg base):0#b 6 f fd [bX,az] KU:=-by
 refine F.dm Mc 0#a
 obtain ⟨p,r,sl,ht,sl',ht',n,rfl,N,I,h1,hn,k1,k2⟩:=h
 obtain ⟨a,b,hp,M,hb⟩:=id N
 obtain ⟨a',b',S,B,G⟩:=id I
 have U:=hr.units
 apply bx ⟨_,(ao (bU (bC (EE U) (aB K 0#w) (aB K 0#C) (aD _)) (aF (aS gK)) bY) (ao (aM 2 Mc.nd (bA IQ hr (bA yC hr (aB K 0#C) (aB K 0#w)) (bA yC hr (aB K 0#w) (aB K 0#C)))) (aF (aS (bu (br (aa 2) (bA ia hr 0#w (aa 2)))))))),?_⟩
 obtain ⟨t1,d1,Y,F1⟩:=M.den
 obtain ⟨t2,d2,Z,F2⟩:=B.den
 refine ⟨_,_,Y,Z,rfl,rfl,?_⟩
 rw [Jf F1 F2]
 rw?
 refine c7 (λc=>?_) (λc=>?_)
 ·have D:=dF c
  rw?
  exact k1 D H (ah.refl _)
 ·have D:=kh (ki.mpr c)
  rw?
  refine ⟨b',b,_,_,n,n,rfl,G.qt,hb.qt,by try?,λx H1 u e1=>?_⟩
  have hp1:=u _ _ hp
  have aa2:=u _ _ S
  rw?
  apply ⟨a,a',_,_,2*n/3,2*n/3,rfl,(M.up u).qt,(B.up u).qt,by try?,λy H2 J e2=>?_⟩
  apply ⟨x,y,_,_,_,_,rfl,(e1.up J).qt,e2.qt,by try?,by grind,λz H3 O e3=>?_⟩
  apply ⟨p,z,_,_,_,_,n,rfl,N.up (u.trans (J.trans O)),e3.qt,by try?,λv H4 R e4=>?_⟩
  refine aC (mk:=.tup) 0#t λg H5 L n5 e5=>?_
  exact k2 D g z v H5 (u.trans (J.trans (O.trans (R.trans L)))) e5 ((e3.up (R.trans L)).mono 0#q) ((e4.up L).mono 0#q)
inductive Bx (vs:List V) (H:Hp) (Q:VK) (E_:XK):Prop where
 | mk (p r:af) (q q':Rat) (m n:Nat):vs=[.ref p,.ref r]->bI H p q m->bI H r q' n->m+n<=100000->(∀o:Int,(0<o↔q'<q)->(o<0↔q<q')->Q (.int o) H)->Bx vs H Q E_
inductive Bw (vs:List V) (H:Hp) (Q:VK) (E_:XK):Prop where
 | mk (p1 p2 p3:af) (t1 t2 t3:Int) (q1 q2 q3:Rat) (n:Nat):vs=[.ref p1,.ref p2,.ref p3]->gH H p1 t1 q1 n->gH H p2 t2 q2 n->gH H p3 t3 q3 n->t1<t3->n<=2000->(∀(z:af) (H':Hp),ah H H'->bI H' z (q2-cS t1 q1 t2 t3 q3) (7*n+7)->Q (.ref z) H')->Bw vs H Q E_
def Bh:dB 2 [aG,az,"left","right"] E4:=0#p
def Qj (F:dS K "order" E4 f fd):0#b 1 f fd [aG,az] Bx:=-by
 refine F.dm Bh 0#a
 obtain ⟨p,r,q,q',m,n,rfl,⟨a,b,hp,G,L,M⟩,⟨c,d,hr',v,N,O⟩,hn,k⟩:=h
 have I:=G.lt_iff v
 have J:=v.lt_iff G
 apply bx ⟨_,(ao (aM 2 Bh.nd (aI aK (aB K 0#w) (aB K 0#C))) (ao (aM 3 Bh.nd (aI aK (aB K 0#C) (aB K 0#w))) (ao (bU (bC qo (aa 2) (aa 3) (aD _)) (aF (aS (jh fM aA))) bY) (ao (bU (bC fF (aa 2) (aa 3) (aD _)) (aF (aS aA)) bY) (aF (aS aA)))))),?_⟩
 apply fR (bL L O 0#q) ?_
 apply fR (bL N M 0#q) ?_
 refine c7 (λc1=>?_) (λc1=>?_)
 ·have B:=dF c1
  rw?
  have D:=I.mp B
  exact k _ ⟨λz=>absurd z 0#s,λz=>by grind⟩ ⟨λ_=>D,λ_=>by decide⟩
 ·have B:=kh (ki.mpr c1)
  rw?
  refine c7 (λc2=>?_) (λc2=>?_)
  ·have u:=dF c2
   rw?
   have D:=J.mp u
   exact k _ ⟨λ_=>D,λ_=>by decide⟩ ⟨λz=>absurd z 0#s,λz=>by grind⟩
  ·have u:=kh (ki.mpr c2)
   rw?
   exact k _ ⟨λz=>absurd z 0#s,λz=>absurd (J.mpr z) u⟩ ⟨λz=>absurd z 0#s,λz=>absurd (I.mpr z) B⟩
def Vd:dB 1 [aG] Ky:=0#p
def Bf:dB 3 [aG,"mid",cy] m6:=0#p
def Ax (F:dS K "loose_stand" m6 f fd) (aR:0#c 1 "loose_minus" [aG,az] (iO (·-·) 1)) (cT:X3 P w K mg base) (fJ:0#c 3 "loose_slope" [aG,az] uW) :
 aX P w K mg base cO 4 f fd [aG,"mid",cy] Bw:=-by
 refine F.dm Bf 0#a
 obtain ⟨M,p2,Z,p,J,B,u,q2,I,n,rfl,L,S,U,ht,Y,k⟩:=h
 obtain ⟨v2,e2,R,z2⟩:=id S
 apply bx ⟨_,(aF (aS (bA aR hr (aB K 0#C) (Jd.c3 cT hr (bA fJ hr 0#w (aa 2)) 0#w (aB K 0#C))))),?_⟩
 refine ⟨M,Z,p,B,u,I,n,rfl,L,U,by try?,Y,λx H1 v e1=>?_⟩
 have e21:=v _ _ e2
 rw?
 apply ⟨x,M,_,u,p,J,_,n,rfl,e1,L.up v,z2,by try?,by try?,λy H2 N D=>?_⟩
 refine ⟨v2,y,q2,_,n,_,rfl,(R.up (v.trans N)).qt,D,by try?,λz O s3 e3=>?_⟩
 refine k z O (v.trans (N.trans s3)) ?_
 have G:(p:Rat)≠(B:Rat):=λz=>by
  have:=DE.mp z
  try?
 have e:u+(I-u)/((B-p:Int):Rat)*((J-p:Int):Rat)=cS p u J B I:=by
  rw [rR,rR]
  exact wV G
 rw [e] at e3
 exact e3.mono 0#q
inductive FP (vs:List V) (H:Hp) (Q:VK) (E_:XK):Prop where
 | mk (p:af) (q:Rat) (n:Nat):vs=[.ref p]->bP H p q n->(∀(r:af) (H':Hp),ah H H'->bP H' r (cG q) n->Q (.ref r) H')->FP vs H Q E_
def VZ {zs:List Int} (P:Int->Prop) (hz:∀z∈zs,P z) (h0:0<=i) (h1:i<(zs.length:Int)):∃v:Int,tU (zs.map V.int) i=some (.int v)/\P v:=-by
 have n:i.toNat<zs.length:=by try?
 exact ⟨zs[i.toNat],cN (lW n) 0#q,hz _ (MJ n)⟩
def mw {xs zs:List Int} (hlen:xs.length=zs.length) (hxs:∀(j:Nat) (x z:Int),xs[j]?=some x->zs[j]?=some z->0<=x/\x<z) (j:Nat)  (ez:zs[j]?=some z):∃x,xs[j]?=some x/\0<=x/\x<z:=-by
 have n:=(kM.mp ez).1
 rw [<- hlen] at n
 exact ⟨xs[j],lW n,hxs j _ z (lW n) ez⟩
def abc {H:Hp} {p:af} {q:Rat} {n:Nat} {Q:VK} (f:bP H p q n) (hn:n<=8990) (k:∀H',ah H H'->Q (.bl true) H'):Vh ([.ref p]++[]) H Q E0:=-by
 obtain ⟨t,b,e,f,zt,v⟩:=f
 refine ⟨p,t,b,rfl,e,v.mono hn,λr H' s u=>?_⟩
 obtain rfl:r=true:=u.mpr ⟨f.pos,f.co⟩
 exact k H' s
def N5 (h:H p=some (.tup [x,y])) (q:R ((σ.set i (some x)).set j (some y)) H):Nk K 2 (uo (jf i) (uo (jf j) Pd)) (.ref p) σ H R:=
 ⟨p,_,rfl,ny.of h,rfl,x,_,rfl,y,_,rfl,rfl,q⟩
abbrev En:=af×Int×Option Rat
def nB (H:Hp) (x:En) (n:Nat):Prop:=Sz n x.2.1/\match x.2.2 with
 | none=>H x.1=some (.tup [.int x.2.1,.bG])
 | some q=>∃p,H x.1=some (.tup [.int x.2.1,.ref p])/\bP H p q n
def nB.up (f:nB H x n) (s:ah H H'):nB H' x n:=-by
 obtain ⟨a,m,v⟩:=x
 cases v with
 | none=>exact ⟨f.1,s _ _ f.2⟩
 | some q=>exact ⟨f.1,let ⟨p,e,g⟩:=f.2;⟨p,s _ _ e,g.up s⟩⟩
def nB.rm (hD:H D=some (.lst ys)) (f:nB H x n):nB (rm D H) x n:=-by
 obtain ⟨a,m,v⟩:=x
 cases v with
 | none=>exact ⟨f.1,eK hD f.2⟩
 | some q=>
   obtain ⟨z,p,e,t,b,u,g⟩:=f
   exact ⟨z,p,eK hD e,t,b,eK hD u,g⟩
def nB.obj (f:nB H x n):∃v,H x.1=some (.tup [.int x.2.1,v])/\(decide (v=.bG)=!x.2.2.isSome)/\(v=.bG\/∃p q,v=.ref p/\x.2.2=some q/\bP H p q n):=-by
 obtain ⟨a,m,v⟩:=x
 cases v with
 | none=>exact ⟨.bG,f.2,rfl,.inl rfl⟩
 | some q=>
   obtain ⟨z,p,e,g⟩:=f
   exact ⟨.ref p,e,rfl,.inr ⟨p,q,rfl,rfl,g⟩⟩
def Row (H:Hp) (es:0#f) (n:Nat):Prop:=∀x∈es,nB H x n
def Row.up (h:Row H es n) (s:ah H H'):Row H' es n:=λx hx=>(h x hx).up s
def Row.rm (hD:H D=some (.lst ys)) (h:Row H es n):Row (rm D H) es n:=λx hx=>(h x hx).rm hD
def Row.snoc (h:Row H es n) (hx:nB H x n):Row H (es++[x]) n:=λy hy=>by
 rcases iw.mp hy with z | z
 ·exact h y z
 ·obtain rfl:y=x:=by simpa using z
  exact hx
noncomputable def vals (es:0#f):0#m:=es.map λx=>V.ref x.1
def ja {i:Nat} (h:(vals es)[i]?=some v):∃x,es[i]?=some x/\v=.ref x.1:=-by
 unfold vals at h
 rw [lZ] at h
 cases e:es[i]? with
 | none=>rw [e] at h;cases h
 | some x=>rw [e] at h;cases h;exact ⟨x,rfl,rfl⟩
def uY {i:Nat} (h:es[i]?=some x):(vals es)[i]?=some (.ref x.1):=-by
 unfold vals
 rw [lZ,h]
 rfl
def aP (es:0#f):(vals es).length=es.length:=iR ..
def fK (es:0#f) (x:En):vals es++[.ref x.1]=vals (es++[x]):=by simp [vals]
def Row.app (f:Row H es n) (h:H R=some (.lst ys)):Row (upd H R o) es n:=(f.rm h).up (AV R H o)
def UC (h:H L=some o') (ne:L≠R):upd H R o L=some o':=-by
 rw [aJ ne];exact h
def rising (es:0#f):Prop:=es.Pairwise λa b=>a.2.1<b.2.1
def Zn:BU K (.type "list") (.type "list")=some true:=by rfl
noncomputable def jL (x:En):Bool:=x.2.2.isSome
abbrev Ls:=List (af×List En)
noncomputable def lrefs (ls:Ls):0#m:=ls.map λx=>V.ref x.1
def nO {i:Nat} (h:(lrefs ls)[i]?=some v):∃x,ls[i]?=some x/\v=.ref x.1:=-by
 unfold lrefs at h
 rw [lZ] at h
 cases e:ls[i]? with
 | none=>rw [e] at h;cases h
 | some x=>rw [e] at h;cases h;exact ⟨x,rfl,rfl⟩
def dG (ls:Ls):(lrefs ls).length=ls.length:=iR ..
structure LL (H H2:Hp) (T:af) (ls:Ls):Prop where
 new:H T=none
 at_:H2 T=some (.lst (lrefs ls))
 each:∀x∈ls,H x.1=none/\H2 x.1=some (.lst (vals x.2))/\x.1≠T
 nd:(ls.map (·.1)).Nodup
def LL.own (h:LL H H2 T ls) (e:H R=some (.lst v)):R≠T/\∀x∈ls,x.1≠R:=⟨(λz=>by rw [z,h.new] at e;cases e),(λx hx z=>by rw [<- z,(h.each x hx).1] at e;cases e)⟩
def LL.up (h:LL H H2 T ls) (s:ah H2 H3):LL H H3 T ls:=⟨h.new,s _ _ h.at_,λx hx=>let ⟨a,b,c⟩:=h.each x hx;⟨a,s _ _ b,c⟩,h.nd⟩
def LL.other (h:LL H H2 T ls) (hT:R≠T) (hl:∀x∈ls,x.1≠R):LL H (upd H2 R o) T ls:=
 ⟨h.new,by rw [aJ (jS hT)];exact h.at_,λx hx=>let ⟨a,b,c⟩:=h.each x hx;⟨a,by rw [aJ (hl x hx)];exact b,c⟩,h.nd⟩
def LL.push (h:LL H H2 T ls) (hR:H R=none) (eR:H2 R=some (.lst (vals rn))) (hT:R≠T) (hl:∀x∈ls,x.1≠R):LL H (upd H2 T (.lst (lrefs ls++[.ref R]))) T (ls++[(R,rn)]):=-by
 refine ⟨h.new,by rw [au];simp [lrefs],λx n=>?_,?_⟩
 ·rcases iw.mp n with z | z
  ·obtain ⟨a,b,c⟩:=h.each x z
   exact ⟨a,by rw [aJ c];exact b,c⟩
  ·obtain rfl:x=(R,rn):=by simpa using z
   exact ⟨hR,by rw [aJ hT];exact eR,hT⟩
 ·rw [gw]
  refine List.nodup_append.mpr ⟨h.nd,by simp,λa p b u=>?_⟩
  obtain ⟨x,n,rfl⟩:=lV.mp p
  obtain rfl:b=R:=by simpa using u
  exact hl x n
inductive BC (vs:List V) (H:Hp) (Q:VK) (E_:XK):Prop where
 | mk (l:af) (es:0#f) (n:Nat):vs=[.ref l]->H l=some 0#D->Row H es n->es.length<=40->(∀(T:af) (ls:Ls) (H':Hp),ah H H'->LL H H' T ls->ls.map (·.2)=parts jL es es.length->ls.length<=40->(∀x∈ls,x.2.length<=40)->Q (.ref T) H')->BC vs H Q E_
def uQ:dB 1 [bE,"told","run","entry"] Kx:=0#p
def UN (F:dS K "runs" Kx f fd) (T:Txt mg):0#b 1 f fd [bE] BC:=-by
 refine F.dm uQ 0#a
 obtain ⟨l,es,n,rfl,hl,ae,hn,k⟩:=h
 apply bx ⟨_,(ao (aM 1 uQ.nd (dU fZ)) (ao (aM 2 uQ.nd (dU fZ)) (ao (gQ jd rfl (j0 K 0#w) (c8 (i:=3) uQ.nd rfl (Or.inl rfl)) (aF (bU (bC kG (aB K (aa 3)) gK (aD _)) (aF (gc (fB K (aa 2) (aa 3)) (hs:=fH))) (aF (bU (bC fF (ju K T.jv (aa 2)) aA (aD _)) (ao (gc (fB K 0#C (aa 2)) (hs:=fH)) (aF (aM 2 uQ.nd (dU fZ)))) bY))))) (ao (bU (bC fF (ju K T.jv (aa 2)) aA (aD _)) (aF (gc (fB K 0#C (aa 2)) (hs:=fH))) bY) (aF (aS 0#C)))))),?_⟩
 apply aC (mk:=.lst) 0#t λTT H1 s1 n1 e1=>?_
 apply aC (mk:=.lst) 0#t λR0 H2 s2 n2 e2=>?_
 apply iZ (kJ ?_)
 have gO:=s1.trans s2
 refine ⟨l,rfl,⟨_,bw.of (gO _ _ hl)⟩,fu (xs:=vals es) (λi σ Y=>Yi λ(R:af) (L:Ls) (G:0#f) (v:Option V)=>σ=[some (.ref l),some (.ref TT),some (.ref R),v]/\ah H Y/\LL H Y TT L/\H R=none/\Y R=some (.lst (vals G))/\R≠TT/\(∀x∈L,x.1≠R) /\
  (eU jL es i=true->parts jL es i=L.map (·.2)++[G]/\G≠[])/\(eU jL es i=false->parts jL es i=L.map (·.2)/\G=[])/\G.length<=i/\L.length<=i/\(∀x∈L,x.2.length<=40)) ?_ ?_ ?_ ?_⟩
 ·refine ⟨R0,[],[],none,rfl,gO,⟨n1,s2 _ _ e1,λx J=>absurd J 0#t,List.nodup_nil⟩,s1.free n2,e2,λz=>?_,λx J=>absurd J 0#t,λz=>absurd z (by simp [eU]),λ_=>⟨rfl,rfl⟩,d8 _,d8 _,λx J=>absurd J 0#t⟩
  rw [z] at n2
  rw [e1] at n2
  cases n2
 ·rintro i σ Y _ ⟨R,L,G,v,rfl,O,_⟩
  exact bw.of (O _ _ hl)
 ·rintro i x σ Y J ⟨R,L,G,v,rfl,O,M,hR,U,nR,N,B,I,lr,ll,lx⟩
  obtain ⟨e,he,rfl⟩:=ja J
  have hi:i<es.length:=(kM.mp he).1
  obtain ⟨u,ee,du,_⟩:=((ae e (nk he)).up O).obj
  have ac:eU jL es (i+1)=jL e:=Ai he
  rw?
  apply ⟨rfl,?_⟩
  rw [du]
  cases hs:e.2.2.isSome with
  | true=>
    have D:jL e=true:=hs
    apply bO ?_
    apply ⟨.inl ⟨rfl,_,bw.of U⟩,?_⟩
    refine eG U (by rw [aP];exact aY 0#q) ?_
    refine ⟨R,L,G++[e],_,rfl,bB O hR,M.other nR (λx J=>N x J),hR,by rw [au,fK],nR,N,λ_=>?_,λz=>absurd (ac.symm.trans z) (by rw [D];decide),by rw [gA];exact BP lr,by try?,lx⟩
    refine ⟨?_,by simp⟩
    cases p:eU jL es i with
    | true=>exact HF he D p (B p).1
    | false=>
      obtain ⟨a,rfl⟩:=I p
      rw [vS he D p,a]
      rfl
  | false=>
    have D:jL e=false:=hs
    apply bF ?_
    apply dN (.inl (bw.of U)) ?_
    refine c7 (λc=>?_) (λc=>?_)
    ·have S:=dF c
     rw [aP] at S
     have p:eU jL es i=true:=by
      cases p:eU jL es i with
      | true=>rfl
      | false=>
        obtain ⟨_,rfl⟩:=I p
        simp at S
     rw?
     apply ⟨.inl ⟨rfl,_,bw.of M.at_⟩,?_⟩
     apply eG M.at_ (by rw [dG];exact aY 0#q) ?_
     have Z:=M.push hR U nR N
     refine aC (mk:=.lst) 0#t λR2 H4 s4 n4 e4=>?_
     have sH:ah H H4:=(bB O M.new).trans s4
     rw?
     refine ⟨R2,L++[(R,G)],[],_,rfl,sH,Z.up s4,(bB O M.new).free n4,e4,λz=>?_,λx J z=>?_,λz=>absurd (ac.symm.trans z) (by rw [D];decide),λ_=>⟨?_,rfl⟩,lY _,by rw [gA];exact BP ll,λx J=>?_⟩
     ·rw [z,Z.at_] at n4
      cases n4
     ·rw [<- z,(Z.each x J).2.1] at n4
      cases n4
     ·rw [Dd he D,(B p).1,gw]
      rfl
     ·rcases iw.mp J with z | z
      ·exact lx x z
      ·obtain rfl:x=(R,G):=by simpa using z
       show G.length<=40
       try?
    ·have S:=kh (ki.mpr c)
     rw [aP] at S
     have p:eU jL es i=false:=by
      cases p:eU jL es i with
      | false=>rfl
      | true=>
        have:=Dy.mpr (B p).2
        try?
     obtain ⟨a,rfl⟩:=I p
     rw?
     exact ⟨R,L,[],_,rfl,O,M,hR,U,nR,N,λz=>absurd (ac.symm.trans z) (by rw [D];decide),λ_=>⟨by rw [Dd he D,a],rfl⟩,lY _,by try?,lx⟩
 ·rintro σ Y ⟨R,L,G,v,rfl,O,M,hR,U,nR,N,B,I,lr,ll,lx⟩
  rw [aP] at B I lr ll
  rw?
  apply dN (.inl (bw.of U)) ?_
  refine c7 (λc=>?_) (λc=>?_)
  ·have S:=dF c
   rw [aP] at S
   have p:eU jL es es.length=true:=by
    cases p:eU jL es es.length with
    | true=>rfl
    | false=>
      obtain ⟨_,rfl⟩:=I p
      simp at S
   have ad:(L++[(R,G)]).length<=40:=by
    have e:=vR (s:=jL) (es:=es) es.length
    rw [(B p).1,gA,iR] at e
    rw [gA]
    simp at e ⊢
    try?
   rw?
   apply ⟨.inl ⟨rfl,_,bw.of M.at_⟩,?_⟩
   apply eG M.at_ (by rw [dG];exact aY 0#q) ?_
   refine k TT (L++[(R,G)]) _ (bB O M.new) (M.push hR U nR N) ?_ ad λx J=>?_
   ·rw [(B p).1,gw]
    rfl
   ·rcases iw.mp J with z | z
    ·exact lx x z
    ·obtain rfl:x=(R,G):=by simpa using z
     show G.length<=40
     try?
  ·have S:=kh (ki.mpr c)
   rw [aP] at S
   have p:eU jL es es.length=false:=by
    cases p:eU jL es es.length with
    | false=>rfl
    | true=>
      have:=Dy.mpr (B p).2
      try?
   rw?
   exact k TT L Y O M (I p).1.symm 0#q lx
noncomputable def mo (es:0#f) (k:Nat):Int:=((es[k]?).map (·.2.1)).getD 0
noncomputable def wo (es:0#f) (k:Nat):Rat:=((es[k]?).bind (·.2.2)).getD 0
noncomputable def sd (es:0#f) (i k j:Nat):Rat:=wo es k-cS (mo es i) (wo es i) (mo es k) (mo es j) (wo es j)
def jN (es:0#f):Prop:=∀x∈es,jL x=true
def cC (hR:Row H es n) (hS:jN es) (hk:k<es.length):∃x,es[k]?=some x/\gH H x.1 (mo es k) (wo es k) n:=-by
 have g:es[k]?=some es[k]:=lW hk
 have u:es[k]∈es:=MJ hk
 refine ⟨es[k],g,?_⟩
 have A:=hR _ u
 have B:(es[k]).2.2.isSome=true:=hS _ u
 unfold mo wo
 rw [g]
 generalize es[k]=x at *
 obtain ⟨a,m,v⟩:=x
 cases v with
 | none=>cases B
 | some q=>
   obtain ⟨z,p,e,f⟩:=A
   exact ⟨p,e,f,z⟩
def gh (h:rising es) (hij:i<j) (hj:j<es.length):mo es i<mo es j:=-by
 have n:i<es.length:=by try?
 unfold mo
 rw [lW n,lW hj]
 exact Wj.mp h i j n hj hij
def b8 {i:Nat} (h:es[i]?=some x) (hj:j=(i:Int)):tU (vals es) j=some (.ref x.1):=-by
 subst hj
 exact gI (uY h)
inductive wG (vs:List V) (H:Hp) (Q:VK) (E_:XK):Prop where
 | mk (p r:af) (a b c d:Int) (n:Nat):vs=[.ref p,.ref r]->H p=some (.tup [.int a,.int b])->H r=some (.tup [.int c,.int d])->Sz n a->Sz n b->Sz n c->Sz n d->n<=10000->(∀(s:af) (H':Hp),ah H H'->H' s=some (.tup [.int (a*d-c*b),.int (b*d)])->Q (.ref s) H')->wG vs H Q E_
inductive wH (vs:List V) (H:Hp) (Q:VK) (E_:XK):Prop where
 | mk (p r v v':af) (t t' a b a' b':Int) (n:Nat):vs=[.ref p,.ref r]->H p=some (.tup [.int t,.ref v])->H v=some (.tup [.int a,.int b])->H r=some (.tup [.int t',.ref v'])->H v'=some (.tup [.int a',.int b'])->t<t'->Sz n t->Sz n a->Sz n b->Sz n t'->Sz n a'->Sz n b'->n<=10000->(∀(s:af) (H':Hp),ah H H'->H' s=some (.tup [.int (a'*b-a*b'),.int (b'*b*(t'-t))])->Q (.ref s) H')->wH vs H Q E_
inductive KR (vs:List V) (H:Hp) (Q:VK) (E_:XK):Prop where
 | mk (l:af) (es:0#f) (i j n:Nat):vs=[.ref l,.int (i:Int),.int (j:Int)]->H l=some 0#D->Row H es n->jN es->rising es->i<j->j<es.length->es.length<=1000->n<=900->(j=i+1->∀H',ah H H'->Q .bG H')->(i+1<j->∀(z p:af) (k:Nat) (H':Hp),ah H H'->H' z=some (.tup [.int (k:Int),.ref p])->bI H' p (cG (sd es i k j)) (8*n+5)->pF (λk=>cG (sd es i k j)) i j k->Q (.ref z) H')->KR vs H Q E_
def yj (F:dS K "loose_minus" jK f fd):0#b 1 f fd [aG,az] wG:=-by
 refine F.dm qH 0#a
 obtain ⟨p,r,a,b,c,d,n,rfl,hp,hr',D,u,G,v,hn,k⟩:=h
 apply bx ⟨_,(aF (aS (bu (br (aI cF (aI aK (aB K 0#w) (aB K 0#C)) (aI aK (aB K 0#C) (aB K 0#w))) (aI aK (aB K 0#w) (aB K 0#C)))))),?_⟩
 apply fR (bL D v 0#q) ?_
 apply fR (bL G u 0#q) ?_
 apply fR (bL u v 0#q) ?_
 refine aC (mk:=.tup) 0#t λx z B n1 e1=>?_
 exact k x z B e1
def yk (F:dS K "loose_slope" ir f fd) (kW:0#c 1 "loose_minus" [aG,az] wG):0#b 3 f fd [aG,az] wH:=-by
 refine F.dm cH 0#a
 obtain ⟨p,r,v,Z,t,I,a,b,N,O,n,rfl,S,U,u,z,ht,zt,za,J,M,D,G,R,k⟩:=h
 apply bx ⟨_,(ao (aM 2 cH.nd (bA kW hr (aB K 0#C) (aB K 0#w))) (ao (aM 3 cH.nd (aI cF (aB K 0#C) (aB K 0#w))) (ao (bU (bC qo (aa 3) aA (aD _)) (aF (aS (bu (br (jh fM (aB K (aa 2))) (aI aK (aB K (aa 2)) (jh fM (aa 3))))))) bY) (aF (aS (bu (br (aB K (aa 2)) (aI aK (aB K (aa 2)) (aa 3))))))))),?_⟩
 refine ⟨Z,v,N,O,a,b,n,rfl,z,U,D,G,za,J,R,λx H1 B e1=>?_⟩
 have hp1:=B _ _ S
 have hr1:=B _ _ u
 have zs:Sz (n+1) (I-t):=M.sub zt
 rw?
 refine c7 (λc=>?_) (λc=>?_)
 ·have c':I-t<0:=dF c
  try?
 ·rw?
  apply fR (bL (G.mul J) zs 0#q) ?_
  refine aC (mk:=.tup) 0#t λy L Y n2 e2=>?_
  exact k y L (B.trans Y) e2
def bg:dB 3 [aQ,cj,cy,"start",dz,"base",cI,"miss","place","moment","value","along","stood"] jy:=0#p
abbrev IS P w K mg base:=Dn P w K mg base 1 "order" [aG,az] Bx
def uE (F:dS K "loose_farthest" jy f fd) (T:Txt mg) (cM:IS P w K mg base) (kX:0#c 3 "loose_slope" [aG,az] wH) :
 aX P w K mg base cO 4 f fd [aQ,cj,cy] KR:=-by
 refine F.dm bg 0#a
 obtain ⟨l,es,i,j,n,rfl,hl,hR,hS,fW,ap,hj,Cf,hn,k0,k1⟩:=h
 obtain ⟨xi,gi,vi,ei,⟨a,b,eb,fb,za,zb⟩,L⟩:=cC hR hS (show i<es.length by try?)
 obtain ⟨xj,gj,vj,ej,⟨R,p,am,U,ae,Wf⟩,ai⟩:=cC hR hS hj
 have ht:=gh fW ap hj
 have hb1:=fb.pos
 have hb2:=U.pos
 have zd:Sz (n+1) (mo es j-mo es i):=ai.sub L
 have zS:Sz (3*n+1) (p*b*(mo es j-mo es i)):=((Wf.mul zb).mul zd).mono 0#q
 have ad:Sz (2*n+1) (p*(mo es j-mo es i)):=(Wf.mul zd).mono 0#q
 have zT:Sz (2*n+1) (R*b-a*p):=((ae.mul zb).sub (za.mul Wf)).mono 0#q
 have an:(p*b*(mo es j-mo es i)).fdiv b=p*(mo es j-mo es i):=by
  rw [B3 _ 0#q,Int.mul_right_comm]
  exact Int.mul_ediv_cancel _ 0#q
 have Tq:0<p*b*(mo es j-mo es i):=u6 (u6 0#q 0#q) 0#q
 apply bx ⟨_,(ao (aM 3 bg.nd (bV (iQ K) 0#w 0#C 0#z)) (ao (aM 4 bg.nd (bA kX hr (aa 3) (bV (iQ K) 0#w (aa 2) 0#z))) (ao (aM 5 bg.nd (aI aK (aB K (aB K (aa 3))) (aI eF (aB K (aa 4)) (aB K (aB K (aa 3)))))) (ao (aM 6 bg.nd gK) (ao (aM 7 bg.nd (bu (br aA aA))) (ao (gQ jd rfl (Jd.nV rfl T.range (br (aI cE 0#C aA) (aa 2))) (c8 (i:=8) bg.nd rfl (Or.inl rfl)) (ao (aM 9 bg.nd (aB K (bV (iQ K) 0#w (aa 8) 0#z))) (ao (aM 10 bg.nd (aB K (bV (iQ K) 0#w (aa 8) 0#z))) (ao (aM 11 bg.nd (aI cE (aa 5) (aI aK (aB K (aa 4)) (aI cF (aa 9) (aB K (aa 3)))))) (ao (aM 12 bg.nd (bu (br (fD xT rfl T.xU yu (c9 (aI cF (aI aK (aB K (aa 10)) (aB K (aa 4))) (aI aK (aB K (aa 10)) (aa 11)))) (he:=Rp) (hpl:=cD)) (aB K (aa 10))))) (aF (bU (jg (nK (bC EF (aa 6) gK (aD _)) (Jd.lG (bC fF (bA cM hr (aa 12) (aa 7)) aA (aD _))))) (ao (aM 6 bg.nd (aa 8)) (aF (aM 7 bg.nd (aa 12)))) bY))))))) (aF (aS (uu (bC EF (aa 6) gK (aD _)) gK (bu (br (aa 6) (bu (br (aB K (aa 7)) (aI aK (aB K (aa 7)) (aB K (aa 4)))))))))))))))),?_⟩
 apply dM hl (b8 gi rfl) ?_
 apply dM hl (b8 gj rfl) ?_
 refine ⟨xi.1,xj.1,vi,vj,mo es i,mo es j,a,b,R,p,n,rfl,ei,eb,ej,am,ht,L,za,zb,ai,ae,Wf,by try?,λps H1 s1 e1=>?_⟩
 have ei1:=s1 _ _ ei
 have eb1:=s1 _ _ eb
 rw?
 refine fR ⟨by try?,zb.log 0#q ?_⟩ ?_
 ·rcases WS n with z | z
  ·subst z
   have:b.natAbs<2 ^ 0:=zb
   try?
  ·exact z
 rw [an]
 apply fR (bL za ad 0#q) ?_
 apply aC (mk:=.tup) 0#t λas H2 s2 n2 e2=>?_
 apply iZ (Kl ?_)
 have al:Sz (5*n+4) 1:=oQ 0#q
 have aH:Sz (5*n+4) 0:=Ss _
 refine ⟨_,_,rfl,⟨by lia,by lia,by lia,by lia⟩,iK (λm σ N=>Xs7 λ(Y:V) (O:af) (v8 v9 G I J:Option V)=>σ=[some (.ref l),some (.int i),some (.int j),some (.ref xi.1),some (.ref ps),some (.int (a*(p*(mo es j-mo es i)))),some Y,some (.ref O),v8,v9,G,I,J] /\
  ah H1 N/\((m=0/\Y=.bG/\bI N O 0 (5*n+4))\/∃k:Nat,Y=.int (k:Int)/\bI N O (cG (sd es i k j)*((p*b*(mo es j-mo es i):Int):Rat)) (5*n+4)/\pF (λk=>cG (sd es i k j)) i (i+1+m) k)) ?_ ?_ ?_⟩
 ·exact ⟨.bG,as,none,none,none,none,none,rfl,s2,.inl ⟨rfl,rfl,0,1,e2,Qt.whole 0,aH,al⟩⟩
 ·rintro m σ N hm ⟨Y,O,v8,v9,G,I,J,rfl,u,hI⟩
  refine ig λM Bk RR hM _ _=>?_
  have hp:i+1+m<j:=by try?
  have pR:=s1.trans u
  obtain ⟨xp,gp,vp,ep,⟨c,e,ec,fc,zc,ze⟩,aR⟩:=cC (hR.up pR) hS (show i+1+m<es.length by try?)
  have ei3:=pR _ _ ei
  have TU:=u _ _ e1
  have qt:=YG fb U fc (tp:=mo es (i+1+m)) ht
  have qa:=qt.abs
  rw [AQ (cast_pos Tq)] at qa
  have aj:Sz (n+1) (mo es (i+1+m)-mo es i):=aR.sub L
  have ak:Sz (4*n+2) (a*(p*(mo es j-mo es i))):=(za.mul ad).mono 0#q
  have aN:Sz (4*n+2) ((R*b-a*p)*(mo es (i+1+m)-mo es i)):=(zT.mul aj).mono 0#q
  have ag:Sz (4*n+3) (a*(p*(mo es j-mo es i))+(R*b-a*p)*(mo es (i+1+m)-mo es i)):=ak.add aN
  have ax:Sz (5*n+3) (c*(p*b*(mo es j-mo es i))):=(zc.mul zS).mono 0#q
  have ay:Sz (5*n+3) (e*(a*(p*(mo es j-mo es i))+(R*b-a*p)*(mo es (i+1+m)-mo es i))):=(ze.mul ag).mono 0#q
  rw?
  apply dM (pR _ _ hl) (b8 gp 0#q) ?_
  apply dM (pR _ _ hl) (b8 gp 0#q) ?_
  apply fR (bL zT aj 0#q) ?_
  apply fR (bL zc zS 0#q) ?_
  apply fR (bL ze ag 0#q) ?_
  rw [iV]
  refine aC (mk:=.tup) 0#t λac H4 D n4 e4=>?_
  have qs:bI H4 ac (cG (sd es i (i+1+m) j)*((p*b*(mo es j-mo es i):Int):Rat)) (5*n+4):=
   ⟨_,_,e4,qa,(ax.sub ay).of_le 0#t,ze.mono 0#q⟩
  rw?
  rcases hI with ⟨rfl,rfl,hq⟩ | ⟨B,rfl,hq,Z⟩
  ·apply ⟨rfl,?_⟩
   refine bO ?_
   apply bO ?_
   exact hM _ _ ⟨_,_,_,_,_,_,_,rfl,u.trans D,.inr ⟨i+1,by simp,qs,pF.first⟩⟩
  ·apply ⟨rfl,?_⟩
   apply bF ?_
   apply ⟨ac,O,_,_,_,_,rfl,qs,hq.up D,by try?,λo OA ho2=>?_⟩
   refine c7 (λc1=>?_) (λc1=>?_)
   ·have c':0<o:=dF c1
    have l1:=(Ga (cast_pos Tq)).mp (OA.mp c')
    rw?
    refine hM _ _ ⟨_,_,_,_,_,_,_,rfl,u.trans D,.inr ⟨i+1+m,by simp,qs,?_⟩⟩
    exact Z.next l1
   ·have c':¬0<o:=kh (ki.mpr c1)
    have l1:¬cG (sd es i B j)<cG (sd es i (i+1+m) j):=λz=>c' (OA.mpr ((Ga (cast_pos Tq)).mpr z))
    rw?
    refine hM _ _ ⟨_,_,_,_,_,_,_,rfl,u.trans D,.inr ⟨B,rfl,hq.up D,?_⟩⟩
    exact Z.keep (iI.mp l1)
 ·rintro σ N ⟨Y,O,v8,v9,G,I,J,rfl,u,hI⟩
  have TU:=u _ _ e1
  rw?
  rcases hI with ⟨hm,rfl,hq⟩ | ⟨B,rfl,⟨x,y,exy,aw,zx,zy⟩,Z⟩
  ·apply ⟨rfl,?_⟩
   apply bO ?_
   exact k0 0#q N (s1.trans u)
  ·apply ⟨rfl,?_⟩
   apply bF ?_
   apply fR (bL zy zS 0#q) ?_
   apply aC (mk:=.tup) 0#t λp4 H4 D n4 e4=>?_
   refine aC (mk:=.tup) 0#t λp5 H5 s5 n5 e5=>?_
   have v:pF (λk=>cG (sd es i k j)) i j B:=by
    have e:i+1+((j:Int)-((i:Int)+1)).toNat=j:=by try?
    rw [e] at Z
    exact Z
   have hlo:=v.lo
   have hhi:=v.hi
   refine k1 0#q p5 p4 B H5 ((s1.trans u).trans (D.trans s5)) e5 ?_ v
   have q:=aw.div (s:=p*b*(mo es j-mo es i)) Tq
   have ar:=dH (b:=p*b*(mo es j-mo es i)) 0#q
   rw [show cG (sd es i B j)*((p*b*(mo es j-mo es i):Int):Rat)/((p*b*(mo es j-mo es i):Int):Rat)=cG (sd es i B j) by generalize ((p*b*(mo es j-mo es i):Int):Rat)=S at ar;grind] at q
   exact ⟨_,_,s5 _ _ e4,q,zx.mono 0#q,(zy.mul zS).mono 0#q⟩
def nQ (h:es.map (·.2)=es'.map (·.2)) (k:Nat):mo es k=mo es' k/\wo es k=wo es' k:=-by
 have e:(es.map (·.2))[k]?=(es'.map (·.2))[k]?:=by rw [h]
 rw [lZ,lZ] at e
 unfold mo wo
 cases h1:es[k]? with
 | none=>
   cases h2:es'[k]? with
   | none=>exact ⟨rfl,rfl⟩
   | some y=>rw [h1,h2] at e;cases e
 | some x=>
   cases h2:es'[k]? with
   | none=>rw [h1,h2] at e;cases e
   | some y=>
     rw [h1,h2] at e
     have n:x.2=y.2:=by simpa using e
     simp only [MP,Option.bind_some,n,Option.getD_some,and_self]
abbrev Qs:=List (af×Rat)
noncomputable def cK (rs:Qs):0#m:=rs.map λx=>V.ref x.1
def AL {i:Nat} (h:(cK rs)[i]?=some v):∃x,rs[i]?=some x/\v=.ref x.1:=-by
 unfold cK at h
 rw [lZ] at h
 cases e:rs[i]? with
 | none=>rw [e] at h;cases h
 | some x=>rw [e] at h;cases h;exact ⟨x,rfl,rfl⟩
def DM (H:Hp) (rs:Qs) (n:Nat):Prop:=∀x∈rs,bI H x.1 x.2 n
noncomputable def gm (js:List Nat):0#m:=js.map λj:Nat=>V.int (j:Int)
def kQ (js:List Nat):(gm js).length=js.length:=iR ..
def sM (js:List Nat) (j:Nat):gm js++[.int (j:Int)]=gm (js++[j]):=by simp [gm]
def Hq {i:Nat} (h:(gm js)[i]?=some v):∃j,js[i]?=some j/\v=.int (j:Int):=-by
 unfold gm at h
 rw [lZ] at h
 cases e:js[i]? with
 | none=>rw [e] at h;cases h
 | some x=>rw [e] at h;cases h;exact ⟨x,rfl,rfl⟩
def bI.app (f:bI H p q n) (h:H R=some (.lst ys)):bI (upd H R o) p q n:=
 let ⟨t,b,e,f⟩:=f
 ⟨t,b,(AV R H o) _ _ (eK h e),f⟩
def Vz (H:Hp) (p:af) (t:Int) (q:Rat) (n m:Nat):Prop:=∃v:af,H p=some (.tup [.int t,.ref v])/\bI H v q n/\Sz m t
def Vz.up (f:Vz H p t q n m) (s:ah H H'):Vz H' p t q n m:=let ⟨v,e,f,z⟩:=f;⟨v,s _ _ e,f.up s,z⟩
def gH.saq (f:gH H p t q n):Vz H p t q n n:=let ⟨v,e,f,z⟩:=f;⟨v,e,f.qt,z⟩
def Good (es:0#f) (β:Rat) (i j:Nat):Prop:=∀k,i<k->k<j->cG (sd es i k j)<=β
def lu (es:0#f) (β:Rat) (aT:Bool) (i j:Nat):Prop:=if aT=true then i<j/\j<es.length/\Good es β i j else i<es.length/\(j=i+1\/(i+1<j/\j<=es.length/\Good es β i (j-1)))
noncomputable def slo (es:0#f) (i j:Nat):Rat:=(wo es j-wo es i)/((mo es j:Rat)-(mo es i:Rat))
noncomputable def jc (es:0#f) (β:Rat) (i k:Nat):Rat:=(wo es k-β-wo es i)/((mo es k:Rat)-(mo es i:Rat))
noncomputable def fQ (es:0#f) (β:Rat) (i k:Nat):Rat:=(wo es k+β-wo es i)/((mo es k:Rat)-(mo es i:Rat))
def zV (h:rising es) (hik:i<k) (hkj:k<j) (hj:j<es.length):cG (sd es i k j)<=β↔jc es β i k<=slo es i j/\slo es i j<=fQ es β i k:=
 DZ (vd.mpr (gh h hik 0#q)) (vd.mpr (gh h hkj hj))
inductive wI (vs:List V) (H:Hp) (Q:VK) (E_:XK):Prop where
 | mk (p r:af) (t t':Int) (q q':Rat) (n n' m:Nat):vs=[.ref p,.ref r]->Vz H p t q n m->Vz H r t' q' n' m->t<t'->n+n'+m<=20000->(∀(s:af) (H':Hp),ah H H'->bI H' s ((q'-q)/((t':Rat)-(t:Rat))) (n+n'+m+2)->Q (.ref s) H')->wI vs H Q E_
inductive FE (vs:List V) (H:Hp) (Q:VK) (E_:XK):Prop where
 | mk (l:af) (rs:Qs) (n:Nat):vs=[.ref l]->H l=some (.lst (cK rs))->DM H rs n->n<=20000->0<rs.length->(∀x∈rs,(∀y∈rs,y.2<=x.2)->Q (.ref x.1) H)->FE vs H Q E_
inductive yW (vs:List V) (H:Hp) (Q:VK) (E_:XK):Prop where
 | mk (l:af) (rs:Qs) (n:Nat):vs=[.ref l]->H l=some (.lst (cK rs))->DM H rs n->n<=20000->0<rs.length->(∀x∈rs,(∀y∈rs,x.2<=y.2)->Q (.ref x.1) H)->yW vs H Q E_
inductive FD (vs:List V) (H:Hp) (Q:VK) (E_:XK):Prop where
 | mk (l pb:af) (es:0#f) (i n nb:Nat) (β:Rat):vs=[.ref l,.int (i:Int),.ref pb]->H l=some 0#D->Row H es n->jN es->rising es->i<es.length->es.length<=900->bI H pb β nb->n<=1000->nb<=1000->(∀(R:af) (js:List Nat) (H':Hp),ah H H'->H R=none->H' R=some (.lst (gm js))->js.length<=es.length->(∀j,j∈js↔i<j/\j<es.length/\Good es β i j)->Q (.ref R) H')->FD vs H Q E_
structure OJ (H:Hp) (F:af) (rs:List (af×List Nat)):Prop where
 at_:H F=some (.lst (rs.map λx=>V.ref x.1))
 each:∀x∈rs,H x.1=some (.lst (gm x.2))/\x.1≠F
def OJ.up (h:OJ H F rs) (s:ah H H'):OJ H' F rs:=⟨s _ _ h.at_,λx hx=>⟨s _ _ (h.each x hx).1,(h.each x hx).2⟩⟩
def OJ.push (h:OJ H F rs) (hR:H R=some (.lst (gm js))) (ne:R≠F):OJ (upd H F (.lst (rs.map (λx=>V.ref x.1)++[.ref R]))) F (rs++[(R,js)]):=-by
 refine ⟨by rw [au,gw];rfl,λx n=>?_⟩
 rcases iw.mp n with z | z
 ·exact ⟨by rw [aJ (h.each x z).2];exact (h.each x z).1,(h.each x z).2⟩
 ·obtain rfl:x=(R,js):=by simpa using z
  exact ⟨by rw [aJ ne];exact hR,ne⟩
def zE (es:0#f) (β:Rat) (aT:Bool) (rs:List (af×List Nat)):Prop:=∀i x,rs[i]?=some x->(x.2.length<=es.length+1)/\∀j,j∈x.2↔lu es β aT i j
inductive FG (vs:List V) (H:Hp) (Q:VK) (E_:XK):Prop where
 | mk (l pb:af) (es:0#f) (n nb:Nat) (β:Rat) (aT:Bool):vs=[.ref l,.ref pb,.bl aT]->H l=some 0#D->Row H es n->jN es->rising es->es.length<=900->bI H pb β nb->n<=1000->nb<=1000->(∀(F:af) (rs:List (af×List Nat)) (H':Hp),ah H H'->H F=none->OJ H' F rs->rs.length=es.length->zE es β aT rs->Q (.ref F) H')->FG vs H Q E_
noncomputable def nJ (N:Nat) (t:Nat->Int):0#m:=(fN N).map λj=>V.int (t j)
def rg (N:Nat) (t:Nat->Int):(nJ N t).length=N:=by simp [nJ]
def nG {N:Nat} (h:j<N) (hi:i=(j:Int)):tU (nJ N t) i=some (.int (t j)):=-by
 subst hi
 exact gI (uB h)
inductive yU (vs:List V) (H:Hp) (Q:VK) (E_:XK):Prop where
 | mk (F:af) (rs:List (af×List Nat)) (N:Nat) (L:Nat->Nat->Prop):vs=[.ref F,.int (N:Int)]->OJ H F rs->1<=N->N<=900->N<=rs.length+1->rs.length<=N->(∀i x,rs[i]?=some x->∀j,j∈x.2↔L i j)->(∀i j,L i j->i<j/\j<N)->(∀j,0<j->j<N->L (j-1) j)->(∀(R:af) (t:Nat->Int) (H':Hp),ah H H'->H R=none->H' R=some (.lst (nJ N t))->xR L N t->Q (.ref R) H')->yU vs H Q E_
def mD:dB 1 [fh,cI,"quotient"] sW:=0#p
def Hu (F:dS K "greatest" sW f fd) (cM:IS P w K mg base):0#b 2 f fd [fh] FE:=-by
 refine F.dm mD 0#a
 obtain ⟨l,p,n,rfl,L,S,hn,R,k⟩:=h
 have Y:p[0]?=some p[0]:=lW R
 apply bx ⟨_,(ao (aM 1 mD.nd (Jd.iL K 0#w)) (ao (gQ jd rfl (j0 K 0#w) (c8 (i:=2) mD.nd rfl (Or.inl rfl)) (aF (bU (bC fF (bA cM hr (aa 2) 0#C) aA (aD _)) (aF (aM 1 mD.nd (aa 2))) bY))) (aF (aS 0#C)))),?_⟩
 apply dM L (v:=.ref (p[0]).1) (gI (j:=0) (by unfold cK;rw [lZ,Y];rfl)) ?_
 apply iZ (kJ ?_)
 refine ⟨l,rfl,⟨_,bw.of L⟩,fu (xs:=cK p) (λi J G=>G=H/\∃(x:af×Rat) (v:Option V),x∈p/\J=[some (.ref l),some (.ref x.1),v]/\∀y∈p.take i,y.2<=x.2) ?_ ?_ ?_ ?_⟩
 ·exact ⟨rfl,p[0],none,MJ R,rfl,λy B=>by simp at B⟩
 ·rintro i J G _ ⟨rfl,_⟩
  exact bw.of L
 ·rintro i v J G Z ⟨rfl,x,v2,I,rfl,u⟩
  obtain ⟨y,O,rfl⟩:=AL Z
  have B:=nk O
  have U:p.take (i+1)=p.take i++[y]:=by rw [qT,O];rfl
  rw?
  apply ⟨y.1,x.1,y.2,x.2,n,n,rfl,S y B,S x I,by try?,λo M ho2=>?_⟩
  refine c7 (λc=>?_) (λc=>?_)
  ·have N:=M.mp (dF c)
   rw?
   refine ⟨rfl,y,_,B,rfl,λz D=>?_⟩
   rw [U] at D
   rcases iw.mp D with q | q
   ·have:=u z q
    grind
   ·obtain rfl:z=y:=by simpa using q
    exact ko
  ·have N:¬x.2<y.2:=λz=>kh (ki.mpr c) (M.mpr z)
   rw?
   refine ⟨rfl,x,_,I,rfl,λz D=>?_⟩
   rw [U] at D
   rcases iw.mp D with q | q
   ·exact u z q
   ·obtain rfl:z=y:=by simpa using q
    exact iI.mp N
 ·rintro J G ⟨rfl,x,v2,I,rfl,u⟩
  rw?
  refine k x I λy B=>u y ?_
  have e:(cK p).length=p.length:=iR ..
  rw [e,pP]
  exact B
def mF:dB 1 [fh,cI,"quotient"] tE:=0#p
def HB (F:dS K "smallest" tE f fd) (cM:IS P w K mg base):0#b 2 f fd [fh] yW:=-by
 refine F.dm mF 0#a
 obtain ⟨l,p,n,rfl,M,S,hn,R,k⟩:=h
 have Y:p[0]?=some p[0]:=lW R
 apply bx ⟨_,(ao (aM 1 mF.nd (Jd.iL K 0#w)) (ao (gQ jd rfl (j0 K 0#w) (c8 (i:=2) mF.nd rfl (Or.inl rfl)) (aF (bU (bC qo (bA cM hr (aa 2) 0#C) aA (aD _)) (aF (aM 1 mF.nd (aa 2))) bY))) (aF (aS 0#C)))),?_⟩
 apply dM M (v:=.ref (p[0]).1) (gI (j:=0) (by unfold cK;rw [lZ,Y];rfl)) ?_
 apply iZ (kJ ?_)
 refine ⟨l,rfl,⟨_,bw.of M⟩,fu (xs:=cK p) (λi L I=>I=H/\∃(x:af×Rat) (v:Option V),x∈p/\L=[some (.ref l),some (.ref x.1),v]/\∀y∈p.take i,x.2<=y.2) ?_ ?_ ?_ ?_⟩
 ·exact ⟨rfl,p[0],none,MJ R,rfl,λy B=>by simp at B⟩
 ·rintro i L I _ ⟨rfl,_⟩
  exact bw.of M
 ·rintro i v L I Z ⟨rfl,x,v2,J,rfl,u⟩
  obtain ⟨y,O,rfl⟩:=AL Z
  have B:=nk O
  have U:p.take (i+1)=p.take i++[y]:=by rw [qT,O];rfl
  rw?
  apply ⟨y.1,x.1,y.2,x.2,n,n,rfl,S y B,S x J,by try?,λo OA D=>?_⟩
  refine c7 (λc=>?_) (λc=>?_)
  ·have N:=D.mp (dF c)
   rw?
   refine ⟨rfl,y,_,B,rfl,λz G=>?_⟩
   rw [U] at G
   rcases iw.mp G with q | q
   ·have:=u z q
    grind
   ·obtain rfl:z=y:=by simpa using q
    exact ko
  ·have N:¬y.2<x.2:=λz=>kh (ki.mpr c) (D.mpr z)
   rw?
   refine ⟨rfl,x,_,J,rfl,λz G=>?_⟩
   rw [U] at G
   rcases iw.mp G with q | q
   ·exact u z q
   ·obtain rfl:z=y:=by simpa using q
    exact iI.mp N
 ·rintro L I ⟨rfl,x,v2,J,rfl,u⟩
  rw?
  refine k x J λy B=>u y ?_
  have e:(cK p).length=p.length:=iR ..
  rw [e,pP]
  exact B
def ym (F:dS K "loose_slope" ir f fd) (aR:0#c 1 "loose_minus" [aG,az] (iO (·-·) 1)):0#b 3 f fd [aG,az] wI:=-by
 refine F.dm cH 0#a
 obtain ⟨p,r,t,D,q,U,n,S,m,rfl,⟨v,N,R,zt⟩,⟨Z,u,z,M⟩,ht,hn,k⟩:=h
 apply bx ⟨_,(ao (aM 2 cH.nd (bA aR hr (aB K 0#C) (aB K 0#w))) (ao (aM 3 cH.nd (aI cF (aB K 0#C) (aB K 0#w))) (ao (bU (bC qo (aa 3) aA (aD _)) (aF (aS (bu (br (jh fM (aB K (aa 2))) (aI aK (aB K (aa 2)) (jh fM (aa 3))))))) bY) (aF (aS (bu (br (aB K (aa 2)) (aI aK (aB K (aa 2)) (aa 3))))))))),?_⟩
 refine ⟨Z,v,U,q,S,n,rfl,z,R,by try?,λx H1 B e1=>?_⟩
 obtain ⟨a,b,hx,O,za,I⟩:=e1
 have hp1:=B _ _ N
 have hr1:=B _ _ u
 have J:Sz (m+1) (D-t):=M.sub zt
 rw?
 refine c7 (λc=>?_) (λc=>?_)
 ·have c':D-t<0:=dF c
  try?
 ·rw?
  apply fR (bL I J 0#q) ?_
  refine aC (mk:=.tup) 0#t λy L Y n2 e2=>?_
  have G:=O.div (s:=D-t) 0#q
  rw [rR] at G
  exact k y L (B.trans Y) ⟨_,_,e2,G,za.mono 0#q,(I.mul J).mono 0#q⟩
def bz:dB 3 [aQ,cj,aL,"start",cI,gD,gE,"place","moment","value",dz,"gentle","steeper"] mY:=0#p
abbrev X5 P w K mg base:=Dn P w K mg base 3 "loose_slope" [aG,az] wI
abbrev Tj P w K mg base:=Dn P w K mg base 2 "greatest" [fh] FE
def Ar (F:dS K "good_behind" mY f fd) (T:Txt mg) (cM:IS P w K mg base) (bM:0#c 1 "loose_plus" [aG,az] (iO (·+·) 1)) (aR:0#c 1 "loose_minus" [aG,az] (iO (·-·) 1))
 (bR:X5 P w K mg base) (c5:Tj P w K mg base) (jq:0#c 2 "smallest" [fh] yW):0#b 4 f fd [aQ,cj,aL] FD:=-by
 refine F.dm bz 0#a
 obtain ⟨l,pb,es,i,n,D,u,rfl,hl,hR,hS,fW,hi,jZ,hb,hn,hnb,k⟩:=h
 obtain ⟨xi,gi,fi⟩:=cC hR hS hi
 apply bx ⟨_,(ao (aM 3 bz.nd (bV (iQ K) 0#w 0#C 0#z)) (ao (aM 4 bz.nd (dU fZ)) (ao (aM 5 bz.nd gK) (ao (aM 6 bz.nd gK) (ao (gQ jd rfl (Jd.nV rfl T.range (br (aI cE 0#C aA) (ju K T.jv 0#w))) (c8 (i:=7) bz.nd rfl (Or.inl rfl)) (ao (aM 8 bz.nd (aB K (bV (iQ K) 0#w (aa 7) 0#z))) (ao (aM 9 bz.nd (aB K (bV (iQ K) 0#w (aa 7) 0#z))) (ao (aM 10 bz.nd (bA bR hr (aa 3) (bV (iQ K) 0#w (aa 7) 0#z))) (ao (aM 11 bz.nd (bA bR hr (aa 3) (bu (br (aa 8) (bA aR hr (aa 9) (aa 2)))))) (ao (aM 12 bz.nd (bA bR hr (aa 3) (bu (br (aa 8) (bA bM hr (aa 9) (aa 2)))))) (ao (bU (bC EF (aa 5) gK (aD _)) (ao (aM 5 bz.nd (aa 11)) (ao (aM 6 bz.nd (aa 12)) (ao (gc (fB K (aa 4) (aa 7)) (hs:=fH)) (aF Jd.qq)))) bY) (ao (bU (jg (Jd.lF (bC LY (bA cM hr (aa 5) (aa 10)) aA (aD _)) (uv (bC LY (bA cM hr (aa 10) (aa 6)) aA (aD _))))) (aF (gc (fB K (aa 4) (aa 7)) (hs:=fH))) bY) (ao (aM 5 bz.nd (Jd.c1 c5 hr (dU (br (aa 5) (aa 11))))) (aF (aM 6 bz.nd (Jd.c1 jq hr (dU (br (aa 6) (aa 12))))))))))))))) (aF (aS (aa 4)))))))),?_⟩
 apply dM hl (b8 gi rfl) ?_
 apply aC (mk:=.lst) 0#t λR H1 s1 n1 e1=>?_
 apply iZ (Kl ?_)
 refine dN (.inl (bw.of (s1 _ _ hl))) ?_
 rw [aP]
 rw?
 refine ⟨_,_,rfl,⟨by lia,by lia,by lia,by lia⟩,iK (λm σ H3=>Xs9 λ(B:List Nat) (gv sv:V) (v7 v8 v9 ai aj ak:Option V)=>σ=[some (.ref l),some (.int i),some (.ref pb),some (.ref xi.1),some (.ref R),some gv,some sv,v7,v8,v9,ai,aj,ak] /\
  ah H H3/\H3 R=some (.lst (gm B))/\B.length<=m/\(∀j,j∈B↔i<j/\j<i+1+m/\Good es u i j)/\((m=0/\gv=.bG)\/(0<m/\∃(U ps:af) (G S:Rat),gv=.ref U/\sv=.ref ps/\bI H3 U G (3*n+D+3)/\bI H3 ps S (3*n+D+3) /\
   (∀k,i<k->k<i+1+m->jc es u i k<=G/\S<=fQ es u i k)/\(∃k,i<k/\k<i+1+m/\jc es u i k=G)/\∃k,i<k/\k<i+1+m/\fQ es u i k=S))) ?_ ?_ ?_⟩
 ·exact ⟨[],.bG,.bG,none,none,none,none,none,none,rfl,s1,e1,lY _,λj=>⟨λz=>absurd z 0#t,λz=>absurd z 0#q⟩,.inl ⟨rfl,rfl⟩⟩
 ·rintro m σ H3 hm ⟨B,gv,sv,v7,v8,v9,ai,aj,ak,rfl,I,e3,as,Td,hI⟩
  refine ig λM Bk RR hM _ _=>?_
  have hp:i+1+m<es.length:=by try?
  obtain ⟨xp,gp,fp⟩:=cC (hR.up I) hS hp
  obtain ⟨vp,ep,ar,aU⟩:=id fp
  have ht:=gh fW (show i<i+1+m by try?) hp
  have ag:=I _ _ hl
  rw?
  apply dM ag (b8 gp 0#q) ?_
  apply dM ag (b8 gp 0#q) ?_
  apply dM ag (b8 gp 0#q) ?_
  apply ⟨xi.1,xp.1,_,_,_,_,n,n,n,rfl,(fi.up I).saq,fp.saq,ht,by try?,λY H4 s4 f4=>?_⟩
  apply ⟨vp,pb,_,_,n,D,rfl,(ar.up s4).qt,hb.up (I.trans s4),by try?,λy5 H5 s5 f5=>?_⟩
  refine aC (mk:=.tup) 0#t λy6 H6 s6 n6 e6=>?_
  have aN:=s4.trans (s5.trans s6)
  apply ⟨xi.1,y6,_,_,_,_,n,n+D+1,n,rfl,(fi.up (I.trans aN)).saq,⟨y5,e6,f5.up s6,aU⟩,ht,by try?,λZH H7 s7 f7=>?_⟩
  have Z9:=aN.trans s7
  apply ⟨vp,pb,_,_,n,D,rfl,(ar.up Z9).qt,hb.up (I.trans Z9),by try?,λy8 H8 s8 f8=>?_⟩
  refine aC (mk:=.tup) 0#t λy9 H9 s9 n9 e9=>?_
  have aT:=Z9.trans (s8.trans s9)
  refine ⟨xi.1,y9,_,_,_,_,n,n+D+1,n,rfl,(fi.up (I.trans aT)).saq,⟨y8,e9,f8.up s9,aU⟩,ht,by try?,λJ9 tT pH a8=>?_⟩
  have L:=aT.trans pH
  have Q2:=s8.trans (s9.trans pH)
  have Z:=L _ _ e3
  have Zt:bI tT ZH (jc es u i (i+1+m)) (3*n+D+3):=(f7.up Q2).mono 0#q
  have Py:bI tT J9 (fQ es u i (i+1+m)) (3*n+D+3):=a8.mono 0#q
  have ap:bI tT Y (slo es i (i+1+m)) (3*n+2):=(f4.up ((s5.trans (s6.trans s7)).trans Q2)).mono 0#q
  have an:((i:Int)+1+(m:Int))=((i+1+m:Nat):Int):=by try?
  rw?
  rcases hI with ⟨rfl,rfl⟩ | ⟨hm0,U,ps,G,S,rfl,rfl,hG,ae,ac,al,am⟩
  ·apply ⟨rfl,?_⟩
   apply bO ?_
   apply ⟨.inl ⟨rfl,_,bw.of Z⟩,?_⟩
   rw [an]
   apply eG Z (by rw [kQ];exact aY 0#q) ?_
   refine hM _ _ ⟨B++[i+1+0],_,_,_,_,_,_,_,_,rfl,bB (I.trans L) n1,by rw [au,<- sM],by rw [gA];show B.length+1<=1;try?,λj=>?_,.inr ⟨by try?,ZH,J9,_,_,rfl,rfl,Zt.app Z,Py.app Z,λk O h2=>?_,⟨i+1+0,by try?,by try?,rfl⟩,⟨i+1+0,by try?,by try?,rfl⟩⟩⟩
   ·have a9:B=[]:=RW.mp 0#q
    rw [a9]
    constructor
    ·intro z
     obtain rfl:j=i+1+0:=by simpa using z
     exact ⟨by try?,by try?,λk O h2=>by try?⟩
    ·rintro ⟨O,h2,_⟩
     have:j=i+1+0:=by try?
     simp [this]
   ·obtain rfl:k=i+1+0:=by try?
    exact ⟨ko,ko⟩
  ·apply ⟨rfl,?_⟩
   refine bF ?_
   have v:∀{P:Prop},(G<=slo es i (i+1+m)/\slo es i (i+1+m)<=S)=P->(Good es u i (i+1+m)↔P):=λe=>by
    rw [<- e]
    constructor
    ·intro g
     obtain ⟨k1,a1,b1,c1⟩:=al
     obtain ⟨k2,a2,b2,c2⟩:=am
     exact ⟨by rw [<- c1];exact ((zV fW a1 b1 hp).mp (g k1 a1 b1)).1,by rw [<- c2];exact ((zV fW a2 b2 hp).mp (g k2 a2 b2)).2⟩
    ·rintro ⟨g1,g2⟩ k O h2
     obtain ⟨l1,l2⟩:=ac k O h2
     exact (zV fW O h2 hp).mpr ⟨by grind,by grind⟩
   have keep:¬Good es u i (i+1+m)->∀j,j∈B↔i<j/\j<i+1+(m+1)/\Good es u i j:=λng j=>by
    rw [Td j]
    constructor
    ·rintro ⟨a,b,c⟩
     exact ⟨a,by try?,c⟩
    ·rintro ⟨a,b,c⟩
     refine ⟨a,?_,c⟩
     by_cases hj:j=i+1+m
     ·subst hj
      exact absurd c ng
     ·try?
   have aH:Good es u i (i+1+m)->∀j,j∈B++[i+1+m]↔i<j/\j<i+1+(m+1)/\Good es u i j:=λg j=>by
    rw [iw,Td j,Ic]
    constructor
    ·rintro (⟨a,b,c⟩ | rfl)
     ·exact ⟨a,by try?,c⟩
     ·exact ⟨by try?,by try?,g⟩
    ·rintro ⟨a,b,c⟩
     by_cases hj:j=i+1+m
     ·exact .inr hj
     ·exact .inl ⟨a,by try?,c⟩
   with_reducible refine QV ?_
   with_reducible refine iB (λa5 H'=>∃OC:List Nat,a5=[some (.ref l),some (.int (i:Int)),some (.ref pb),some (.ref xi.1),some (.ref R),some (.ref U),some (.ref ps),some (.int ((i:Int)+1+(m:Int))),some (.int (mo es (i+1+m))),some (.ref vp),some (.ref Y),some (.ref ZH),some (.ref J9)]/\ah H H'/\(∀{p:af} {q:Rat},bI tT p q (3*n+D+3)->bI H' p q (3*n+D+3))/\H' R=some (.lst (gm OC))/\OC.length<=m+1/\∀j,j∈OC↔i<j/\j<i+1+(m+1)/\Good es u i j) (λa5 H' hP=>?_) (λN hN=>?_)
   rotate_left
   ·rw?
    refine ⟨U,Y,_,_,_,_,rfl,hG.up L,ap,by try?,λo OA ho2=>?_⟩
    have no:¬Good es u i (i+1+m)->N _ tT:=λng=>hN _ _ ⟨B,rfl,I.trans L,λf=>f,Z,by try?,keep ng⟩
    rw?
    refine c7 (λc1=>?_) (λc1=>?_)
    ·have B9:G<=slo es i (i+1+m):=iI.mp λz=>by
      have:=OA.mpr z
      have:=dF c1
      try?
     rw?
     apply ⟨Y,ps,_,_,_,_,rfl,ap,ae.up L,by try?,λo2 aw ho4=>?_⟩
     refine c7 (λc2=>?_) (λc2=>?_)
     ·have TH:slo es i (i+1+m)<=S:=iI.mp λz=>by
       have:=aw.mpr z
       have:=dF c2
       try?
      rw?
      apply ⟨.inl ⟨rfl,_,bw.of Z⟩,?_⟩
      refine eG Z (by rw [kQ];exact aY 0#q) ?_
      exact hN _ _ ⟨B++[i+1+m],rfl,bB (I.trans L) n1,λf=>f.app Z,by rw [au,an,<- sM],by rw [gA];show B.length+1<=m+1;try?,aH ((v rfl).mpr ⟨B9,TH⟩)⟩
     ·rw?
      refine no λg=>?_
      have O:¬0<o2:=λq=>by
       have:=aw.mp q
       have:=((v rfl).mp g).2
       grind
      have h2:=kh (ki.mpr c2)
      try?
    ·apply bF ?_
     refine no λg=>?_
     have O:¬0<o:=λq=>by
      have:=OA.mp q
      have:=((v rfl).mp g).1
      grind
     have h2:=kh (ki.mpr c1)
     try?
   obtain ⟨OC,rfl,sH,lq,a7,ba,a6⟩:=hP
   rw?
   apply aC (mk:=.lst) 0#t λbb H12 J n12 Ys=>?_
   refine ⟨bb,[(U,G),(ZH,jc es u i (i+1+m))],3*n+D+3,rfl,Ys,λx hx=>?_,by try?,SJ _,λx hx pN=>?_⟩
   ·rcases (show x=(U,G)\/x=(ZH,jc es u i (i+1+m)) by simpa using hx) with rfl | rfl
    ·exact (lq (hG.up L)).up J
    ·exact (lq Zt).up J
   rw?
   apply aC (mk:=.lst) 0#t λbc H13 EX n13 TU=>?_
   refine ⟨bc,[(ps,S),(J9,fQ es u i (i+1+m))],3*n+D+3,rfl,TU,λy hy=>?_,by try?,SJ _,λy hy ad=>?_⟩
   ·rcases (show y=(ps,S)\/y=(J9,fQ es u i (i+1+m)) by simpa using hy) with rfl | rfl
    ·exact (lq (ae.up L)).up (J.trans EX)
    ·exact (lq Py).up (J.trans EX)
   rw?
   have Dq:=J.trans EX
   have ax:(x=(U,G)\/x=(ZH,jc es u i (i+1+m))):=by simpa using hx
   have ay:(y=(ps,S)\/y=(J9,fQ es u i (i+1+m))):=by simpa using hy
   have x1:=pN (U,G) 0#t
   have x2:=pN (ZH,jc es u i (i+1+m)) 0#t
   have y1:=ad (ps,S) 0#t
   have y2:=ad (J9,fQ es u i (i+1+m)) 0#t
   refine hM _ _ ⟨OC,_,_,_,_,_,_,_,_,rfl,sH.trans Dq,Dq _ _ a7,ba,a6,.inr ⟨by try?,x.1,y.1,x.2,y.2,rfl,rfl,?_,?_,λk O h2=>?_,?_,?_⟩⟩
   ·rcases ax with rfl | rfl
    ·exact (lq (hG.up L)).up Dq
    ·exact (lq Zt).up Dq
   ·rcases ay with rfl | rfl
    ·exact (lq (ae.up L)).up Dq
    ·exact (lq Py).up Dq
   ·by_cases hk:k=i+1+m
    ·subst hk
     exact ⟨x2,y2⟩
    ·obtain ⟨l1,l2⟩:=ac k O 0#q
     exact ⟨yz l1 x1,yz y1 l2⟩
   ·rcases ax with rfl | rfl
    ·obtain ⟨k1,a1,b1,c1⟩:=al
     exact ⟨k1,a1,by try?,c1⟩
    ·exact ⟨i+1+m,by try?,by try?,rfl⟩
   ·rcases ay with rfl | rfl
    ·obtain ⟨k1,a1,b1,c1⟩:=am
     exact ⟨k1,a1,by try?,c1⟩
    ·exact ⟨i+1+m,by try?,by try?,rfl⟩
 ·rintro σ H3 ⟨B,gv,sv,v7,v8,v9,ai,aj,ak,rfl,I,e3,as,Td,hI⟩
  rw?
  have a':B.length<=es.length:=by
   clear hI Td
   try?
  refine k R B H3 I n1 e3 a' λj=>?_
  rw [Td j]
  have e:i+1+((es.length:Int)-((i:Int)+1)).toNat=es.length:=by
   clear hI Td
   try?
  rw [e]
def uO:dB 3 [aQ,aL,"tied",cI,cj,"good"] E1:=0#p
def Qg (F:dS K "leaps" E1 f fd) (T:Txt mg) (mO:0#c 4 "good_behind" [aQ,cj,aL] FD):0#b 5 f fd [aQ,aL,"tied"] FG:=-by
 refine F.dm uO 0#a
 obtain ⟨l,pb,es,n,nb,β,L,rfl,hl,hR,hS,fW,jZ,hb,hn,ak,k⟩:=h
 apply bx ⟨_,(ao (aM 3 uO.nd (dU fZ)) (ao (gQ jd rfl (Jd.iM rfl T.range (c9 (ju K T.jv 0#w))) (c8 (i:=4) uO.nd rfl (Or.inl rfl)) (ao (aM 5 uO.nd (Jd.c3 mO hr 0#w (aa 4) 0#C)) (aF (gc (fB K (aa 3) (uu (iW (aa 2)) (aa 5) (aI JW (dU (c9 (aI cE (aa 4) aA))) (pG (O:=[cy]) (N':=[]) (cap:=[]) rfl (j0 K (aa 5)) (λ_ _ _ _ _=>(c8 (i:=0) (show jR [("last":Str)] by decide +kernel) rfl (Or.inl rfl))) (λ_ _ _ _ _=>ly) (λ_ _ _ _ _=>(aI cE 0#w aA)) rfl trivial rfl 0#u rfl 0#u)))) (hs:=fH))))) (aF (aS (aa 3))))),?_⟩
 apply aC (mk:=.lst) 0#t λB H1 s1 n1 e1=>?_
 apply iZ (AO ?_)
 refine dN (.inl (bw.of (s1 _ _ hl))) ?_
 rw [aP]
 rw?
 refine ⟨_,rfl,by lia,by lia,iK (λm σ H3=>VB λ(v:List (af×List Nat)) (v4 v5:Option V)=>σ=[some (.ref l),some (.ref pb),some (.bl L),some (.ref B),v4,v5]/\ah H H3/\OJ H3 B v/\v.length=m/\zE es β L v) ?_ ?_ ?_⟩
 ·exact ⟨[],none,none,rfl,s1,⟨e1,λx p=>absurd p 0#t⟩,rfl,λi x p=>by simp at p⟩
 ·rintro m σ H3 hm ⟨v,v4,v5,rfl,s3,hL,I,S⟩
  have U:m<es.length:=by try?
  rw [show (0:Int)+(m:Int)=(m:Int) by try?]
  rw?
  refine ⟨l,pb,es,m,n,nb,β,rfl,s3 _ _ hl,hR.up s3,hS,fW,U,jZ,hb.up s3,hn,ak,λR Y H4 s4 nR eR hjl Td=>?_⟩
  have yG:=hL.up s4
  have am:R≠B:=λz=>by
   rw [z,hL.at_] at nR
   cases nR
  have small:(v.map λx=>V.ref x.1).length<sizeLine:=by rw [iR];exact aY 0#q
    -- one list more
  have ac:∀(J:af) (OC:List Nat) (H5:Hp) (v4 v5:Option V),ah H4 H5->H5 J=some (.lst (gm OC))->J≠B->OC.length<=es.length+1->(∀j,j∈OC↔lu es β L m j) ->
   VB λ(Z:List (af×List Nat)) (w4 w5:Option V)=>[some (.ref l),some (.ref pb),some (.bl L),some (.ref B),v4,v5]=[some (.ref l),some (.ref pb),some (.bl L),some (.ref B),w4,w5]/\ah H (upd H5 B (.lst (v.map (λx=>V.ref x.1)++[.ref J])))/\OJ (upd H5 B (.lst (v.map (λx=>V.ref x.1)++[.ref J]))) B Z/\Z.length=m+1/\zE es β L Z:=by
   intro J OC H5 v4 v5 s5 ag al aj M
   refine ⟨v++[(J,OC)],v4,v5,rfl,bB ((s3.trans s4).trans s5) n1,(yG.up s5).push ag al,by rw [gA,I];rfl,λi x p=>?_⟩
   by_cases hi:i<v.length
   ·rw [B4 hi] at p
    exact S i x p
   ·rw [F9 0#q] at p
    have ai:i-v.length=0:=by
     have:=(kM.mp p).1
     simp at this
     try?
    rw [ai] at p
    obtain rfl:(J,OC)=x:=by simpa using p
    have:i=m:=by try?
    subst this
    exact ⟨aj,M⟩
  rw?
  apply ⟨.inl ⟨rfl,_,bw.of yG.at_⟩,?_⟩
  cases L with
  | true=>
    apply bO ?_
    refine eG yG.at_ small ?_
    exact ac R Y H4 _ _ (ah.refl _) eR am 0#q λj=>by
     unfold lu
     rw [if_pos rfl]
     exact Td j
  | false=>
    apply bF ?_
    apply aC (mk:=.lst) 0#t λl5 H5 s5 n5 e5=>?_
    apply kJ ?_
    refine ⟨R,rfl,⟨_,bw.of (s5 _ _ eR)⟩,?_⟩
    refine di (xs:=gm Y) cQ (λH6 s6=>bw.of (s6 _ _ (s5 _ _ eR))) (by rw [kQ];try?) (λi ys G=>ys=gm ((Y.take i).map (·+1))) rfl ?_ ?_
    ·rintro D i x ys H6 jT N N0 h0 hD eD s6 p hy rfl kY kN
     obtain ⟨j,gj,rfl⟩:=Hq p
     have tk:Y.take (i+1)=Y.take i++[j]:=by rw [qT,gj];rfl
     apply jx h0 ?_
     apply bO ?_
     refine kY _ H6 (ah.refl _) ?_
     rw [tk,gw]
     exact sM _ (j+1)
    ·rintro D ys H6 hD eD s6 hy rfl
     rw [kQ,pP] at eD
     refine QM (s6 _ _ e5) eD ?_
     refine aC (mk:=.lst) (by rw [gA,kQ,iR];simp;try?) λR7 H7 s7 n7 e7=>?_
     have ad:=s5.trans (s6.trans s7)
     have ae:H7 R7=some (.lst (gm ((m+1)::Y.map (·+1)))):=e7
     rw?
     refine eG (yG.up ad).at_ small ?_
     refine ac R7 ((m+1)::Y.map (·+1)) H7 _ _ ad ae (λz=>?_) (by simp;try?) λj=>?_
     ·rw [z,((yG.up s5).up s6).at_] at n7
      cases n7
     ·unfold lu
      rw [if_neg nv,jG,lV]
      constructor
      ·rintro (rfl | ⟨j',M,rfl⟩)
       ·exact ⟨U,.inl rfl⟩
       ·obtain ⟨a,b,c⟩:=(Td j').mp M
        exact ⟨U,.inr ⟨by try?,by try?,c⟩⟩
      ·rintro ⟨_,rfl | ⟨a,b,c⟩⟩
       ·exact .inl rfl
       ·exact .inr ⟨j-1,(Td (j-1)).mpr ⟨by try?,by try?,c⟩,by try?⟩
 ·rintro σ H3 ⟨v,v4,v5,rfl,s3,hL,I,S⟩
  rw?
  exact k B v H3 s3 n1 hL 0#q S
def ab5 (N:Nat) (h:1<=N):[V.int 0]++(nj ((N:Int)-1).toNat [V.int (N:Int)]).flatten=nJ N (λj=>if j=0 then 0 else (N:Int)):=-by
 obtain ⟨m,rfl⟩:∃m,N=m+1:=⟨N-1,by try?⟩
 have e:(((m+1:Nat):Int)-1).toNat=m:=by try?
 rw [e]
 unfold nJ
 first|exact WZ|refine WZ ?_|refine WZ ?_ ?_
 intro i
 by_cases hi:i<m+1
 ·rw [uB hi]
  cases i with
  | zero=>rfl
  | succ i=>
    show ((nj m [V.int ((m+1:Nat):Int)]).flatten)[i]?=_
    rw [show (nj m [V.int ((m+1:Nat):Int)]).flatten=nj m (V.int ((m+1:Nat):Int)) from List.flatten_replicate_singleton]
    rw [RU,if_pos 0#q]
    rfl
 ·rw [WC (by rw [gA,len_rep];simp;try?),WC (by simp;try?)]
def i7:dB 2 [cI,"many","told",cj,"behind",cy] qz:=0#p
def Ew (F:dS K "labels_by" qz f fd) (T:Txt mg):0#b 1 f fd [cI,"many"] yU:=-by
 refine F.dm i7 0#a
 obtain ⟨FF,rs,N,L,rfl,hF,h1,jZ,hNr,hrN,ad,YZ,hs,k⟩:=h
 apply bx ⟨_,(ao (aM 2 i7.nd (aI JW (dU (c9 aA)) (aI ZF (dU (c9 0#C)) (aI cF 0#C aA)))) (ao (gQ jd rfl (Jd.yL K rfl T.zO (c9 0#w)) (Jd.UW K (n:=2) rfl (lz (c8 (i:=3) i7.nd rfl (Or.inl rfl)) (lz (c8 (i:=4) i7.nd rfl (Or.inl rfl)) Jd.kH))) (aF (gQ jd rfl (j0 K (aa 4)) (c8 (i:=5) i7.nd rfl (Or.inl rfl)) (aF (Jd.Ka (fD (Zx rfl) rfl T.Zy R5 (br (bV (iQ K) (aa 2) (aa 5) 0#z) (aI cE (bV (iQ K) (aa 2) (aa 3) 0#z) aA)) (he:=BH) (hpl:=(cV Rp cD))) (Jd.J7 (aa 2) (aa 5) set_list)))))) (aF (aS (aa 2))))),?_⟩
 apply aC (mk:=.lst) 0#t λl1 H1 s1 n1 e1=>?_
 apply aC (mk:=.lst) 0#t λl2 H2 s2 n2 e2=>?_
 refine abL e2 0#r 0#r ?_
 apply aC (mk:=.lst) (by rw [len_rep];simp;try?) λl3 H3 s3 n3 e3=>?_
 refine QM (s3 _ _ (s2 _ _ e1)) e3 ?_
 refine aC (mk:=.lst) (by rw [gA,len_rep];simp;try?) λR H4 s4 n4 e4=>?_
 rw [ab5 N h1] at e4
 have pR:=s1.trans (s2.trans s3)
 have nR:H R=none:=pR.free n4
 have Dp:=pR.trans s4
 rw?
 apply iZ (QU ?_)
 refine ⟨FF,_,rfl,bw.of (hF.up Dp).at_,O8 (xs:=rs.map λx=>V.ref x.1) (λg G I=>Yi λ(t:Nat->Int) (v3 v4 v5:Option V)=>G=[some (.ref FF),some (.int (N:Int)),some (.ref R),v3,v4,v5]/\ah H I/\I R=some (.lst (nJ N t))/\oJ L N g t) ?_ ?_ ?_ ?_⟩
 ·exact ⟨_,none,none,none,rfl,Dp,e4,oJ.start⟩
 ·rintro g G I _ ⟨t,v3,v4,v5,rfl,Z,_⟩
  exact bw.of (hF.up Z).at_
 ·rintro g v G I p H6 hx ⟨t,v3,v4,v5,rfl,Z,e5,J⟩ s6 np ep
  rw [lZ] at hx
  obtain ⟨x,gx,rfl⟩:=ID.mp hx
  have hg:g<rs.length:=(kM.mp gx).1
  have B:g<N:=by try?
  have D:=ad g x gx
  have ex:=(hF.each x (nk gx)).1
  have CH:=Z.trans s6
  have tf0:=J.lo g B
  have tf1:=J.hi g B
  apply N5 ep ?_
  apply iZ (kJ ?_)
  refine ⟨x.1,rfl,⟨_,bw.of (CH _ _ ex)⟩,fu (xs:=gm x.2) (λm G S=>Tu λ(u:Nat->Int) (w5:Option V)=>G=[some (.ref FF),some (.int (N:Int)),some (.ref R),some (.int (g:Int)),some (.ref x.1),w5]/\ah H S/\S R=some (.lst (nJ N u)) /\
   ∀j,j<N->(j∈x.2.take m->u j=if t g+1<t j then t g+1 else t j)/\(j∉x.2.take m->u j=t j)) ?_ ?_ ?_ ?_⟩
  ·exact ⟨t,_,rfl,CH,s6 _ _ e5,λj _=>⟨λz=>by simp at z,λ_=>rfl⟩⟩
  ·rintro m G S _ ⟨u,w5,rfl,s7,_⟩
   exact bw.of (s7 _ _ ex)
  ·rintro m v G S hv ⟨u,w5,rfl,s7,e7,O⟩
   obtain ⟨j,gj,rfl⟩:=Hq hv
   have M:=(D j).mp (nk gj)
   obtain ⟨hgj,ac⟩:=YZ g j M
   have tk:x.2.take (m+1)=x.2.take m++[j]:=by rw [qT,gj];rfl
   have ng:g∉x.2.take m:=λz=>by
    have:=YZ g g ((D g).mp (WH z))
    try?
   have ug:=(O g B).2 ng
   rw?
   apply abz ?_
   apply dM e7 (nG ac rfl) ?_
   apply dM e7 (nG B rfl) ?_
   refine Z2 e7 (j:=j) (by rw [rg];exact PJ 0#q 0#q) ?_
   refine ⟨λi=>if i=j then (if u g+1<u j then u g+1 else u j) else u i,_,rfl,bB s7 nR,?_,λi hi=>?_⟩
   ·rw [au]
    unfold nJ
    rw [Cv]
    refine congrArg (λz=>some (HO.lst z)) (List.map_congr_left λi _=>?_)
    by_cases e:i=j
    ·simp [e]
    ·simp [e]
   ·rw [tk,ug]
    obtain ⟨U,Y⟩:=O i hi
    refine ⟨λz=>?_,λz=>?_⟩
    ·by_cases e:i=j
     ·subst e
      show (if i=i then _ else _)=_
      rw [if_pos rfl]
      by_cases hm:i∈x.2.take m
      ·rw [U hm]
       by_cases q:t g+1<t i
       ·rw [if_pos q,if_neg 0#q]
       ·rw [if_neg q,if_neg q]
      ·rw [Y hm]
     ·show (if i=j then _ else _)=_
      rw [if_neg e]
      rcases iw.mp z with q | q
      ·exact U q
      ·exact absurd (by simpa using q) e
    ·have e:i≠j:=λq=>z (by rw [q];simp)
     show (if i=j then _ else _)=_
     rw [if_neg e]
     exact Y λq=>z (HX _ q)
  ·rintro G S ⟨u,w5,rfl,s7,e7,O⟩
   rw [kQ,pP] at O
   refine ⟨u,_,_,_,rfl,s7,e7,J.step (λj M=>(YZ g j M).1) (λj M=>⟨λz=>(O j M).1 ((D j).mpr z),λz=>(O j M).2 λq=>z ((D j).mp q)⟩) B⟩
 ·rintro G I ⟨t,v3,v4,v5,rfl,Z,e5,J⟩
  rw [iR] at J
  rw?
  exact k R t I Z nR e5 (J.done hs 0#q)
def cL (aT:Bool):Nat:=if aT=true then 0 else 1
def vF (hk:k<a) (ha:a<es.length+cL aT):lu es β aT k a↔Good es β k (a-cL aT):=-by
 unfold lu cL at *
 cases aT with
 | true=>
   rw [if_pos rfl] at ha ⊢
   rw [if_pos rfl]
   exact ⟨λz=>z.2.2,λz=>⟨hk,by try?,z⟩⟩
 | false=>
   rw [if_neg nv] at ha ⊢
   rw [if_neg nv]
   constructor
   ·rintro ⟨_,rfl | ⟨_,_,g⟩⟩
    ·exact λk' h1 h2=>by try?
    ·exact g
   ·intro g
    refine ⟨by try?,?_⟩
    by_cases e:a=k+1
    ·exact .inl e
    ·exact .inr ⟨by try?,by try?,g⟩
def PK (hF:xR (lu es β aT) (es.length+cL aT) t) (hij:i<j) (hj:j<es.length+cL aT) (aex:t j>t i+1):i+1<j-cL aT/\j-cL aT<es.length/\∃k,i<k/\k<j-cL aT/\β<cG (sd es i k (j-cL aT)):=-by
 have hsh:cL aT<=1:=by unfold cL;split <;> try?
 have n:¬lu es β aT i j:=λz=>by
  have:=hF.le i j hij hj z
  try?
 rw [vF hij hj] at n
 have:∃k,i<k/\k<j-cL aT/\β<cG (sd es i k (j-cL aT)):=by
  first|exact S5|refine S5 ?_|refine S5 ?_ ?_
  intro z
  first|exact n|refine n ?_|refine n ?_ ?_
  intro k p u
  first|exact iI.mp|refine iI.mp ?_|refine iI.mp ?_ ?_
  intro q
  exact z ⟨k,p,u,q⟩
 obtain ⟨k,p,u,v⟩:=this
 exact ⟨by try?,by try?,k,p,u,v⟩
inductive Br (vs:List V) (H:Hp) (Q:VK) (E_:XK):Prop where
 | mk (l T:af) (es:0#f) (n:Nat) (β:Rat) (aT:Bool) (t:Nat->Int):vs=[.ref l,.ref T,.bl aT]->H l=some 0#D->Row H es n->jN es->rising es->1<=es.length->es.length<=30->n<=900->H T=some (.lst (nJ (es.length+cL aT) t))->xR (lu es β aT) (es.length+cL aT) t->(∀(R:af) (H':Hp),ah H H'->Q (.ref R) H')->Br vs H Q E_
def jC:dB 3 [aQ,"told","tied",cI,cj,cy,"end","mid"] vX:=0#p
def JM (F:dS K "bars_by" vX f fd) (T:Txt mg) (jl:0#c 4 "loose_farthest" [aQ,cj,cy] KR):0#b 5 f fd [aQ,"told","tied"] Br:=-by
 refine F.dm jC 0#a
 obtain ⟨l,TT,es,n,β,B,t,rfl,hl,hR,hS,fW,h1,h30,hn,eT,hF,k⟩:=h
 have hsh:cL B<=1:=by unfold cL;split <;> try?
 generalize O:es.length+cL B=N at *
 apply bx ⟨_,(ao (aM 3 jC.nd (dU fZ)) (ao (gQ jd rfl (Jd.iM rfl T.range (c9 (ju K T.jv 0#C))) (c8 (i:=4) jC.nd rfl (Or.inl rfl)) (aF (gQ jd rfl (Jd.nV rfl T.range (br (aI cE (aa 4) aA) (ju K T.jv 0#C))) (c8 (i:=5) jC.nd rfl (Or.inl rfl)) (aF (bU (bC fF (bV (iQ K) 0#C (aa 5) 0#z) (aI cE (bV (iQ K) 0#C (aa 4) 0#z) aA) (aD _)) (ao (aM 6 jC.nd (uu (iW (aa 2)) (aa 5) (aI cF (aa 5) aA))) (ao (aM 7 jC.nd (aB K (Jd.c3 jl hr 0#w (aa 4) (aa 6)))) (aF (gc (fB K (aa 3) (bu (Jd.a3 (aB K (bV (iQ K) 0#w (aa 4) 0#z)) (aB K (bV (iQ K) 0#w (aa 7) 0#z)) (aB K (bV (iQ K) 0#w (aa 6) 0#z))))) (hs:=fH))))) bY))))) (aF (aS (aa 3))))),?_⟩
 apply aC (mk:=.lst) 0#t λR H1 s1 n1 e1=>?_
 apply iZ (AO ?_)
 refine dN (.inl (bw.of (s1 _ _ eT))) ?_
 rw [rg]
 rw?
 refine ⟨_,rfl,by lia,by lia,iK (λi G I=>Xs5 λ(U:0#m) (v4 v5 v6 v7:Option V)=>G=[some (.ref l),some (.ref TT),some (.bl B),some (.ref R),v4,v5,v6,v7]/\ah H I/\I R=some (.lst U)/\U.length<=31*i) ?_ ?_ ?_⟩
 ·exact ⟨[],none,none,none,none,rfl,s1,e1,d8 _⟩
 ·rintro i G I hi ⟨U,v4,v5,v6,v7,rfl,s3,e3,S⟩
  refine ig λM Bk RR hM _ _=>?_
  have ad:i<N:=by try?
  rw [show (0:Int)+(i:Int)=(i:Int) by try?]
  rw?
  apply iZ (Kl ?_)
  refine dN (.inl (bw.of (s3 _ _ eT))) ?_
  rw [rg]
  rw?
  refine ⟨_,_,rfl,⟨by lia,by lia,by lia,by lia⟩,iK (λm G J=>Yi λ(D:0#m) (w5 w6 w7:Option V)=>G=[some (.ref l),some (.ref TT),some (.bl B),some (.ref R),some (.int (i:Int)),w5,w6,w7]/\ah H J/\J R=some (.lst D)/\D.length<=31*i+m) ?_ ?_ ?_⟩
  ·exact ⟨U,_,_,_,rfl,s3,e3,S⟩
  ·rintro m G J hm ⟨D,w5,w6,w7,rfl,u,e4,ae⟩
   refine ig λM2 B2 R2 L _ _=>?_
   have hp:i+1+m<N:=by try?
   rw [show (i:Int)+1+(m:Int)=((i+1+m:Nat):Int) by try?]
   have TX:=u _ _ eT
   have Z:=u _ _ hl
   rw?
   apply dM TX (nG hp rfl) ?_
   apply dM TX (nG ad rfl) ?_
   refine c7 (λc1=>?_) (λc1=>?_)
   ·have B9:t (i+1+m)>t i+1:=dF c1
    obtain ⟨q1,q2,_⟩:=PK (by rw [O];exact hF) (show i<i+1+m by try?) (by rw [O];exact hp) B9
    obtain ⟨xi,gi,vi,ei,_⟩:=cC (hR.up u) hS (show i<es.length by try?)
    obtain ⟨xj,gj,vj,ej,_⟩:=cC (hR.up u) hS q2
    with_reducible refine iB (λY H'=>Y=[some (.ref l),some (.ref TT),some (.bl B),some (.ref R),some (.int (i:Int)),some (.int ((i+1+m:Nat):Int)),some (.int ((i+1+m-cL B:Nat):Int)),w7]/\J=H') (λY H' hP=>?_) (λN O=>?_)
    rotate_left
    ·rw?
     cases B with
     | true=>
       apply bO ?_
       exact O _ _ ⟨rfl,rfl⟩
     | false=>
       apply bF ?_
       rw [show ((i+1+m:Nat):Int)-1=((i+1+m-cL false:Nat):Int) by (have:cL false=1:=rfl);try?]
       exact O _ _ ⟨rfl,rfl⟩
    obtain ⟨rfl,rfl⟩:=hP
    rw?
    refine ⟨l,es,i,i+1+m-cL B,n,rfl,Z,hR.up u,hS,fW,by try?,q2,by try?,hn,λz=>absurd z 0#q,λ_ z p kk H5 v e5 f5 ac=>?_⟩
    obtain ⟨xk,gk,vk,ek,_⟩:=cC (hR.up (u.trans v)) hS (show kk<es.length by have:=ac.hi;try?)
    have ei5:=v _ _ ei
    have ej5:=v _ _ ej
    rw?
    apply ⟨.inl ⟨rfl,_,bw.of (v _ _ e4)⟩,?_⟩
    apply dM (v _ _ Z) (b8 gi rfl) ?_
    apply dM (v _ _ Z) (b8 gk rfl) ?_
    apply dM (v _ _ Z) (b8 gj rfl) ?_
    apply aC (mk:=.tup) 0#t λy H6 s6 n6 e6=>?_
    refine eG ((v.trans s6) _ _ e4) (aY 0#r) ?_
    exact L _ _ ⟨D++[.ref y],_,_,_,rfl,bB (u.trans (v.trans s6)) n1,au,by rw [gA,IE];simp?⟩
   ·rw?
    exact L _ _ ⟨D,_,_,_,rfl,u,e4,by simp?⟩
  ·rintro G J ⟨D,w5,w6,w7,rfl,u,e4,ae⟩
   exact hM _ _ ⟨D,_,_,_,_,rfl,u,e4,by simp?⟩
 ·rintro G I ⟨U,v4,v5,v6,v7,rfl,s3,e3,S⟩
  rw?
  exact k R I s3
def qb {α β:Type} (R:α->β->Prop):List α->List β->Prop
 | [],[]=>True
 | a::as,b::bs=>R a b/\qb R as bs
 | _,_=>False
def oK:∀{as:List α} {bs:List β},qb R as bs->R a b->qb R (as++[a]) (bs++[b])
 | [],[],_,r=>⟨r,trivial⟩
 | _::_,_::_,h,r=>⟨h.1,oK h.2 r⟩
 | [],_::_,h,_=>h.elim
 | _::_,[],h,_=>h.elim
def rf:∀{as:List α} {bs:List β},(∀a b,a∈as->R a b->S a b)->qb R as bs->qb S as bs
 | [],[],_,_=>trivial
 | _::_,_::_,u,r=>⟨u _ _ 0#t r.1,rf (λa b ha=>u a b (by simp [ha])) r.2⟩
 | [],_::_,_,r=>r.elim
 | _::_,[],_,r=>r.elim
def rA:∀(i:Nat) (r:List α),r∈parts s es i->r≠[]/\(∀x∈r,s x=true)/\r.Sublist (es.take i)
 | 0,r,h=>absurd h (by simp [parts])
 | i+1,r,h=>by
   have ih:=rA (s:=s) (es:=es) i
   have up:∀r:List α,r.Sublist (es.take i)->r.Sublist (es.take (i+1)):=λr q=>q.trans (List.take_sublist_take_left (Iz _))
   unfold parts at h
   cases e:es[i]? with
   | none=>rw [e] at h;exact ⟨(ih r h).1,(ih r h).2.1,up r (ih r h).2.2⟩
   | some y=>
     rw [e] at h
     have tk:es.take (i+1)=es.take i++[y]:=by rw [qT,e];rfl
     dsimp only at h
     split at h
     ·rename_i hs
      split at h
      ·rename_i hr
       obtain ⟨t,r',hp⟩:=AD hr
       have hm:r'∈parts s es i:=by rw [hp];simp
       have hgl:(parts s es i).getLast?.getD []=r':=by rw [hp];simp
       rcases iw.mp h with z | z
       ·have q:=ih r (List.dropLast_sublist _ |>.subset z)
        exact ⟨q.1,q.2.1,up r q.2.2⟩
       ·obtain rfl:r=((parts s es i).getLast?.getD [])++[y]:=by simpa using z
        rw [hgl]
        refine ⟨by simp,λx hx=>?_,by rw [tk];exact acZ (ih r' hm).2.2 (ac5 _)⟩
        rcases iw.mp hx with q | q
        ·exact (ih r' hm).2.1 x q
        ·obtain rfl:x=y:=by simpa using q
         exact hs
      ·rcases iw.mp h with z | z
       ·exact ⟨(ih r z).1,(ih r z).2.1,up r (ih r z).2.2⟩
       ·obtain rfl:r=[y]:=by simpa using z
        refine ⟨by simp,λx hx=>?_,by rw [tk];exact List.sublist_append_right _ _⟩
        obtain rfl:x=y:=by simpa using hx
        exact hs
     ·exact ⟨(ih r h).1,(ih r h).2.1,up r (ih r h).2.2⟩
abbrev Pc:=af×(Rat×Rat×Rat×Rat)
def zG (H:Hp) (x:Pc) (n:Nat):Prop:=∃a b c d:af,H x.1=some (.tup [.ref a,.ref b,.ref c,.ref d])/\bP H a x.2.1 n/\bP H b x.2.2.1 n/\bP H c x.2.2.2.1 n/\bP H d x.2.2.2.2 n
def zG.mv (t:0#e) (f:zG H x n):zG H' x n:=-by
 obtain ⟨a,b,c,d,e,p,u,v,z⟩:=f
 have m:∀{b:af} {q:Rat},bP H b q n->bP H' b q n:=λf=>let ⟨x,d,e,f⟩:=f;⟨x,d,t e,f⟩
 exact ⟨a,b,c,d,t e,m p,m u,m v,m z⟩
def zG.up (f:zG H x n) (s:ah H H'):zG H' x n:=f.mv λe=>s _ _ e
noncomputable def lD (ps:List Pc):0#m:=ps.map λx=>V.ref x.1
def Dg (ps:List Pc):(lD ps).length=ps.length:=iR ..
def AllP (H:Hp) (ps:List Pc) (n:Nat):Prop:=∀x∈ps,zG H x n
def AllP.up (h:AllP H ps n) (s:ah H H'):AllP H' ps n:=λx hx=>(h x hx).up s
def AllP.app (h:AllP H ps n) (e:H R=some (.lst ys)):AllP (upd H R o) ps n:=λx hx=>(h x hx).mv λ{b xs} z=>by
 rw [aJ (λq=>by rw [q,e] at z;cases z)]
 exact z
def AllP.append (h:AllP H ps n) (h':AllP H qs n):AllP H (ps++qs) n:=λx hx=>by
 rcases iw.mp hx with z | z
 ·exact h x z
 ·exact h' x z
def RP (Pv:St->Hp->Prop) (μ:St->Hp->Nat) (h0:Pv σ H)
 (hs:∀σ H,Pv σ H->∀R:Bool->Hp->Prop,(∀H1,(∀M:St->Hp->Prop,(∀σ' H',Pv σ' H'->μ σ' H'<μ σ H->M σ' H')->tb { D with nx:=M,ct:=M,bk:=D.nx } σ H1)->R true H1)->(∀H1,D.nx σ H1->R false H1)->c σ H R):BJ c tb D σ H:=-by
 refine ⟨λm σ H=>m=μ σ H/\Pv σ H,⟨_,rfl,h0⟩,?_⟩
 rintro m σ H ⟨rfl,p⟩
 refine hs σ H p _ (λH1 q=>?_) (λH1 q=>?_)
 ·rw [if_pos rfl]
  exact ⟨λσ' H'=>Pv σ' H'/\μ σ' H'<μ σ H,λσ' H' ⟨n,l⟩=>⟨_,l,rfl,n⟩,q _ λ_ _ a b=>⟨a,b⟩⟩
 ·rw [if_neg nv]
  exact q
def aaw (L:Nat->Nat->Prop) (t:Nat->Int) (a p:Nat):Prop:=a<p/\L a p/\t a+1=t p/\∀k,k<a->¬(L k p/\t k+1=t p)
inductive Way (L:Nat->Nat->Prop) (t:Nat->Int):Nat->List (Nat×Nat)->Prop
 | nil:Way L t 0 []
 | cons {a p:Nat} {ps:List (Nat×Nat)}:aaw L t a p->Way L t a ps->Way L t p (ps++[(a,p)])
def Way.lt (h:Way L t p ps):∀x∈ps,x.1<x.2/\x.2<=p:=-by
 induction h with
 | nil=>intro x n;exact absurd n 0#t
 | @cons a p ps f w ih=>
   intro x n
   rcases iw.mp n with z | z
   ·have:=ih x z
    have:=f.1
    try?
   ·obtain rfl:x=(a,p):=by simpa using z
    exact ⟨f.1,d8 _⟩
def Way.len (h:Way L t p ps):ps.length<=p:=-by
 induction h with
 | nil=>exact d8 _
 | cons f w ih=>
   rw [gA,IE]
   have:=f.1
   try?
def T3 (h:xR L N t) (h':xR L N t'):∀j,j<N->t j=t' j:=-by
 intro j
 induction j using Nat.strongRecOn with
 | ind j ih=>
   intro n
   by_cases h0:j=0
   ·subst h0
    rw [h.first,h'.first]
   ·obtain ⟨i,p,v,i3⟩:=h.ex j 0#q n
    obtain ⟨k,u,z,k3⟩:=h'.ex j 0#q n
    have a1:=h'.le i j p n v
    have a2:=h.le k j u n z
    have b1:=ih i p 0#q
    have b2:=ih k u 0#q
    try?
noncomputable def U0 (es:0#f) (i j:Nat):Rat×Rat×Rat×Rat:=((mo es i:Rat),wo es i,(mo es j:Rat),wo es j)
def Told (es:0#f) (β:Rat) (aT:Bool) (l:List (Rat×Rat×Rat×Rat)):Prop:=∃(t:Nat->Int) (ps:List (Nat×Nat)),xR (lu es β aT) (es.length+cL aT) t/\Way (lu es β aT) t (es.length+cL aT-1) ps/\l=(if es.length+cL aT=1 then [(0,0)] else ps).map (λx=>U0 es x.1 (x.2-cL aT))
abbrev Pr:=af×Nat×Nat
noncomputable def CG (ps:List Pr):0#m:=ps.map λx=>V.ref x.1
def AJ (ps:List Pr):(CG ps).length=ps.length:=iR ..
def Le (H:Hp) (ps:List Pr):Prop:=∀x∈ps,H x.1=some (.tup [.int (x.2.1:Int),.int (x.2.2:Int)])
def D5 (h:(fN p).filter f=a::r):f a=true/\a<p/\∀k,k<a->f k=false:=-by
 have B:a∈(fN p).filter f:=by rw [h];simp
 have u:=Im.mp B
 have A:=tP.mp u.1
 refine ⟨u.2,A,λk hk=>?_⟩
 cases e:f k with
 | false=>rfl
 | true=>
   have n:k∈(fN p).filter f:=Im.mpr ⟨tP.mpr 0#q,e⟩
   have v:((fN p).filter f).Pairwise (·<·):=acQ _ List.pairwise_lt_range
   rw [h] at n v
   rcases jG.mp n with z | z
   ·try?
   ·have:=(List.pairwise_cons.mp v).1 k z
    try?
open Classical in
def goes (L:Nat->Nat->Prop) (t:Nat->Int) (p k:Nat):Bool:=decide (L k p/\t k+1=t p)
def G9 {j:Nat}:Te (.int (j:Int)) (gm js)=true↔j∈js:=-by
 unfold Te gm
 rw [List.any_eq_true]
 constructor
 ·rintro ⟨v,p,e⟩
  obtain ⟨k,n,rfl⟩:=lV.mp p
  have:(k:Int)=(j:Int):=by simpa [O6] using e
  rw [show j=k by try?]
  exact n
 ·intro h
  exact ⟨_,lV.mpr ⟨j,h,rfl⟩,by simp [O6]⟩
inductive BA (vs:List V) (H:Hp) (Q:VK) (E_:XK):Prop where
 | mk (F T:af) (rs:List (af×List Nat)) (N:Nat) (L:Nat->Nat->Prop) (t:Nat->Int):vs=[.ref F,.ref T]->OJ H F rs->H T=some (.lst (nJ N t))->1<=N->N<=900->N<=rs.length+1->(∀i x,rs[i]?=some x->∀j,j∈x.2↔L i j)->xR L N t->(∀(R:af) (ps:List Pr) (H':Hp),ah H H'->H R=none->H' R=some (.lst (CG ps))->Le H' ps->Way L t (N-1) (ps.map (·.2))->Q (.ref R) H')->BA vs H Q E_
inductive wC (vs:List V) (H:Hp) (Q:VK) (E_:XK):Prop where
 | mk (x y:af) (m m':Int) (q q':Rat) (n:Nat):vs=[.ref x,.ref y]->gH H x m q n->gH H y m' q' n->1<=n->(∀(p:af) (H':Hp),ah H H'->zG H' (p,(m:Rat),q,(m':Rat),q') n->Q (.ref p) H')->wC vs H Q E_
inductive wM (vs:List V) (H:Hp) (Q:VK) (E_:XK):Prop where
 | mk (l pb:af) (es:0#f) (n nb:Nat) (β:Rat) (aT:Bool):vs=[.ref l,.ref pb,.bl aT]->H l=some 0#D->Row H es n->jN es->rising es->1<=es.length->es.length<=30->bI H pb β nb->1<=n->n<=900->nb<=1000->(∀(y X Z:af) (ps:List Pc) (H':Hp),ah H H'->H' y=some (.tup [.ref X,.ref Z])->H X=none->H' X=some (.lst (lD ps))->AllP H' ps n->Told es β aT (ps.map (·.2))->Q (.ref y) H')->wM vs H Q E_
section
open Classical in
def qf:goes L t p k=true↔L k p/\t k+1=t p:=by unfold goes;exact MA
def IW {i:Nat} {v:V} (h:xs[i]?=some v):tU xs (i:Int)=some v:=-by
 unfold tU
 rw [PJ 0#r (by have:=(kM.mp h).1;simp?)]
 exact h
noncomputable def intAt (σ:St) (i:Nat):Nat:=match σ.getD i none with | some (.int i)=>i.toNat | _=>0
def uM (h:i<p):((fN p).take (i+1)).filter f=((fN p).take i).filter f++(if f i=true then [i] else []):=Ms f (fN p) i i (by rw [CS h])
def Hr (js:List Nat) (j:Nat):gm js++[.int (j:Int)]=gm (js++[j]):=by simp [gm]
def c6:dB 2 [cI,"told","pairs","place","ahead"] iF:=0#p
def rP (F:dS K "places_of_pieces" iF f fd) (T:Txt mg):0#b 1 f fd [cI,"told"] BA:=-by
 refine F.dm c6 0#a
 obtain ⟨FF,TT,rs,N,L,t,rfl,hF,eT,h1,jZ,hNr,Z,ac,k⟩:=h
 apply bx ⟨_,(ao (aM 2 c6.nd (dU fZ)) (ao (lA (i:=3) c6.nd rfl (Or.inr rfl) (aI cF (ju K T.jv 0#C) aA) (hs:=aaf)) (ao (Jd.jP jd (bC fF (aa 3) aA (aD _)) (ao (Jd.kI (O:=[cj]) (N':=["place","told" ,"found" ]) (cap:=[3,1,0]) (i:=4) c6.nd rfl (Or.inl rfl) rfl (Jd.iM rfl T.range (c9 (aa 3))) (λ_ _ _ _ _=>(c8 (i:=0) (show jR [("first":Str),("place":Str),("told":Str),("found":Str)] by decide +kernel) rfl (Or.inl rfl))) (λ_ _ _ _ _=>(Jd.rE (jg (Jd.lF (bC cX (aI cE (bV (iQ K) (aa 2) 0#w 0#z) aA) (bV (iQ K) (aa 2) 0#C 0#z) (aD _)) (uv (bC (LK K) 0#C (bV (iQ K) (aa 3) 0#w 0#z) rfl)))))) (λ_ _ _ _ _=>0#w) rfl ⟨⟨rfl,rfl,rfl,rfl⟩,⟨⟨rfl,rfl,rfl,rfl⟩,⟨⟨rfl,rfl,rfl,rfl⟩,trivial⟩⟩⟩ rfl 0#u rfl 0#u (by rfl)) (ao (gc (fB K (aa 2) (bu (br (Jd.iL K (aa 4)) (aa 3)))) (hs:=fH)) (aF (lA (i:=3) c6.nd rfl (Or.inr rfl) (Jd.iL K (aa 4)) (hs:=Rv)))))) (ao (gc (Jd.Z7 K (aa 2)) (hs:=fH)) (aF (aS (aa 2))))))),?_⟩
 apply aC (mk:=.lst) 0#t λR H1 s1 n1 e1=>?_
 refine dN (.inl (bw.of (s1 _ _ eT))) ?_
 rw [rg]
 rw?
 refine RP (λσ I=>VB λ(p:Nat) (ps:List Pr) (v4:Option V)=>σ=[some (.ref FF),some (.ref TT),some (.ref R),some (.int (p:Int)),v4]/\ah H I/\I R=some (.lst (CG ps))/\Le I ps/\p<N/\ps.length+p<=N/\∀qs,Way L t p qs->Way L t (N-1) (qs++(ps.map (·.2)).reverse)) (λσ _=>intAt σ 3) ?_ ?_
 ·exact ⟨N-1,[],none,by rw [show (N:Int)-1=((N-1:Nat):Int) by simp?];rfl,s1,e1,λx n=>absurd n 0#t,by simp?,by simp,λqs h=>by simpa using h⟩
 rintro σ I ⟨p,ps,v4,rfl,s3,e3,Y,hp,hlen,J⟩ RR hy hn
 rw?
 by_cases h0:0<(p:Int)
 ·rw [dY h0]
  refine hy _ λM hM=>?_
  have ad:=s3 _ _ eT
  rw?
  apply AO ?_
  refine ⟨_,rfl,by lia,by lia,?_⟩
  refine di Of (λ_ _=>trivial) (by simp;lia) (λi zs G=>zs=gm (((fN p).take i).filter (goes L t p))) rfl ?_ ?_
  ·rintro D i x zs H4 jT NN N0 an hD S B n hz rfl kY kN
   have hi:i<p:=by
    have:=(kM.mp n).1
    simpa using this
   obtain rfl:x=.int (0+(i:Int)):=by
    rw [lZ,CS (by simpa using hi)] at n
    exact (tO n).symm
   rw [show (0:Int)+(i:Int)=(i:Int) by simp?]
   have tk:=uM (f:=goes L t p) hi
   refine jx an ?_
   have TX:=B _ _ ad
   rw?
   apply dM TX (nG (show i<N by simp?) rfl) ?_
   apply dM TX (nG hp rfl) ?_
   have no:¬(L i p/\t i+1=t p)->N0 H4:=λz=>by
    refine kN H4 (ah.refl _) ?_
    rw [tk,if_neg (λq=>z (qf.mp q)),Io]
   refine c7 (λc1=>?_) (λc1=>?_)
   ·have Ag:i<rs.length:=by simp?
    have gx:rs[i]?=some rs[i]:=lW Ag
    have ex:=((hF.up (s3.trans B)).each _ (nk gx)).1
    rw?
    apply dM (hF.up (s3.trans B)).at_ (IW (by rw [lZ,gx];rfl)) ?_
    refine ⟨_,_,rfl,.inl (bw.of ex),rfl,?_,?_⟩
    ·exact Xa.mpr λv hv=>by
      obtain ⟨j,_,rfl⟩:=lV.mp hv
      rfl
    ·rw?
     show if Te (.int (p:Int)) (gm rs[i].2)=true then _ else _
     refine c7 (λc2=>?_) (λc2=>?_)
     ·rw?
      refine kY _ H4 (ah.refl _) ?_
      rw [tk,if_pos (qf.mpr ⟨(Z i _ gx p).mp (G9.mp c2),dF c1⟩)]
      exact Hr _ _
     ·exact no λz=>c2 (G9.mpr ((Z i _ gx p).mpr z.1))
   ·refine bF ?_
    exact no λz=>c1 (dY z.2)
  ·rintro D zs H4 hD S B hz rfl
   rw [iR,W3,show (p:Int).toNat=p by simp?,RY 0#t] at S
   obtain ⟨i0,aj,ae,ht0⟩:=ac.ex p 0#r hp
   have hm:i0∈(fN p).filter (goes L t p):=Im.mpr ⟨tP.mpr aj,qf.mpr ⟨ae,by simp?⟩⟩
   obtain ⟨a,r,U⟩:∃a r,(fN p).filter (goes L t p)=a::r:=by
    cases e:(fN p).filter (goes L t p) with
    | nil=>rw [e] at hm;exact absurd hm 0#t
    | cons a r=>exact ⟨a,r,rfl⟩
   obtain ⟨ha,ai,ak⟩:=D5 U
   obtain ⟨ag,am⟩:=qf.mp ha
   rw [U] at S
   have e4:=B _ _ e3
   rw?
   apply ⟨.inl ⟨rfl,_,bw.of e4⟩,?_⟩
   apply dM S (IW (i:=0) rfl) ?_
   apply aC (mk:=.tup) 0#t λy H5 s5 n5 e5=>?_
   apply eG (s5 _ _ e4) (by rw [AJ];exact aY 0#r) ?_
   have nD:D≠R:=λz=>by rw [z,e3] at hD;cases hD
   apply dM (by rw [aJ nD];exact s5 _ _ S) (IW (i:=0) rfl) ?_
   refine hM _ _ ⟨a,ps++[(y,a,p)],_,rfl,bB ((s3.trans B).trans s5) n1,by rw [au];simp [CG],λx n=>?_,by simp?,by simp;simp?,λqs hq=>?_⟩ ?_
   ·refine AV R H5 _ _ _ (eK (s5 _ _ e4) ?_)
    rcases iw.mp n with z | z
    ·exact (B.trans s5) _ _ (Y x z)
    ·obtain rfl:x=(y,a,p):=by simpa using z
     exact e5
   ·rw [gw,List.reverse_append]
    have:=J (qs++[(a,p)]) (.cons ⟨ai,ag,am,λk hk z=>absurd ((ak k hk).symm.trans (qf.mpr z)) 0#s⟩ hq)
    simpa using this
   ·show (a:Int).toNat<(p:Int).toNat
    simp?
 ·rw [g9 h0]
  refine hn _ ?_
  have al:p=0:=by simp?
  subst al
  rw?
  refine ⟨.inl ⟨rfl,_,bw.of e3⟩,?_⟩
  apply abN e3 ?_
  refine k R ps.reverse _ (bB s3 n1) n1 (by rw [au,CG,CG,Xc]) (λx n=>AV R I _ _ _ (eK e3 (Y x (List.mem_reverse.mp n)))) ?_
  rw [Xc]
  exact J [] .nil
def wB:dB 2 [aG,az] j7:=0#p
def vO (F:dS K "piece_between" j7 f fd) (T:Txt mg):0#b 1 f fd [aG,az] wC:=-by
 refine F.dm wB 0#a
 obtain ⟨x,y,m,J,q,q',n,rfl,⟨v,O,S,Y⟩,⟨U,R,u,D⟩,I,k⟩:=h
 apply bx ⟨_,(aF (aS (bu (Jd.a4 (bu (br (aB K 0#w) aA)) (aB K 0#w) (bu (br (aB K 0#C) aA)) (aB K 0#C))))),?_⟩
 refine aC (mk:=.tup) 0#t λa H1 B n1 e1=>?_
 have ex1:=B _ _ O
 have p:=B _ _ R
 rw?
 refine aC (mk:=.tup) 0#t λb H2 L n2 e2=>?_
 have ey2:=L _ _ p
 rw?
 refine aC (mk:=.tup) 0#t λc N M n3 e3=>?_
 have G:=L.trans M
 have z:=B.trans G
 exact k c N z ⟨a,v,b,U,e3,⟨m,1,G _ _ e1,Fr.whole m,Y,oQ I⟩,S.up z,⟨J,1,M _ _ e2,Fr.whole J,D,oQ I⟩,u.up z⟩
def UA (hL:lu es β aT i j):i<j/\j<es.length+cL aT:=-by
 unfold lu at hL
 unfold cL
 cases aT with
 | true=>
   rw [if_pos rfl] at *
   exact ⟨hL.1,hL.2.1⟩
 | false=>
   rw [if_neg nv] at *
   rcases hL with ⟨a,rfl | ⟨b,c,_⟩⟩
   ·exact ⟨by try?,by try?⟩
   ·exact ⟨by try?,by try?⟩
def NL (h0:0<j) (hj:j<es.length+cL aT):lu es β aT (j-1) j:=-by
 unfold lu
 unfold cL at hj
 cases aT with
 | true=>
   rw [if_pos rfl] at *
   exact ⟨by try?,hj,λk h1 h2=>by try?⟩
 | false=>
   rw [if_neg nv] at *
   exact ⟨by try?,.inl 0#q⟩
def gr:dB 3 ["run",aL,"tied",cI,"told","pairs","back","pieces"] tG:=0#p
def HD (F:dS K "tied_run" tG f fd) (T:Txt mg) (DP:0#c 5 "leaps" [aQ,aL,"tied"] FG) (pV:0#c 1 "labels_by" [cI,"many"] yU) (iD:0#c 1 "places_of_pieces" [cI,"told"] BA) (jW:0#c 1 "piece_between" [aG,az] wC) (vh:0#c 5 "bars_by" [aQ,"told","tied"] Br):0#b 6 f fd ["run",aL,"tied"] wM:=-by
 refine F.dm gr 0#a
 obtain ⟨l,pb,es,n,nb,β,B,rfl,hl,hR,hS,fW,h1,ak,hb,al,hn,am,k⟩:=h
 have hsh:cL B<=1:=by unfold cL;split <;> try?
 apply bx ⟨_,(ao (aM 3 gr.nd (Jd.c3 DP hr 0#w 0#C (aa 2))) (ao (aM 4 gr.nd (bA pV hr (aa 3) (uu (iW (aa 2)) (ju K T.jv 0#w) (aI cE (ju K T.jv 0#w) aA)))) (ao (aM 5 gr.nd (bA iD hr (aa 3) (aa 4))) (ao (bU (jg (Jd.lF (iW (aa 2)) (uv (bC cX (ju K T.jv 0#w) aA (aD _))))) (aF (aM 5 gr.nd (dU (c9 (bu (br aA aA)))))) bY) (ao (lA (i:=6) gr.nd rfl (Or.inr rfl) (uu (iW (aa 2)) aA aA) (hs:=aem)) (ao (Jd.kI (O:=[cj,cy]) (N':=["run","back" ]) (cap:=[0,6]) (i:=7) gr.nd rfl (Or.inl rfl) rfl (j0 K (aa 5)) (λ_ _ _ _ _=>(Jd.UW K (n:=2) rfl (lz (c8 (i:=0) (show jR [("first":Str),("last":Str),("run":Str),("back":Str)] by decide +kernel) rfl (Or.inl rfl)) (lz (c8 (i:=1) (show jR [("first":Str),("last":Str),("run":Str),("back":Str)] by decide +kernel) rfl (Or.inl rfl)) Jd.kH)))) (λ_ _ _ _ _=>ly) (λ_ _ _ _ _=>(iX jW (hr.mono 0#s) rfl (eN (bV (iQ K) (aa 2) 0#w 0#z) (eN (bV (iQ K) (aa 2) (aI cF 0#C (aa 3)) 0#z) fZ BH) BH) (he:=BH) (hpl:=(cV BH cD)))) rfl ⟨⟨rfl,rfl,rfl,rfl⟩,⟨⟨rfl,rfl,rfl,rfl⟩,trivial⟩⟩ rfl 0#u rfl 0#u (by rfl)) (aF (aS (bu (br (aa 7) (bu (br (aa 4) (Jd.c3 vh hr 0#w (aa 4) (aa 2)))))))))))))),?_⟩
 refine ⟨l,pb,es,n,nb,β,B,rfl,hl,hR,hS,fW,by try?,hb,by try?,am,λFF rs H1 s1 nF hF hlen ae=>?_⟩
 refine Qc ?_
 refine iB (λJ U=>Tu λ(TT:af) (t:Nat->Int)=>J=[some (.ref l),some (.ref pb),some (.bl B),some (.ref FF),some (.ref TT),none,none,none]/\ah H1 U/\U TT=some (.lst (nJ (es.length+cL B) t))/\xR (lu es β B) (es.length+cL B) t) (λJ U hP=>?_) (λN v=>?_)
 rotate_left
 ·have go:∀(Q':VK) (E':XK),(∀(TT:af) (t:Nat->Int) (U:Hp),ah H1 U->U TT=some (.lst (nJ (es.length+cL B) t))->xR (lu es β B) (es.length+cL B) t->Q' (.ref TT) U)->yU [.ref FF,.int ((es.length+cL B:Nat):Int)] H1 Q' E':=λQ' E' kk=>⟨FF,rs,_,lu es β B,rfl,hF,by try?,by try?,by try?,by try?,λi x L=>(ae i x L).2,λi j hL=>UA hL,λj h0 hj=>NL h0 hj,λR t U s2 nR eR Z=>kk R t U s2 eR Z⟩
  rw?
  have ai:=s1 _ _ hl
  cases B with
  | true=>
    apply bO ?_
    refine dN (.inl (bw.of ai)) ?_
    rw [aP]
    rw?
    exact go _ _ λTT t U s2 e2 Z=>v _ _ ⟨TT,t,rfl,s2,e2,Z⟩
  | false=>
    apply bF ?_
    refine dN (.inl (bw.of ai)) ?_
    rw [aP]
    rw?
    exact go _ _ λTT t U s2 e2 Z=>v _ _ ⟨TT,t,rfl,s2,e2,Z⟩
 obtain ⟨TT,t,rfl,s2,eT,Z⟩:=hP
 refine iB (λJ H3=>Tu λ(S:af) (ps:List Pr)=>J=[some (.ref l),some (.ref pb),some (.bl B),some (.ref FF),some (.ref TT),some (.ref S),none,none]/\ah U H3/\H3 S=some (.lst (CG ps))/\Le H3 ps/\Way (lu es β B) t (es.length+cL B-1) (ps.map (·.2))) (λJ H3 hP=>?_) (λN v=>?_)
 rotate_left
 ·rw?
  exact ⟨FF,TT,rs,_,_,t,rfl,hF.up s2,eT,by try?,by try?,by try?,λi x L=>(ae i x L).2,Z,λS ps H3 s3 nP eP ac hw=>v _ _ ⟨S,ps,rfl,s3,eP,ac,hw⟩⟩
 obtain ⟨S,ps,rfl,s3,eP,ac,hw⟩:=hP
 refine iB (λJ H4=>Tu λ(S:af) (I:List Pr)=>J=[some (.ref l),some (.ref pb),some (.bl B),some (.ref FF),some (.ref TT),some (.ref S),none,none]/\ah H3 H4/\H4 S=some (.lst (CG I))/\Le H4 I/\I.length<=31/\I.map (·.2)=if es.length+cL B=1 then [(0,0)] else ps.map (·.2)) (λJ H4 hP=>?_) (λN v=>?_)
 rotate_left
 ·have an:=hw.len
  rw [iR] at an
  have EX:=(s1.trans s2).trans s3
  have keep:es.length+cL B≠1->N [some (.ref l),some (.ref pb),some (.bl B),some (.ref FF),some (.ref TT),some (.ref S),none,none] H3:=λz=>v _ _ ⟨S,ps,rfl,ah.refl _,eP,ac,by try?,by rw [if_neg z]⟩
  rw?
  cases B with
  | true=>
    apply bO ?_
    refine dN (.inl (bw.of (EX _ _ hl))) ?_
    rw [aP]
    rw?
    refine c7 (λc1=>?_) (λc1=>?_)
    ·have B9:(es.length:Int)=1:=dF c1
     rw?
     apply aC (mk:=.tup) 0#t λy H4 s4 n4 e4=>?_
     apply aC (mk:=.lst) 0#t λy' H5 s5 n5 e5=>?_
     refine v _ _ ⟨y',[(y,0,0)],rfl,s4.trans s5,e5,λx L=>?_,by simp,?_⟩
     ·obtain rfl:x=(y,0,0):=by simpa using L
      exact s5 _ _ e4
     ·rw [if_pos (show es.length+cL true=1 by show es.length+0=1;try?)]
      rfl
    ·rw?
     exact keep λz=>c1 (dY (by have:es.length+0=1:=z;try?))
  | false=>
    refine bF ?_
    apply bF ?_
    exact keep λz=>by have:es.length+1=1:=z;try?
 obtain ⟨S,I,rfl,s4,eP,aj,hl',ag⟩:=hP
 refine iB (λJ H5=>H5=H4/\J=[some (.ref l),some (.ref pb),some (.bl B),some (.ref FF),some (.ref TT),some (.ref S),some (.int (cL B:Int)),none]) (λJ H5 hP=>?_) (λN v=>?_)
 rotate_left
 ·rw?
  cases B with
  | true=>
    apply bO ?_
    exact v _ _ ⟨rfl,rfl⟩
  | false=>
    apply bF ?_
    exact v _ _ ⟨rfl,rfl⟩
 obtain ⟨rfl,rfl⟩:=hP
 have uN:=((s1.trans s2).trans s3).trans s4
 have ap:∀x∈I,x.2.1<es.length/\x.2.2-cL B<es.length/\((x.2.2:Int)-(cL B:Int)=((x.2.2-cL B:Nat):Int)):=λx L=>by
  have Y:x.2∈I.map (·.2):=lV.mpr ⟨x,L,rfl⟩
  rw [ag] at Y
  by_cases hN:es.length+cL B=1
  ·rw [if_pos hN] at Y
   have:x.2=(0,0):=by simpa using Y
   rw [this]
   exact ⟨by try?,by try?,by try?⟩
  ·rw [if_neg hN] at Y
   have:=hw.lt _ Y
   exact ⟨by try?,by try?,by try?⟩
 rw?
 apply kJ ?_
 refine ⟨S,rfl,⟨_,bw.of eP⟩,?_⟩
 refine di (xs:=CG I) cQ (λH6 s6=>bw.of (s6 _ _ eP)) (by rw [AJ];try?) (λi ys G=>∃Qv:List Pc,ys=lD Qv/\AllP G Qv n/\Qv.map (·.2)=(I.take i).map λx=>U0 es x.2.1 (x.2.2-cL B)) ⟨[],rfl,λx L=>absurd L 0#t,rfl⟩ ?_ ?_
 ·rintro D i x ys H6 jT NN N0 h0 hD eD s6 L hy ⟨Qv,rfl,Zc,M⟩ kY kN
  unfold CG at L
  rw [lZ] at L
  obtain ⟨x,gx,rfl⟩:=ID.mp L
  have Oz:=nk gx
  obtain ⟨b1,b2,b3⟩:=ap x Oz
  have tk:I.take (i+1)=I.take i++[x]:=by rw [qT,gx];rfl
  refine AN h0 (s6 _ _ (aj x Oz)) ?_
  have CH:=uN.trans s6
  obtain ⟨xi,gi,si⟩:=cC (hR.up CH) hS b1
  obtain ⟨xj,gj,sj⟩:=cC (hR.up CH) hS b2
  rw?
  apply bO ?_
  apply dM (CH _ _ hl) (b8 gi rfl) ?_
  apply dM (CH _ _ hl) (b8 gj b3) ?_
  refine ⟨xi.1,xj.1,_,_,_,_,n,rfl,si,sj,al,λp H7 s7 f7=>?_⟩
  refine kY _ H7 s7 ⟨Qv++[(p,U0 es x.2.1 (x.2.2-cL B))],by simp [lD],?_,by rw [tk,gw,gw,M];rfl⟩
  refine (Zc.up (rV s7)).append λz hz=>?_
  obtain rfl:z=(p,U0 es x.2.1 (x.2.2-cL B)):=by simpa using hz
  exact f7.mv λ{b xs} z=>eK (s7 _ _ eD) z
 ·rintro D ys H6 hD eD s6 hy ⟨Qv,rfl,Zc,M⟩
  rw [AJ,pP] at M
  have CH:=uN.trans s6
  rw?
  apply ⟨l,TT,es,n,β,B,t,rfl,CH _ _ hl,hR.up CH,hS,fW,h1,ak,hn,(s3.trans (s4.trans s6)) _ _ eT,Z,λR H7 s7=>?_⟩
  apply aC (mk:=.tup) 0#t λz H8 s8 n8 e8=>?_
  refine aC (mk:=.tup) 0#t λy H9 s9 n9 e9=>?_
  have V8:=s8.trans s9
  have ad:=s7.trans V8
  refine k y D z Qv H9 (CH.trans ad) e9 (uN.free hD) (ad _ _ eD) (λx L=>(Zc x L).mv λ{b xs} q=>ad _ _ (gM _ _ q)) ⟨t,ps.map (·.2),Z,hw,?_⟩
  rw [M,<- ag,SK]
  rfl
end
def zI (es:0#f) (β:Rat) (aT:Bool) (m:Nat) (q:List (Rat×Rat×Rat×Rat)):Prop:=∃qss:List (List (Rat×Rat×Rat×Rat)),qb (λr l=>Told r β aT l) ((parts jL es es.length).take m) qss/\q=qss.flatten
def zI.snoc (h:zI es β aT m q) (hr:(parts jL es es.length)[m]?=some r) (hl:Told r β aT l):zI es β aT (m+1) (q++l):=-by
 obtain ⟨n,p,rfl⟩:=h
 refine ⟨n++[l],?_,by simp⟩
 rw [qT,hr]
 exact oK p hl
def Told.len (h:Told es β aT l) (h1:1<=es.length):l.length<=es.length:=-by
 obtain ⟨t,ps,_,w,rfl⟩:=h
 have hsh:cL aT<=1:=by unfold cL;split <;> try?
 have:=w.len
 rw [iR]
 split
 ·exact h1
 ·try?
inductive oh (vs:List V) (H:Hp) (Q:VK) (E_:XK):Prop where
 | mk (l pb:af) (es:0#f) (n nb:Nat) (β:Rat) (aT:Bool):vs=[.ref l,.ref pb,.bl aT]->H l=some 0#D->Row H es n->rising es->es.length<=40->(parts jL es es.length).length<=33->(∀r∈parts jL es es.length,r.length<=30)->bI H pb β nb->1<=n->n<=900->nb<=1000->(∀(y X Z:af) (ps:List Pc) (H':Hp),ah H H'->H' y=some (.tup [.ref X,.ref Z])->H X=none->H' X=some (.lst (lD ps))->AllP H' ps n->ps.length<=990->zI es β aT (parts jL es es.length).length (ps.map (·.2))->Q (.ref y) H')->oh vs H Q E_
inductive qL (aT:Bool) (vs:List V) (H:Hp) (Q:VK) (E_:XK):Prop where
 | mk (l pb:af):vs=[.ref l,.ref pb]->oh [.ref l,.ref pb,.bl aT] H Q E0->qL aT vs H Q E_
def jQ:dB 3 [bE,aL,"tied","telling","paper","run","told"] tF:=0#p
def HC (F:dS K "tied_row" tF f fd) (T:Txt mg) (oH:0#c 1 "runs" [bE] BC) (sy:0#c 6 "tied_run" ["run",aL,"tied"] wM):0#b 7 f fd [bE,aL,"tied"] oh:=-by
 refine F.dm jQ 0#a
 obtain ⟨l,pb,es,n,nb,β,aT,rfl,hl,hR,fW,h30,h33,ad,hb,ak,hn,al,k⟩:=h
 apply bx ⟨_,(ao (aM 3 jQ.nd (dU fZ)) (ao (aM 4 jQ.nd (dU fZ)) (ao (gQ jd rfl (j0 K (Jd.c1 oH hr 0#w)) (c8 (i:=5) jQ.nd rfl (Or.inl rfl)) (ao (aM 6 jQ.nd (Jd.c3 sy hr (aa 5) 0#C (aa 2))) (ao (gc (Jd.GI K (aa 3) (aB K (aa 6))) (hs:=fH)) (aF (gc (fB K (aa 4) (aB K (aa 6))) (hs:=fH)))))) (aF (aS (bu (br (aa 3) (aa 4)))))))),?_⟩
 apply aC (mk:=.lst) 0#t λX H1 s1 n1 e1=>?_
 refine aC (mk:=.lst) 0#t λZ H2 s2 n2 e2=>?_
 have gO:=s1.trans s2
 have OD:X≠Z:=λz=>by rw [<- z,e1] at n2;cases n2
 rw?
 apply iZ (kJ ?_)
 refine ⟨l,es,n,rfl,gO _ _ hl,hR.up gO,by try?,λTT ls H3 s3 Cb S _ _=>?_⟩
 have hpl:=vR (s:=jL) (es:=es) es.length
 have aj:ls.length=(parts jL es es.length).length:=by rw [<- S,iR]
 refine ⟨TT,rfl,⟨_,bw.of Cb.at_⟩,fu (xs:=lrefs ls) (λi σ D=>Yi λ(ps:List Pc) (J:0#m) (v5 v6:Option V)=>σ=[some (.ref l),some (.ref pb),some (.bl aT),some (.ref X),some (.ref Z),v5,v6]/\ah H D/\LL H2 D TT ls/\D X=some (.lst (lD ps))/\D Z=some (.lst J)/\J.length<=i/\AllP D ps n/\ps.length<=30*i/\zI es β aT i (ps.map (·.2))) ?_ ?_ ?_ ?_⟩
 ·exact ⟨[],[],none,none,rfl,gO.trans s3,Cb,(s2.trans s3) _ _ e1,s3 _ _ e2,d8 _,λx hx=>absurd hx 0#t,d8 _,[],trivial,rfl⟩
 ·rintro i σ D _ ⟨ps,J,v5,v6,rfl,L,Y,_⟩
  exact bw.of Y.at_
 ·rintro i x σ D hx ⟨ps,J,v5,v6,rfl,L,Y,eX,eZ,hz,I,O,p⟩
  refine ig λM B R hM _ _=>?_
  obtain ⟨x,gx,rfl⟩:=nO hx
  have hi:i<ls.length:=(kM.mp gx).1
  have Oz:=nk gx
  have hp:(parts jL es es.length)[i]?=some x.2:=by rw [<- S,lZ,gx];rfl
  obtain ⟨o1,o2,o3⟩:=rA es.length x.2 (nk hp)
  rw [pP] at o3
  obtain ⟨_,ex,_⟩:=Y.each x Oz
  have U:1<=x.2.length:=Dy.mpr o1
  have aeC:=ad _ (nk hp)
  rw?
  refine ⟨x.1,pb,x.2,n,nb,β,aT,rfl,ex,λz hz=>hR.up L z (o3.subset hz),o2,fW.sublist o3,U,by try?,hb.up L,ak,hn,al,λy X' Z' Qv N v ey nX' ae am VP=>?_⟩
  have ac:=VP.len U
  rw [iR] at ac
  have u:=v _ _ eX
  have ag:=v _ _ eZ
  have ai:=Y.up v
  obtain ⟨a1,a2⟩:=Cb.own (s2 _ _ e1)
  obtain ⟨b1,b2⟩:=Cb.own e2
  rw?
  apply ⟨.inl ⟨rfl,_,bw.of u⟩,?_⟩
  refine Di u ae (by rw [Dg,Dg];exact tR (aY 0#q)) ?_
  have G:upd N X (.lst (lD ps++lD Qv)) Z=some (.lst J):=by rw [aJ (jS OD)];exact ag
  have ey6:upd N X (.lst (lD ps++lD Qv)) y=some (.tup [.ref X',.ref Z']):=AV X N _ _ _ (eK u ey)
  rw?
  apply ⟨.inl ⟨rfl,_,bw.of G⟩,?_⟩
  refine eG G (aY 0#q) ?_
  refine hM _ _ ⟨ps++Qv,J++[.ref Z'],_,_,rfl,bB (bB (L.trans v) (n1)) (s1.free n2),(ai.other a1 a2).other b1 b2,?_,au,by simp;try?,((I.up v).append am).app u |>.app G,by simp;try?,?_⟩
  ·rw [aJ OD,au,lD,lD,lD,gw]
  ·rw [gw]
   exact p.snoc hp VP
 ·rintro σ D ⟨ps,J,v5,v6,rfl,L,Y,eX,eZ,hz,I,O,p⟩
  rw [dG] at O p
  rw?
  refine aC (mk:=.tup) 0#t λy N v n5 e5=>?_
  rw [aj] at p
  exact k y X Z ps N (L.trans v) e5 n1 (v _ _ eX) (I.up v) 0#q p
def Q9:dB 2 [bE,aL] E8:=0#p
def Qo (F:dS K "spans" E8 f fd) (T:Txt mg) (jt:0#c 7 "tied_row" [bE,aL,"tied"] oh):0#b 8 f fd [bE,aL] (qL false):=-by
 refine F.dm Q9 0#a
 obtain ⟨l,pb,rfl,h⟩:=h
 apply bx ⟨_,(aF (aS (Jd.c3 jt hr 0#w 0#C mh))),?_⟩
 exact h
def Q4:dB 2 [bE,aL] EZ:=0#p
def Qf (F:dS K "chain" EZ f fd) (T:Txt mg) (jt:0#c 7 "tied_row" [bE,aL,"tied"] oh):0#b 8 f fd [bE,aL] (qL true):=-by
 refine F.dm Q4 0#a
 obtain ⟨l,pb,rfl,h⟩:=h
 apply bx ⟨_,(aF (aS (Jd.c3 jt hr 0#w 0#C mh))),?_⟩
 exact h
def nW:∀{fs:List (Str×V)} {x:V},fs.lookup f=some x->(av f v fs).length=fs.length
 | [],_,h=>by cases h
 | (g,y)::r,x,h=>by
   unfold av
   by_cases e:g=f
   ·rw [if_pos e];rfl
   ·rw [if_neg e]
    have e':(f==g)=false:=by
     have:¬f=g:=λz=>e z.symm
     simpa using this
    rw [Il,e'] at h
    show (av f v r).length+1=r.length+1
    rw [nW h]
def vv (fs:List (Str×V)) (a b:af) (u v:V):Prop:=fs=[(("twice":Str),.ref a),(("samples":Str),.ref b),(("gentlest":Str),u),(("steepest":Str),v)]
def vv.len (h:vv fs a b u v):fs.length<=10:=by cases h;exact (by decide:4<=10)
def vv.tw (h:vv fs a b u v):fs.lookup ("twice":Str)=some (.ref a):=by cases h;kernel_rfl
def vv.sl (h:vv fs a b u v):fs.lookup ("samples":Str)=some (.ref b):=by cases h;kernel_rfl
def vv.g (h:vv fs a b u v):fs.lookup ("gentlest":Str)=some u:=by cases h;kernel_rfl
def vv.s (h:vv fs a b u v):fs.lookup ("steepest":Str)=some v:=by cases h;kernel_rfl
def vv.init (a b:af) (u v:V):vv (av "steepest" v (av "gentlest" u (av "samples" (.ref b) (av "twice" (.ref a) [])))) a b u v:=by unfold vv;kernel_rfl
def vv.setG (h:vv fs a b u v):vv (av "gentlest" y fs) a b y v:=by cases h;unfold vv;kernel_rfl
def vv.aac (h:vv fs a b u v):vv (av "steepest" y fs) a b u y:=by cases h;unfold vv;kernel_rfl
def vv.vG (h:vv fs a b u v) (m:Str) (e:([("twice":Str),("samples":Str),("gentlest":Str),("steepest":Str)]).all (λn=>! (m==n))=true:=by decide +kernel):fs.lookup m=none:=-by
 cases h
 simp only [DI,Gg,W4,XE] at e
 simp only [Il,e,Xj]
def OF (p L:af) (H:Hp):Hp:=rm p (rm L H)
def AS (h1:b≠p) (h2:b≠L):OF p L H b=H b:=by unfold OF;rw [lH h1,lH h2]
def QY:ah (OF p L H) H:=λb o e=>gM _ _ (gM _ _ e)
def yQ (hp:H p=some (.ins C dx fs)) (hL:H L=some (.lst ys)) (h:H b=some (.tup xs)):OF p L H b=some (.tup xs):=-by
 rw [AS (λe=>by rw [e,hp] at h;cases h) (λe=>by rw [e,hL] at h;cases h)]
 exact h
def bI.out (hp:H p=some (.ins C dx fs)) (hL:H L=some (.lst ys)) (f:bI H b q n):bI (OF p L H) b q n:=let ⟨t,d,e,f⟩:=f;⟨t,d,yQ hp hL e,f⟩
def bP.out (hp:H p=some (.ins C dx fs)) (hL:H L=some (.lst ys)) (f:bP H b q n):bP (OF p L H) b q n:=let ⟨t,d,e,f⟩:=f;⟨t,d,yQ hp hL e,f⟩
def nB.out (hp:H p=some (.ins C dx fs)) (hL:H L=some (.lst ys)) (f:nB H x n):nB (OF p L H) x n:=-by
 obtain ⟨a,m,v⟩:=x
 cases v with
 | none=>exact ⟨f.1,yQ hp hL f.2⟩
 | some q=>
   obtain ⟨z,r,e,g⟩:=f
   exact ⟨z,r,yQ hp hL e,g.out hp hL⟩
def Row.out (hp:H p=some (.ins C dx fs)) (hL:H L=some (.lst ys)) (f:Row H es n):Row (OF p L H) es n:=λx hx=>(f x hx).out hp hL
def gH.en (f:gH H b t q n):nB H (b,t,some q) n:=let ⟨v,e,f,z⟩:=f;⟨z,v,e,f⟩
def nB.sa (f:nB H (b,t,some q) n):gH H b t q n:=let ⟨z,v,e,f⟩:=f;⟨v,e,f,z⟩
def Gq (es:0#f) (B:Rat):Prop:=∀i j k l,i<j->j<es.length->k<l->l<es.length->jc es B i j<=fQ es B k l
def X8 (es:0#f) (B G:Rat):Prop:=(∀i j,i<j->j<es.length->jc es B i j<=G)/\∃i j,i<j/\j<es.length/\jc es B i j=G
def X9 (es:0#f) (B S:Rat):Prop:=(∀i j,i<j->j<es.length->S<=fQ es B i j)/\∃i j,i<j/\j<es.length/\fQ es B i j=S
def LC (g:X8 es B G) (s:X9 es B S):Gq es B↔G<=S:=-by
 constructor
 ·intro h
  obtain ⟨i,j,a1,a2,a3⟩:=g.2
  obtain ⟨k,l,n,p,u⟩:=s.2
  rw [<- a3,<- u]
  exact h i j k l a1 a2 n p
 ·intro h i j k l a1 a2 n p
  have:=g.1 i j a1 a2
  have:=s.1 k l n p
  grind
def sA (C:af) (H:Hp) (p L:af) (es:0#f) (B:Rat) (n nb:Nat):Prop:=∃(dx tw:af) (fs:List (Str×V)) (g s:V),H p=some (.ins C dx fs)/\vv fs tw L g s/\H L=some 0#D/\Row H es n/\jN es/\rising es/\bI H tw B nb /\
 ((es.length<2/\g=.bG/\s=.bG)\/(2<=es.length/\∃(pg ps:af) (G S:Rat),g=.ref pg/\s=.ref ps/\bI H pg G (3*n+nb+3)/\bI H ps S (3*n+nb+3)/\X8 es B G/\X9 es B S/\G<=S))
def sA.up (h:sA C H p L es B n nb) (s:ah H H'):sA C H' p L es B n nb:=-by
 obtain ⟨u,tw,fs,g,s',v,A,D,E,I,J,M,N⟩:=h
 refine ⟨u,tw,fs,g,s',s _ _ v,A,s _ _ D,E.up s,I,J,M.up s,?_⟩
 rcases N with z | ⟨z,O,ps,G,S,e1,e2,Q,R,r⟩
 ·exact .inl z
 ·exact .inr ⟨z,O,ps,G,S,e1,e2,Q.up s,R.up s,r⟩
inductive Bu (C:af) (vs:List V) (H:Hp) (Q:VK) (E_:XK):Prop where
 | mk (p dx pb:af) (β:Rat) (n:Nat):vs=[.ref p,.ref pb]->H p=some (.ins C dx [])->bI H pb β n->n<=1000->(∀(L:af) (H':Hp) (k:Nat),ah (rm p H) H'->H L=none->sA C H' p L [] (2*β) k (2*n+1)->Q .bG H')->Bu C vs H Q E_
noncomputable def cY (es:0#f) (B:Rat) (m:Int) (q:Rat) (i:Nat):Rat:=(q+B-wo es i)/((m:Rat)-(mo es i:Rat))
inductive uT (vs:List V) (H:Hp) (Q:VK) (E_:XK):Prop where
 | mk (kv:V) (l x tw:af) (es:0#f) (m:Int) (q B:Rat) (n nb:Nat):vs=[kv,.ref l,.ref x,.ref tw]->H l=some 0#D->Row H es n->jN es->gH H x m q n->bI H tw B nb->es.length<=900->n<=1500->nb<=3000->(∀i,i<es.length->mo es i<m)->(kv=.bG\/(0<es.length/\∃pk Kq,kv=.ref pk/\bI H pk Kq (3*n+nb+3)))->(es.length=0->kv=.bG->∀H',ah H H'->Q .bG H')->(0<es.length->∀(pg:af) (G:Rat) (H':Hp),ah H H'->bI H' pg G (3*n+nb+3)->(∀pk Kq,kv=.ref pk->bI H pk Kq (3*n+nb+3)->Kq<=G)->(∀i,i<es.length->cY es (-B) m q i<=G)->((∃i,i<es.length/\cY es (-B) m q i=G)\/∃pk,kv=.ref pk/\bI H pk G (3*n+nb+3))->Q (.ref pg) H')->uT vs H Q E_
inductive yX (vs:List V) (H:Hp) (Q:VK) (E_:XK):Prop where
 | mk (kv:V) (l x tw:af) (es:0#f) (m:Int) (q B:Rat) (n nb:Nat):vs=[kv,.ref l,.ref x,.ref tw]->H l=some 0#D->Row H es n->jN es->gH H x m q n->bI H tw B nb->es.length<=900->n<=1500->nb<=3000->(∀i,i<es.length->mo es i<m)->(kv=.bG\/(0<es.length/\∃pk Kq,kv=.ref pk/\bI H pk Kq (3*n+nb+3)))->(es.length=0->kv=.bG->∀H',ah H H'->Q .bG H')->(0<es.length->∀(pg:af) (G:Rat) (H':Hp),ah H H'->bI H' pg G (3*n+nb+3)->(∀pk Kq,kv=.ref pk->bI H pk Kq (3*n+nb+3)->G<=Kq)->(∀i,i<es.length->G<=cY es B m q i)->((∃i,i<es.length/\cY es B m q i=G)\/∃pk,kv=.ref pk/\bI H pk G (3*n+nb+3))->Q (.ref pg) H')->yX vs H Q E_
inductive FY (C:af) (vs:List V) (H:Hp) (Q:VK) (E_:XK):Prop where
 | mk (p L x:af) (es:0#f) (m:Int) (q B:Rat) (n nb:Nat):vs=[.ref p,.ref x]->sA C H p L es B n nb->gH H x m q n->(∀i,i<es.length->mo es i<m)->es.length<=900->n<=1000->nb<=3000->0<=B->(∀(r:Bool) (H':Hp),ah (OF p L H) H'->(r=true↔Gq (es++[(x,m,some q)]) B)->sA C H' p L (if r=true then es++[(x,m,some q)] else es) B n nb->Q (.bl r) H')->FY C vs H Q E_
inductive KQ (C:af) (vs:List V) (H:Hp) (Q:VK) (E_:XK):Prop where
 | mk (p L:af) (es:0#f) (B:Rat) (n nb:Nat):vs=[.ref p]->sA C H p L es B n nb->(∀(R:af) (H':Hp),ah H H'->H R=none->H' R=some 0#D->Q (.ref R) H')->KQ C vs H Q E_
def Dh (a:bI H p q n) (b:bI H p r m):q=r:=-by
 obtain ⟨t,d,e,f,_⟩:=a
 obtain ⟨t',d',u,v,_⟩:=b
 rw [e] at u
 cases u
 have h1:=f.eq
 have h2:=v.eq
 have hd:=dH (b:=d) (by have:=f.pos;try?)
 grind
def yq:dB 2 [bN,aL] lJ:=0#p
abbrev ku K mg c:=Cl K mg "Stretch" c ["twice",aQ,gD,gE]
def ye (F:pM K "__init__" "Stretch.__init__" lJ f fd) (aU:ku K mg aH) (gX:0#c 5 "plus" [aG,az] (kg (·+·) 1)):0#b 6 f fd [bN,aL] (Bu aH):=-by
 refine F.dm yq 0#a
 obtain ⟨p,G,pb,D,n,rfl,hp,u,hn,k⟩:=h
 apply bx ⟨_,(ao (gT K 0#w (bA gX hr 0#C 0#C)) (ao (gT K 0#w (dU fZ)) (ao (gT K 0#w gK) (aF (gT K 0#w gK))))),?_⟩
 apply ⟨pb,pb,D,D,n,n,rfl,u,u,by try?,λtw J R f1=>?_⟩
 have B:=R _ _ hp
 apply yO aU B (by show 0<1000;decide) ?_
 refine aC (mk:=.lst) 0#t λL Y S I e2=>?_
 have Z:L≠p:=λz=>by
  rw [z,au] at I
  cases I
 have N:=S _ _ (au (H:=J) (a:=p) (o:=.ins aH G (av "twice" (.ref tw) [])))
 rw?
 apply yO aU N (by have:(av "twice" (.ref tw) ([]:List (Str×V))).length=1:=rfl;try?) ?_
 refine yO aU au (by
  have h3:=(vv.init tw L .bG .bG).len
  have l:∀(f:Str) (v:V) (fs:List (Str×V)),fs.length<=(av f v fs).length:=by
   intro f v fs
   induction fs with
   | nil=>exact lY _
   | cons x r ih=>
     obtain ⟨g,y⟩:=x
     unfold av
     split
     ·exact d8 _
     ·exact BP ih
  have l1:=l "steepest" .bG (av "gentlest" .bG (av "samples" (.ref L) (av "twice" (.ref tw) [])))
  have l2:=l "gentlest" .bG (av "samples" (.ref L) (av "twice" (.ref tw) []))
  try?) ?_
 rw?
 refine yO aU au (by
  have h3:=(vv.init tw L .bG .bG).len
  have l:∀(f:Str) (v:V) (fs:List (Str×V)),fs.length<=(av f v fs).length:=by
   intro f v fs
   induction fs with
   | nil=>exact lY _
   | cons x r ih=>
     obtain ⟨g,y⟩:=x
     unfold av
     split
     ·exact d8 _
     ·exact BP ih
  have l1:=l "steepest" .bG (av "gentlest" .bG (av "samples" (.ref L) (av "twice" (.ref tw) [])))
  try?) ?_
 rw?
 rw [pC,pC]
 have n0:H L=none:=by
  cases g:H L with
  | none=>rfl
  | some o=>
    have:=R _ _ g
    rw [aJ Z,this] at I
    cases I
 have sH:ah (rm p H) (upd Y p (.ins aH G (av "steepest" .bG (av "gentlest" .bG (av "samples" (.ref L) (av "twice" (.ref tw) [])))))):=λb o e=>by
  by_cases u:b=p
  ·rw [u] at e
   unfold rm at e
   rw [if_pos rfl] at e
   cases e
  ·rw [lH u] at e
   rw [aJ u]
   refine S _ _ ?_
   rw [aJ u]
   exact R _ _ e
 have U:ah (rm p J) (upd Y p (.ins aH G (av "steepest" .bG (av "gentlest" .bG (av "samples" (.ref L) (av "twice" (.ref tw) [])))))):=λb o e=>by
  by_cases u:b=p
  ·rw [u] at e
   unfold rm at e
   rw [if_pos rfl] at e
   cases e
  ·rw [lH u] at e
   rw [aJ u]
   refine S _ _ ?_
   rw [aJ u]
   exact e
 refine k L _ 0 sH n0 ⟨G,tw,_,.bG,.bG,au,vv.init tw L .bG .bG,by rw [aJ Z];exact e2,λx O=>absurd O 0#t,λx O=>absurd O 0#t,List.Pairwise.nil,?_,.inl ⟨by decide,rfl,rfl⟩⟩
 obtain ⟨t,d,e,ff,z1,z2⟩:=f1
 have M:rm p J tw=some (.tup [.int t,.int d]):=by
  rw [lH (λz=>by rw [z,B] at e;cases e)]
  exact e
 refine bI.mono (n:=2*n+1) ⟨t,d,U _ _ M,?_,z1,z2⟩ 0#q
 have Yt:(2*D:Rat)=D+D:=by grind
 rw [Yt]
 exact ff.qt
def jD:dB 4 ["known","earlier",aV,"twice","lowered",cI] j6:=0#p
def vN (F:dS K "gentlest_with" j6 f fd) (T:Txt mg) (aR:0#c 1 "loose_minus" [aG,az] (iO (·-·) 1)) (bR:X5 P w K mg base) (c5:Tj P w K mg base) :
 aX P w K mg base cO 4 f fd ["known","earlier",aV,"twice"] uT:=-by
 refine F.dm jD 0#a
 obtain ⟨kv,l,x,tw,es,m,q,B,n,S,rfl,hl,hR,hS,hx,ak,jZ,hn,hnb,hm,aj,k0,k1⟩:=h
 obtain ⟨vx,ex,fx,zm⟩:=hx
 apply bx ⟨_,(ao (lA (i:=4) jD.nd rfl (Or.inr rfl) (bu (br (aB K (aa 2)) (bA aR hr (aB K (aa 2)) (aa 3)))) (hs:=ab2)) (ao (Jd.kI (O:=[aG]) (N':=["lowered"]) (cap:=[4]) (i:=5) jD.nd rfl (Or.inl rfl) rfl (j0 K 0#C) (λ_ _ _ _ _=>(c8 (i:=0) (show jR [("one":Str),("lowered":Str)] by decide +kernel) rfl (Or.inl rfl))) (λ_ _ _ _ _=>ly) (λ_ _ _ _ _=>(iX bR (hr.mono 0#s) rfl (eN 0#w (eN 0#C fZ bH) bH) (he:=bH) (hpl:=(cV bH cD)))) rfl ⟨⟨rfl,rfl,rfl,rfl⟩,trivial⟩ rfl 0#u rfl 0#u (by rfl)) (ao (bU (bC kG 0#w gK (aD _)) (aF (gc (fB K (aa 5) 0#w) (hs:=fH))) bY) (aF (aS (uu (bC fF (ju K T.jv (aa 5)) aA (aD _)) (Jd.c1 c5 hr (aa 5)) gK)))))),?_⟩
 apply ⟨vx,tw,q,B,n,S,rfl,fx.qt,ak,by try?,λy1 H1 s1 f1=>?_⟩
 refine aC (mk:=.tup) 0#t λlo H2 s2 n2 e2=>?_
 have gO:=s1.trans s2
 have ag:Vz H2 lo m (q-B) (n+S+1) n:=⟨y1,e2,f1.up s2,zm⟩
 rw?
 apply kJ ?_
 refine ⟨l,rfl,⟨_,bw.of (gO _ _ hl)⟩,?_⟩
 refine di (xs:=vals es) cQ (λZ s3=>bw.of (s3 _ _ (gO _ _ hl))) (by rw [aP];try?) (λi ys G=>∃p:Qs,ys=cK p/\DM G p (3*n+S+3)/\p.map (·.2)=(fN i).map (λj=>cY es (-B) m q j)) ⟨[],rfl,λz hz=>absurd hz 0#t,rfl⟩ ?_ ?_
 ·rintro D i v ys Z jT N N0 h0 hD Y s3 hv hy ⟨p,rfl,ac,I⟩ kY kN
  obtain ⟨e,he,rfl⟩:=ja hv
  have R:i<es.length:=(kM.mp he).1
  obtain ⟨xi,gi,fi⟩:=cC (hR.up (gO.trans s3)) hS R
  rw [he] at gi
  cases gi
  apply jx h0 ?_
  apply bO ?_
  refine ⟨e.1,lo,_,_,_,_,n,n+S+1,n,rfl,fi.saq,ag.up s3,hm i R,by try?,λz H4 s4 f4=>?_⟩
  refine kY _ H4 s4 ⟨p++[(z,cY es (-B) m q i)],by simp [cK],λu J=>?_,?_⟩
  ·rcases iw.mp J with w | w
   ·exact (ac u w).up (rV s4)
   ·obtain rfl:u=(z,cY es (-B) m q i):=by simpa using w
    obtain ⟨t,d,e',ff⟩:=f4.mono (show n+(n+S+1)+n+2<=3*n+S+3 by try?)
    refine ⟨t,d,eK (s4 _ _ Y) e',?_⟩
    have eq:(q-B-wo es i)/((m:Rat)-(mo es i:Rat))=cY es (-B) m q i:=by
     unfold cY
     rw [show q+-B-wo es i=q-B-wo es i by grind]
    rw [<- eq]
    exact ff
  ·rw [gw,I,xD,gw]
   rfl
 ·rintro D ys Z hD Y s3 hy ⟨p,rfl,ac,I⟩
  rw [aP] at I
  have Jz:DM Z p (3*n+S+3):=λu J=>(ac u J).up gM
  have pR:=gO.trans s3
  have hlen:p.length=es.length:=by
   have:=congrArg pL I
   simpa using this
  have ae:∀i,i<es.length->∃u∈p,u.2=cY es (-B) m q i:=λi R=>by
   have:cY es (-B) m q i∈p.map (·.2):=by rw [I];exact lV.mpr ⟨i,tP.mpr R,rfl⟩
   obtain ⟨u,J,e⟩:=lV.mp this
   exact ⟨u,J,e⟩
  have ZC:∀u∈p,∃i,i<es.length/\cY es (-B) m q i=u.2:=λu J=>by
   have:u.2∈p.map (·.2):=lV.mpr ⟨u,J,rfl⟩
   rw [I] at this
   obtain ⟨i,R,e⟩:=lV.mp this
   exact ⟨i,tP.mp R,e⟩
  rw?
  rcases aj with rfl | ⟨L,M,U,rfl,hK⟩
  ·apply ⟨rfl,?_⟩
   apply bF ?_
   apply dN (.inl (bw.of Y)) ?_
   refine c7 (λc=>?_) (λc=>?_)
   ·have c':=dF c
    have L:0<p.length:=by
     have e:(cK p).length=p.length:=iR ..
     rw [e] at c'
     try?
    rw?
    apply ⟨D,p,3*n+S+3,rfl,Y,Jz,by try?,L,λu J pN=>?_⟩
    refine k1 0#q u.1 u.2 Z pR (Jz u J) (λM U e=>by cases e) (λi R=>?_) (.inl (ZC u J))
    obtain ⟨z,hz,e⟩:=ae i R
    rw [<- e]
    exact pN z hz
   ·have c':=kh (ki.mpr c)
    rw?
    refine k0 ?_ rfl Z pR
    have e:(cK p).length=p.length:=iR ..
    rw [e] at c'
    try?
  ·apply ⟨rfl,?_⟩
   apply bO ?_
   apply ⟨.inl ⟨rfl,_,bw.of Y⟩,?_⟩
   have e:(cK p).length=p.length:=iR ..
   refine eG Y (by rw [e];exact aY 0#q) ?_
   have e4:upd Z D (.lst (cK p++[.ref M])) D=some (.lst (cK (p++[(M,U)]))):=by rw [au];simp [cK]
   have ai:=hK.up pR
   generalize hG:upd Z D (.lst (cK p++[.ref M]))=H4 at *
   have Dp:ah H2 H4:=by rw [<- hG];exact bB s3 hD
   have ad:DM H4 (p++[(M,U)]) (3*n+S+3):=λu J=>by
    rcases iw.mp J with w | w
    ·rw [<- hG];exact (Jz u w).app Y
    ·obtain rfl:u=(M,U):=by simpa using w
     rw [<- hG];exact ai.app Y
   rw?
   apply dN (.inl (bw.of e4)) ?_
   have e':(cK (p++[(M,U)])).length=p.length+1:=by simp [cK]
   rw [e',show decide ((((p.length+1:Nat):Int))>0)=true from dY 0#q]
   apply bO ?_
   apply ⟨D,p++[(M,U)],3*n+S+3,rfl,e4,ad,by try?,by simp,λu J pN=>?_⟩
   refine k1 L u.1 u.2 H4 (gO.trans Dp) (ad u J) (λpk' Kq' e1 q1=>?_) (λi R=>?_) ?_
   ·cases e1
    rw [Dh q1 hK]
    exact pN (M,U) 0#t
   ·obtain ⟨z,hz,e1⟩:=ae i R
    rw [<- e1]
    exact pN z (HX _ hz)
   ·rcases iw.mp J with w | w
    ·exact .inl (ZC u w)
    ·obtain rfl:u=(M,U):=by simpa using w
     exact .inr ⟨M,rfl,hK⟩
def jE:dB 4 ["known","earlier",aV,"twice","raised",cI] j9:=0#p
def vQ (F:dS K "steepest_with" j9 f fd) (T:Txt mg) (bM:0#c 1 "loose_plus" [aG,az] (iO (·+·) 1)) (bR:X5 P w K mg base) (jq:0#c 2 "smallest" [fh] yW) :
 aX P w K mg base cO 4 f fd ["known","earlier",aV,"twice"] yX:=-by
 refine F.dm jE 0#a
 obtain ⟨kv,l,x,tw,es,m,q,B,n,S,rfl,hl,hR,hS,hx,ak,jZ,hn,hnb,hm,aj,k0,k1⟩:=h
 obtain ⟨vx,ex,fx,zm⟩:=hx
 apply bx ⟨_,(ao (lA (i:=4) jE.nd rfl (Or.inr rfl) (bu (br (aB K (aa 2)) (bA bM hr (aB K (aa 2)) (aa 3)))) (hs:=ab2)) (ao (Jd.kI (O:=[aG]) (N':=["raised"]) (cap:=[4]) (i:=5) jE.nd rfl (Or.inl rfl) rfl (j0 K 0#C) (λ_ _ _ _ _=>(c8 (i:=0) (show jR [("one":Str),("raised":Str)] by decide +kernel) rfl (Or.inl rfl))) (λ_ _ _ _ _=>ly) (λ_ _ _ _ _=>(iX bR (hr.mono 0#s) rfl (eN 0#w (eN 0#C fZ bH) bH) (he:=bH) (hpl:=(cV bH cD)))) rfl ⟨⟨rfl,rfl,rfl,rfl⟩,trivial⟩ rfl 0#u rfl 0#u (by rfl)) (ao (bU (bC kG 0#w gK (aD _)) (aF (gc (fB K (aa 5) 0#w) (hs:=fH))) bY) (aF (aS (uu (bC fF (ju K T.jv (aa 5)) aA (aD _)) (Jd.c1 jq hr (aa 5)) gK)))))),?_⟩
 apply ⟨vx,tw,q,B,n,S,rfl,fx.qt,ak,by try?,λy1 H1 s1 f1=>?_⟩
 refine aC (mk:=.tup) 0#t λlo H2 s2 n2 e2=>?_
 have gO:=s1.trans s2
 have ag:Vz H2 lo m (q+B) (n+S+1) n:=⟨y1,e2,f1.up s2,zm⟩
 rw?
 apply kJ ?_
 refine ⟨l,rfl,⟨_,bw.of (gO _ _ hl)⟩,?_⟩
 refine di (xs:=vals es) cQ (λZ s3=>bw.of (s3 _ _ (gO _ _ hl))) (by rw [aP];try?) (λi ys G=>∃p:Qs,ys=cK p/\DM G p (3*n+S+3)/\p.map (·.2)=(fN i).map (λj=>cY es B m q j)) ⟨[],rfl,λz hz=>absurd hz 0#t,rfl⟩ ?_ ?_
 ·rintro D i v ys Z jT N N0 h0 hD Y s3 hv hy ⟨p,rfl,ac,I⟩ kY kN
  obtain ⟨e,he,rfl⟩:=ja hv
  have R:i<es.length:=(kM.mp he).1
  obtain ⟨xi,gi,fi⟩:=cC (hR.up (gO.trans s3)) hS R
  rw [he] at gi
  cases gi
  apply jx h0 ?_
  apply bO ?_
  refine ⟨e.1,lo,_,_,_,_,n,n+S+1,n,rfl,fi.saq,ag.up s3,hm i R,by try?,λz H4 s4 f4=>?_⟩
  refine kY _ H4 s4 ⟨p++[(z,cY es B m q i)],by simp [cK],λu J=>?_,?_⟩
  ·rcases iw.mp J with w | w
   ·exact (ac u w).up (rV s4)
   ·obtain rfl:u=(z,cY es B m q i):=by simpa using w
    obtain ⟨t,d,e',ff⟩:=f4.mono (show n+(n+S+1)+n+2<=3*n+S+3 by try?)
    refine ⟨t,d,eK (s4 _ _ Y) e',?_⟩
    have eq:(q+B-wo es i)/((m:Rat)-(mo es i:Rat))=cY es B m q i:=by
     rfl
    rw [<- eq]
    exact ff
  ·rw [gw,I,xD,gw]
   rfl
 ·rintro D ys Z hD Y s3 hy ⟨p,rfl,ac,I⟩
  rw [aP] at I
  have Jz:DM Z p (3*n+S+3):=λu J=>(ac u J).up gM
  have pR:=gO.trans s3
  have hlen:p.length=es.length:=by
   have:=congrArg pL I
   simpa using this
  have ae:∀i,i<es.length->∃u∈p,u.2=cY es B m q i:=λi R=>by
   have:cY es B m q i∈p.map (·.2):=by rw [I];exact lV.mpr ⟨i,tP.mpr R,rfl⟩
   obtain ⟨u,J,e⟩:=lV.mp this
   exact ⟨u,J,e⟩
  have ZC:∀u∈p,∃i,i<es.length/\cY es B m q i=u.2:=λu J=>by
   have:u.2∈p.map (·.2):=lV.mpr ⟨u,J,rfl⟩
   rw [I] at this
   obtain ⟨i,R,e⟩:=lV.mp this
   exact ⟨i,tP.mp R,e⟩
  rw?
  rcases aj with rfl | ⟨L,M,U,rfl,hK⟩
  ·apply ⟨rfl,?_⟩
   apply bF ?_
   apply dN (.inl (bw.of Y)) ?_
   refine c7 (λc=>?_) (λc=>?_)
   ·have c':=dF c
    have L:0<p.length:=by
     have e:(cK p).length=p.length:=iR ..
     rw [e] at c'
     try?
    rw?
    apply ⟨D,p,3*n+S+3,rfl,Y,Jz,by try?,L,λu J pN=>?_⟩
    refine k1 0#q u.1 u.2 Z pR (Jz u J) (λM U e=>by cases e) (λi R=>?_) (.inl (ZC u J))
    obtain ⟨z,hz,e⟩:=ae i R
    rw [<- e]
    exact pN z hz
   ·have c':=kh (ki.mpr c)
    rw?
    refine k0 ?_ rfl Z pR
    have e:(cK p).length=p.length:=iR ..
    rw [e] at c'
    try?
  ·apply ⟨rfl,?_⟩
   apply bO ?_
   apply ⟨.inl ⟨rfl,_,bw.of Y⟩,?_⟩
   have e:(cK p).length=p.length:=iR ..
   refine eG Y (by rw [e];exact aY 0#q) ?_
   have e4:upd Z D (.lst (cK p++[.ref M])) D=some (.lst (cK (p++[(M,U)]))):=by rw [au];simp [cK]
   have ai:=hK.up pR
   generalize hG:upd Z D (.lst (cK p++[.ref M]))=H4 at *
   have Dp:ah H2 H4:=by rw [<- hG];exact bB s3 hD
   have ad:DM H4 (p++[(M,U)]) (3*n+S+3):=λu J=>by
    rcases iw.mp J with w | w
    ·rw [<- hG];exact (Jz u w).app Y
    ·obtain rfl:u=(M,U):=by simpa using w
     rw [<- hG];exact ai.app Y
   rw?
   apply dN (.inl (bw.of e4)) ?_
   have e':(cK (p++[(M,U)])).length=p.length+1:=by simp [cK]
   rw [e',show decide ((((p.length+1:Nat):Int))>0)=true from dY 0#q]
   apply bO ?_
   apply ⟨D,p++[(M,U)],3*n+S+3,rfl,e4,ad,by try?,by simp,λu J pN=>?_⟩
   refine k1 L u.1 u.2 H4 (gO.trans Dp) (ad u J) (λpk' Kq' e1 q1=>?_) (λi R=>?_) ?_
   ·cases e1
    rw [Dh q1 hK]
    exact pN (M,U) 0#t
   ·obtain ⟨z,hz,e1⟩:=ae i R
    rw [<- e1]
    exact pN z (HX _ hz)
   ·rcases iw.mp J with w | w
    ·exact .inl (ZC u w)
    ·obtain rfl:u=(M,U):=by simpa using w
     exact .inr ⟨M,rfl,hK⟩
def jI (h:i<es.length):mo (es++fs) i=mo es i:=by unfold mo;rw [B4 h]
def jM (h:i<es.length):wo (es++fs) i=wo es i:=by unfold wo;rw [B4 h]
def Em {es:0#f}:mo (es++[(a,m,some q)]) es.length=m:=by unfold mo;simp
def F4 {es:0#f}:wo (es++[(a,m,some q)]) es.length=q:=by unfold wo;simp
def nN (hij:i<j) (hj:j<es.length):jc (es++[(a,m,some q)]) B i j=jc es B i j:=-by
 unfold jc
 rw [jI hj,jM hj,jI 0#q,jM 0#q]
def kP (hij:i<j) (hj:j<es.length):fQ (es++[(a,m,some q)]) B i j=fQ es B i j:=-by
 unfold fQ
 rw [jI hj,jM hj,jI 0#q,jM 0#q]
def yJ (hi:i<es.length):jc (es++[(a,m,some q)]) B i es.length=cY es (-B) m q i:=-by
 unfold jc cY
 rw [Em,F4,jI hi,jM hi,show q+-B=q-B by grind]
def ur (hi:i<es.length):fQ (es++[(a,m,some q)]) B i es.length=cY es B m q i:=-by
 unfold fQ cY
 rw [Em,F4,jI hi,jM hi]
def Uv (h0:0<es.length) (h1:2<=es.length->∃G0,X8 es B G0/\G0<=G) (hall:∀i,i<es.length->cY es (-B) m q i<=G) (hex:(∃i,i<es.length/\cY es (-B) m q i=G)\/(2<=es.length/\X8 es B G)):X8 (es++[(a,m,some q)]) B G:=-by
 refine ⟨λi j n u=>?_,?_⟩
 ·rw [gA] at u
  have hj':j<es.length+1:=u
  by_cases e:j=es.length
  ·subst e
   rw [yJ n]
   exact hall i n
  ·rw [nN n 0#q]
   obtain ⟨G0,g,le⟩:=h1 0#q
   have:=g.1 i j n 0#q
   grind
 ·rcases hex with ⟨i,p,e⟩ | ⟨h2,g⟩
  ·exact ⟨i,es.length,p,by rw [gA];show _<es.length+1;try?,by rw [yJ p];exact e⟩
  ·obtain ⟨i,j,a1,a2,a3⟩:=g.2
   exact ⟨i,j,a1,by rw [gA];show _<es.length+1;try?,by rw [nN a1 a2];exact a3⟩
def Uw (h0:0<es.length) (h1:2<=es.length->∃S0,X9 es B S0/\S<=S0) (hall:∀i,i<es.length->S<=cY es B m q i) (hex:(∃i,i<es.length/\cY es B m q i=S)\/(2<=es.length/\X9 es B S)):X9 (es++[(a,m,some q)]) B S:=-by
 refine ⟨λi j n u=>?_,?_⟩
 ·rw [gA] at u
  have hj':j<es.length+1:=u
  by_cases e:j=es.length
  ·subst e
   rw [ur n]
   exact hall i n
  ·rw [kP n 0#q]
   obtain ⟨S0,g,le⟩:=h1 0#q
   have:=g.1 i j n 0#q
   grind
 ·rcases hex with ⟨i,p,e⟩ | ⟨h2,g⟩
  ·exact ⟨i,es.length,p,by rw [gA];show _<es.length+1;try?,by rw [ur p];exact e⟩
  ·obtain ⟨i,j,a1,a2,a3⟩:=g.2
   exact ⟨i,j,a1,by rw [gA];show _<es.length+1;try?,by rw [kP a1 a2];exact a3⟩
def AR (h:rising es) (hm:∀i,i<es.length->mo es i<m):rising (es++[(a,m,some q)]):=-by
 refine List.pairwise_append.mpr ⟨h,List.pairwise_singleton _ _,λx p y u=>?_⟩
 obtain rfl:y=(a,m,some q):=by simpa using u
 obtain ⟨i,n,rfl⟩:=List.getElem_of_mem p
 have:=hm i n
 unfold mo at this
 rw [lW n] at this
 exact this
def nE (h:jN es):jN (es++[(a,m,some q)]):=λx hx=>by
 rcases iw.mp hx with z | z
 ·exact h x z
 ·obtain rfl:x=(a,m,some q):=by simpa using z
  rfl
def VR (s:ah H H2):ah (OF p L H) (upd (upd (upd H2 p o1) p o2) L o3):=λb o e=>by
 unfold OF rm at e
 by_cases h1:b=p
 ·rw [if_pos h1] at e;cases e
 ·rw [if_neg h1] at e
  by_cases h2:b=L
  ·rw [if_pos h2] at e;cases e
  ·rw [if_neg h2] at e
   rw [aJ h2,aJ h1,aJ h1]
   exact s _ _ e
def jB:dB 2 [bN,aV,gD,gE] j4:=0#p
abbrev X6 P w K mg base:=Dn P w K mg base 4 "gentlest_with" ["known","earlier",aV,"twice"] uT
abbrev X7 P w K mg base:=Dn P w K mg base 4 "steepest_with" ["known","earlier",aV,"twice"] yX
def vL (F:pM K "takes" "Stretch.takes" j4 f fd) (T:Txt mg) (aU:ku K mg aH) (ck:X6 P w K mg base) (cu:X7 P w K mg base)
 (cM:IS P w K mg base):0#b 5 f fd [bN,aV] (FY aH):=-by
 refine F.dm jB 0#a
 obtain ⟨p,L,x,es,m,q,B,n,nb,rfl,ai,hx,hm,jZ,hn,ag,hB,k⟩:=h
 obtain ⟨dx,tw,fs,g,s',ep,u,Z,hR,hS,fW,ac,hI⟩:=id ai
 have P7:L≠p:=λz=>by rw [z,ep] at Z;cases Z
 have fl:=u.len
  -- the sample is taken: the two slopes stand at gv, sv
 have take:∀(gv sv:V) (J:Hp),ah H J->Gq (es++[(x,m,some q)]) B ->
  ((es.length=0/\gv=.bG/\sv=.bG)\/(0<es.length/\∃(M ps:af) (G S:Rat),gv=.ref M/\sv=.ref ps/\bI J M G (3*n+nb+3)/\bI J ps S (3*n+nb+3)/\X8 (es++[(x,m,some q)]) B G/\X9 (es++[(x,m,some q)]) B S/\G<=S)) ->
  Q (.bl true) (upd (upd (upd J p (.ins aH dx (av "gentlest" gv fs))) p (.ins aH dx (av "steepest" sv (av "gentlest" gv fs)))) L (.lst (vals es++[.ref x]))):=by
  intro gv sv J N al an
  have O:=N _ _ ep
  have R:=N _ _ Z
  have k3:=VR (p:=p) (L:=L) (o1:=.ins aH dx (av "gentlest" gv fs)) (o2:=.ins aH dx (av "steepest" sv (av "gentlest" gv fs))) (o3:=.lst (vals es++[.ref x])) (ah.refl J)
  refine k true _ (VR N) ⟨λ_=>al,λ_=>rfl⟩ ?_
  rw [if_pos rfl]
  refine ⟨dx,tw,_,gv,sv,by rw [aJ (jS P7),au],u.setG.aac,by rw [au];exact congrArg (λz=>some (HO.lst z)) (fK es (x,m,some q)),?_,nE hS,AR fW hm,((ac.up N).out O R).up k3,?_⟩
  ·exact Row.up ((Row.out O R (hR.up N)).snoc (nB.out O R (hx.up N).en)) k3
  ·rw [gA]
   rcases an with ⟨h0,e1,e2⟩ | ⟨h0,M,ps,G,S,e1,e2,Y,q2,g1,g2,g3⟩
   ·exact .inl ⟨by show es.length+1<2;try?,e1,e2⟩
   ·exact .inr ⟨by show 2<=es.length+1;try?,M,ps,G,S,e1,e2,(Y.out O R).up k3,(q2.out O R).up k3,g1,g2,g3⟩
 apply bx ⟨_,(ao (aM 2 jB.nd (iX ck (hr.mono 0#s) rfl (Jd.a4 (dD K 0#w) (dD K 0#w) 0#C (dD K 0#w)) (he:=(by rfl)) (hpl:=(cV (by rfl) (cV bH (cV (by rfl) cD)))))) (ao (aM 3 jB.nd (iX cu (hr.mono 0#s) rfl (Jd.a4 (dD K 0#w) (dD K 0#w) 0#C (dD K 0#w)) (he:=(by rfl)) (hpl:=(cV (by rfl) (cV bH (cV (by rfl) cD)))))) (ao (bU (jg (Jd.lF (bC fF (ju K T.jv (dD K 0#w)) aA (aD _)) (uv (bC fF (bA cM hr (aa 2) (aa 3)) aA (aD _))))) (aF (aS mh)) bY) (ao (gT K 0#w (aa 2)) (ao (gT K 0#w (aa 3)) (ao (gc (fB K (dD K 0#w) 0#C) (hs:=fH)) (aF (aS mh)))))))),?_⟩
 apply kq aU ep u.g ?_
 apply kq aU ep u.sl ?_
 apply kq aU ep u.tw ?_
 refine ⟨g,L,x,tw,es,m,q,B,n,nb,rfl,Z,hR,hS,hx,ac,jZ,iy hn 0#s,iy ag 0#s,hm,?_,λh0 hg H1 I=>?_,λv M G H1 I f1 hK aj ar=>?_⟩
 ·rcases hI with ⟨_,z,_⟩ | ⟨z,M,ps,G,S,e1,_,Y,_⟩
  ·exact .inl z
  ·exact .inr ⟨by try?,M,G,e1,Y⟩
 ·have Ow:=I _ _ ep
  have as:s'=.bG:=by
   rcases hI with ⟨_,_,z⟩ | ⟨z,_⟩
   ·exact z
   ·try?
  rw?
  apply kq aU Ow u.s ?_
  apply kq aU Ow u.sl ?_
  apply kq aU Ow u.tw ?_
  refine ⟨s',L,x,tw,es,m,q,B,n,nb,rfl,I _ _ Z,hR.up I,hS,hx.up I,ac.up I,jZ,iy hn 0#s,iy ag 0#s,hm,.inl as,λ_ _ J N=>?_,λv=>absurd v 0#q⟩
  have U:=I.trans N
  have O:=U _ _ ep
  rw?
  apply kq aU O u.sl ?_
  refine dN (.inl (bw.of (U _ _ Z))) ?_
  rw [aP]
  rw?
  rw [show decide (((es.length:Nat):Int)>0)=false from g9 0#q]
  refine bF ?_
  apply bF ?_
  apply yO aU O 0#q ?_
  apply yO aU au (by rw [nW u.g];try?) ?_
  apply kq aU au u.setG.aac.sl ?_
  have LA:upd (upd J p (.ins aH dx (av "gentlest" .bG fs))) p (.ins aH dx (av "steepest" .bG (av "gentlest" .bG fs))) L=some 0#D:=by
   rw [aJ P7,aJ P7]
   exact U _ _ Z
  apply ⟨.inl ⟨rfl,_,bw.of LA⟩,?_⟩
  apply eG LA (by rw [aP];exact aY 0#q) ?_
  refine take .bG .bG J U (λi j k l a1 a2 b1 b2=>?_) (.inl ⟨h0,rfl,rfl⟩)
  rw [gA,h0] at a2
  have a2':j<0+1:=a2
  try?
 ·have Ow:=I _ _ ep
  rw?
  apply kq aU Ow u.s ?_
  apply kq aU Ow u.sl ?_
  apply kq aU Ow u.tw ?_
  refine ⟨s',L,x,tw,es,m,q,B,n,nb,rfl,I _ _ Z,hR.up I,hS,hx.up I,ac.up I,jZ,iy hn 0#s,iy ag 0#s,hm,?_,λh0=>absurd h0 0#q,λ_ ps S J N f2 ap am ak=>?_⟩
  ·rcases hI with ⟨_,_,z⟩ | ⟨z,M,ps,G,S,_,e1,_,Y,_⟩
   ·exact .inl z
   ·exact .inr ⟨by try?,ps,S,e1,Y.up I⟩
  have U:=I.trans N
  have O:=U _ _ ep
  have gG:X8 (es++[(x,m,some q)]) B G:=by
   refine Uv v (λh2=>?_) aj ?_
   ·rcases hI with ⟨z,_⟩ | ⟨_,ad,ae,G0,S0,e1,e2,Y,q2,g1,g2,g3⟩
    ·try?
    ·exact ⟨G0,g1,hK ad G0 e1 Y⟩
   ·rcases ar with z | ⟨pk,e,qk⟩
    ·exact .inl z
    ·rcases hI with ⟨_,z,_⟩ | ⟨z,ad,ae,G0,S0,e1,e2,Y,q2,g1,g2,g3⟩
     ·rw [z] at e;cases e
     ·rw [e1] at e
      cases e
      rw [Dh qk Y]
      exact .inr ⟨z,g1⟩
  have gS:X9 (es++[(x,m,some q)]) B S:=by
   refine Uw v (λh2=>?_) am ?_
   ·rcases hI with ⟨z,_⟩ | ⟨_,ad,ae,G0,S0,e1,e2,Y,q2,g1,g2,g3⟩
    ·try?
    ·exact ⟨S0,g2,ap ae S0 e2 (q2.up I)⟩
   ·rcases ak with z | ⟨pk,e,qk⟩
    ·exact .inl z
    ·rcases hI with ⟨_,_,z⟩ | ⟨z,ad,ae,G0,S0,e1,e2,Y,q2,g1,g2,g3⟩
     ·rw [z] at e;cases e
     ·rw [e2] at e
      cases e
      rw [Dh qk (q2.up I)]
      exact .inr ⟨z,g2⟩
  have fit:=LC gG gS
  rw?
  apply kq aU O u.sl ?_
  refine dN (.inl (bw.of (U _ _ Z))) ?_
  rw [aP]
  rw?
  rw [show decide (((es.length:Nat):Int)>0)=true from dY 0#q]
  apply bO ?_
  apply ⟨M,ps,G,S,_,_,rfl,f1.up N,f2,by try?,λo OA ho2=>?_⟩
  refine c7 (λc=>?_) (λc=>?_)
  ·have c':S<G:=OA.mp (dF c)
   rw?
   refine k false J (λb o e=>U _ _ (QY _ _ e)) ⟨λz=>absurd z 0#s,λz=>?_⟩ ?_
   ·have:=fit.mp z
    grind
   ·rw [if_neg nv]
    exact ai.up U
  ·have c':G<=S:=iI.mp λz=>kh (ki.mpr c) (OA.mpr z)
   rw?
   apply yO aU O 0#q ?_
   apply yO aU au (by rw [nW u.g];try?) ?_
   apply kq aU au u.setG.aac.sl ?_
   have LA:upd (upd J p (.ins aH dx (av "gentlest" (.ref M) fs))) p (.ins aH dx (av "steepest" (.ref ps) (av "gentlest" (.ref M) fs))) L=some 0#D:=by
    rw [aJ P7,aJ P7]
    exact U _ _ Z
   apply ⟨.inl ⟨rfl,_,bw.of LA⟩,?_⟩
   apply eG LA (by rw [aP];exact aY 0#q) ?_
   exact take (.ref M) (.ref ps) J U (fit.mpr c') (.inr ⟨v,M,ps,G,S,rfl,rfl,f1.up N,f2,gG,gS,c'⟩)
def yr:dB 1 [bN] lK:=0#p
def yf (F:pM K "kept" "Stretch.kept" lK f fd) (T:Txt mg) (aU:ku K mg aH):0#b 1 f fd [bN] (KQ aH):=-by
 refine F.dm yr 0#a
 obtain ⟨p,L,es,B,n,nb,rfl,⟨dx,tw,fs,g,s',z,D,v,_⟩,k⟩:=h
 apply bx ⟨_,(aF (aS (uw kE rfl T.Hj HW (c9 (dD K 0#w))))),?_⟩
 apply kq aU z D.sl ?_
 exact ⟨L,_,rfl,.inl (bw.of v),λR u=>k R _ (iu u _) u au⟩
def sA.fresh (h:sA C H p L [] B n nb) (hn:nb<=nb'):sA C H p L [] B n' nb':=-by
 obtain ⟨u,tw,fs,g,s',v,A,D,h4,E,G,I,J⟩:=h
 refine ⟨u,tw,fs,g,s',v,A,D,λx M=>absurd M 0#t,E,G,I.mono hn,?_⟩
 rcases J with z | ⟨z,_⟩
 ·exact .inl z
 ·exact absurd z 0#s
def sA.fit (h:sA C H p L es B n nb):Gq es B:=-by
 obtain ⟨dx,tw,fs,g,s',h1,h2,h3,h4,h5,h6,h7,D⟩:=h
 rcases D with ⟨z,_⟩ | ⟨z,pg,ps,G,S,e1,e2,q1,q2,u,v,A⟩
 ·intro i j k l a1 a2 b1 b2
  try?
 ·exact (LC u v).mpr A
noncomputable def piece (es:0#f) (n m:Nat):List En:=(es.drop n).take (m-n)
def Cut (es:0#f) (B:Rat) (qs:List (List En)) (n:Nat):Prop:=∃pos:Nat->Nat,pos 0=0/\pos qs.length=n/\∀i q,qs[i]?=some q->pos i<pos (i+1)/\pos (i+1)<=es.length/\q=piece es (pos i) (pos (i+1))/\Gq q B/\(pos (i+1)<es.length->¬Gq (piece es (pos i) (pos (i+1)+1)) B)
def Cut.nil:Cut es B [] 0:=⟨λ_=>0,rfl,rfl,λi q h=>by simp at h⟩
def Cut.snoc (h:Cut es B qs n) (h1:n<n') (h2:n'<=es.length) (hf:Gq (piece es n n') B) (hn:n'<es.length->¬Gq (piece es n (n'+1)) B):Cut es B (qs++[piece es n n']) n':=-by
 obtain ⟨pos,v,z,h⟩:=h
 refine ⟨λj=>if j<=qs.length then pos j else n',?_,?_,λi q p=>?_⟩
 ·show (if 0<=qs.length then pos 0 else n')=0
  rw [if_pos (lY _)]
  exact v
 ·show (if (qs++[piece es n n']).length<=qs.length then pos (qs++[piece es n n']).length else n')=n'
  rw [if_neg (by rw [gA];show ¬qs.length+1<=qs.length;try?)]
 ·by_cases hi':i<qs.length
  ·rw [B4 hi'] at p
   simp only [if_pos (show i<=qs.length by try?),if_pos (show i+1<=qs.length by try?)]
   exact h i q p
  ·have u:=(kM.mp p).1
   rw [gA] at u
   have hi3:i<qs.length+1:=u
   obtain rfl:i=qs.length:=by try?
   rw [F9 (d8 _),SM] at p
   obtain rfl:piece es n n'=q:=by simpa using p
   simp only [if_pos (d8 _),if_neg (show ¬qs.length+1<=qs.length by try?),z]
   exact ⟨h1,h2,trivial,hf,hn⟩
def vV (h:j<m-n):(piece es n m)[j]?=es[n+j]?:=-by
 unfold piece
 rw [MB,if_pos h,tN]
def rB (h:m<=es.length):(piece es n m).length=m-n:=-by
 unfold piece
 rw [yw,kj]
 try?
def oS (h:n<=i) (he:es[i]?=some e):piece es n (i+1)=piece es n i++[e]:=-by
 unfold piece
 rw [show i+1-n=(i-n)+1 by try?,qT,tN,show n+(i-n)=i by try?,he]
 rfl
def piece_nil:piece es n n=[]:=by unfold piece;simp
def uC (h:j<m-n):mo (piece es n m) j=mo es (n+j):=by unfold mo;rw [vV h]
def LD (h:es.length<=1):Gq es B:=λi j k l a1 a2 b1 b2=>by try?
def LL.mv (h:LL H H2 T ls) (ep:H2 p=some (.ins C dx fs)) (nT:T≠L) (nl:∀x∈ls,x.1≠L) (s:ah (OF p L H2) H3):LL H H3 T ls:=-by
 have e:=h.at_
 refine ⟨h.new,s _ _ (by rw [AS (λq=>by rw [q,ep] at e;cases e) nT];exact e),λx n=>?_,h.nd⟩
 obtain ⟨a,b,c⟩:=h.each x n
 exact ⟨a,s _ _ (by rw [AS (λq=>by rw [q,ep] at b;cases b) (nl x n)];exact b),c⟩
inductive qK (C:af) (vs:List V) (H:Hp) (Q:VK) (E_:XK):Prop where
 | mk (l pb:af) (es:0#f) (β:Rat) (N n:Nat):vs=[.ref l,.ref pb]->H l=some 0#D->Row H es N->jN es->rising es->bI H pb β n->0<=β->N<=1000->n<=1000->es.length<=40->(∀(T:af) (ls:Ls) (H':Hp),ah H H'->LL H H' T ls->Cut es (2*β) (ls.map (·.2)) es.length->ls.length<=40->Q (.ref T) H')->qK C vs H Q E_
def i9:dB 2 [aQ,aL,"told",fj,aV] qF:=0#p
def ED (F:dS K "stretches" qF f fd) (T:Txt mg) (aU:ku K mg aH) (qV:Dk P w K mg base 6 "Stretch" aH [bN,aL] (Bu aH)) (iA:Dm P w K mg base 5 aH "takes" [bN,aV] (FY aH)) (iS:Dm P w K mg base 1 aH "kept" [bN] (KQ aH)) :
 aX P w K mg base cO 8 f fd [aQ,aL] (qK aH):=-by
 refine F.dm i9 0#a
 obtain ⟨l,pb,es,β,N,n,rfl,hl,aR,hS,fW,bi,fX,hN,hn,Cf,k⟩:=h
 have ay:(0:Rat)<=2*β:=by grind
  -- a new Stretch
 have fresh:∀{G:Hp} {QQ:Hp->Prop} {p Z:af},ah H G->G p=none->G Z=none->(∀(L:af) (G':Hp),ah G G'->G L=none->sA aH G' p L [] (2*β) N (2*n+1)->QQ G') ->
  Bu aH [.ref p,.ref pb] (upd (upd G Z (.own p)) p (.ins aH Z [])) (λv G'=>v=.bG/\QQ G') E0:=λ{G QQ p Z} s U al kk=>by
  have s1:ah G (upd (upd G Z (.own p)) p (.ins aH Z [])):=λb' o e=>by
   rw [aJ (bh e U),aJ (bh e al)]
   exact e
  refine ⟨p,Z,pb,β,n,rfl,au,bi.up (s.trans s1),hn,λL G' kn s2 O u=>⟨rfl,?_⟩⟩
  exact kk L G' (λb' o e=>s2 _ _ (by rw [lH (bh e U)];exact s1 _ _ e)) (s1.free O) (sA.fresh u (d8 _))
 apply bx ⟨_,(ao (aM 2 i9.nd (dU fZ)) (ao (aM 3 i9.nd (Jd.QB qV (hr.mono 0#s) rfl (c9 0#C) (he:=bH) (hpl:=cD))) (ao (gQ jd rfl (j0 K 0#w) (c8 (i:=4) i9.nd rfl (Or.inl rfl)) (aF (bU (Jd.oU (iW (Jd.uJ iA aU.cl (hr.mono 0#s) (aa 3) (c9 (aa 4)) (he:=bH) (hpl:=cD)))) (ao (gc (fB K (aa 2) (Jd.JY iS aU.cl (hr.mono 0#s) (aa 3))) (hs:=fH)) (ao (aM 3 i9.nd (Jd.QB qV (hr.mono 0#s) rfl (c9 0#C) (he:=bH) (hpl:=cD))) (aF (gc (Jd.uJ iA aU.cl (hr.mono 0#s) (aa 3) (c9 (aa 4)) (he:=bH) (hpl:=cD)) (hs:=fH))))) bY))) (ao (bU (bC fF (ju K T.jv 0#w) aA (aD _)) (aF (gc (fB K (aa 2) (Jd.JY iS aU.cl (hr.mono 0#s) (aa 3))) (hs:=fH))) bY) (aF (aS (aa 2))))))),?_⟩
 apply aC (mk:=.lst) 0#t λTT H1 s1 n1 e1=>?_
 refine λp Z U al _=>fresh s1 U al λL H2 s2 O u=>?_
 have gO:=s1.trans s2
 rw?
 apply iZ (kJ ?_)
 refine ⟨l,rfl,⟨_,bw.of (gO _ _ hl)⟩,fu (xs:=vals es) (λi σ H3=>Xs5 λ(p L:af) (B:Ls) (z:Nat) (v:Option V)=>σ=[some (.ref l),some (.ref pb),some (.ref TT),some (.ref p),v]/\ah H H3/\LL H H3 TT B/\Cut es (2*β) (B.map (·.2)) z/\z<=i/\(0<i->z<i)/\B.length<=z/\sA aH H3 p L (piece es z i) (2*β) N (2*n+1)/\H p=none/\H L=none/\TT≠L/\∀x∈B,x.1≠L) ?_ ?_ ?_ ?_⟩
 ·refine ⟨p,L,[],0,none,rfl,gO,⟨n1,s2 _ _ e1,λx I=>absurd I 0#t,by simp⟩,Cut.nil,d8 _,λh=>absurd h 0#s,d8 _,?_,s1.free U,s1.free O,λq=>?_,λx I=>absurd I 0#t⟩
  ·rw [piece_nil];exact u
  ·rw [<- q,e1] at O;cases O
 ·rintro i σ H3 _ ⟨p,L,B,z,v,rfl,Y,_⟩
  exact bw.of (Y _ _ hl)
 ·rintro i x σ H3 I ⟨p,L,B,z,v,rfl,Y,Cb,hC,ae,YX,ap,u,U,O,ak,am⟩
  refine ig λM Bk RR hM _ _=>?_
  obtain ⟨e,he,rfl⟩:=ja I
  have hi:i<es.length:=(kM.mp he).1
  obtain ⟨e',aN,bm⟩:=cC (aR.up Y) hS hi
  rw [he] at aN
  cases aN
  have ee:e=(e.1,mo es i,some (wo es i)):=by
   have hs:=hS e (nk he)
   obtain ⟨a,m,v⟩:=e
   cases v with
   | none=>cases hs
   | some q=>
     unfold mo wo
     rw [he]
     rfl
  have aT:(piece es z i).length=i-z:=rB 0#q
  have hm:∀j,j<(piece es z i).length->mo (piece es z i) j<mo es i:=λj hj=>by
   rw [aT] at hj
   rw [uC hj]
   exact gh fW 0#q hi
  have D:=oS ae he
  rw [ee] at D
  obtain ⟨dx3,tw,fs,g,s',ep,hF,eL,_⟩:=id u
  rw?
  apply OE ep (hF.vG "takes") ?_
  refine ⟨p,L,e.1,piece es z i,mo es i,wo es i,_,N,2*n+1,rfl,u,bm,hm,by try?,hN,by try?,ay,λr H4 s4 ac NG=>?_⟩
  rw [<- D] at ac NG
  have Dp:ah H H4:=λb' o q=>s4 _ _ (by rw [AS (bh q U) (bh q O)];exact Y _ _ q)
  have Pj:=Cb.mv ep ak am s4
  cases r with
  | true=>
    rw [if_pos rfl] at NG
    rw?
    apply bF ?_
    exact hM _ _ ⟨p,L,B,z,_,rfl,Dp,Pj,hC,by try?,λ_=>by try?,ap,NG,U,O,ak,am⟩
  | false=>
    rw [if_neg nv] at NG
    have nf:¬Gq (piece es z (i+1)) (2*β):=λq=>absurd (ac.mpr q) 0#s
    have a8:z<i:=by
     first|exact S5|refine S5 ?_|refine S5 ?_ ?_
     intro q
     exact nf (LD (by rw [rB 0#q];try?))
    have bb:Cut es (2*β) (B.map (·.2)++[piece es z i]) i:=hC.snoc a8 0#q u.fit λ_=>nf
    obtain ⟨a',bo,ba,g4,bn,ad,ag,LA,_⟩:=id NG
    rw?
    apply bO ?_
    apply ⟨.inl ⟨rfl,_,bw.of Pj.at_⟩,?_⟩
    apply OE ad (ag.vG "kept") ?_
    refine ⟨p,L,_,_,_,_,rfl,NG,λR H5 s5 S eR=>?_⟩
    have Pk:=Pj.up s5
    have ai:R≠TT:=λq=>by rw [q,Pj.at_] at S;cases S
    have aj:∀x∈B,x.1≠R:=λx I q=>by
     have:=(Pj.each x I).2.1
     rw [q,S] at this
     cases this
    rw?
    refine eG Pk.at_ (by rw [dG];exact aY 0#q) ?_
    have Nm:=Pk.push (Dp.free S) eR ai aj
    have CH:ah H (upd H5 TT (.lst (lrefs B++[.ref R]))):=bB (Dp.trans s5) n1
    generalize upd H5 TT (.lst (lrefs B++[.ref R]))=H6 at Nm CH ⊢
    rw?
    refine λp' dx' an a7 _=>fresh CH an a7 λL' H7 s7 J ar=>?_
    have V7:=CH.trans s7
    have Jk:=Nm.up s7
    obtain ⟨dx7,tw7,fs7,g7,s7',VH,bc,eL7,_⟩:=id ar
    rw?
    apply OE VH (bc.vG "takes") ?_
    refine ⟨p',L',e.1,[],mo es i,wo es i,_,N,2*n+1,rfl,ar,?_,λj hj=>absurd hj (xC _),lY _,hN,by try?,ay,λr2 H8 s8 a5 as=>?_⟩
    ·obtain ⟨e2,Tc,a6⟩:=cC (aR.up V7) hS hi
     rw [he] at Tc
     cases Tc
     exact a6
    have bj:r2=true:=a5.mpr (LD 0#t)
    rw [if_pos bj,Xg,<- ee] at as
    have aw:TT≠L':=λq=>by rw [<- q,Nm.at_] at J;cases J
    have ax:∀x∈B++[(R,piece es z i)],x.1≠L':=λx I q=>by
     have:=(Nm.each x I).2.1
     rw [q,J] at this
     cases this
    have a9:=Jk.mv VH aw ax s8
    rw?
    refine hM _ _ ⟨p',L',B++[(R,piece es z i)],i,_,rfl,λb' o q=>s8 _ _ (by rw [AS (bh q (CH.free an)) (bh q (CH.free J))];exact V7 _ _ q),a9,?_,by try?,λ_=>by try?,by rw [gA];show B.length+1<=i;try?,?_,CH.free an,CH.free J,aw,ax⟩
    ·rw [gw]
     exact bb
    ·rw [oS (d8 _) he,piece_nil]
     exact as
 ·rintro σ H3 ⟨p,L,B,z,v,rfl,Y,Cb,hC,ae,YX,ap,u,U,O,ak,am⟩
  rw [aP] at ae YX u
  rw?
  refine dN (.inl (bw.of (Y _ _ hl))) ?_
  rw [aP]
  rw?
  refine c7 (λc=>?_) (λc=>?_)
  ·have c':=dF c
   obtain ⟨a',bo,ba,g4,bn,ad,ag,LA,_⟩:=id u
   rw?
   apply ⟨.inl ⟨rfl,_,bw.of Cb.at_⟩,?_⟩
   apply OE ad (ag.vG "kept") ?_
   refine ⟨p,L,_,_,_,_,rfl,u,λR H5 s5 S eR=>?_⟩
   have Pk:=Cb.up s5
   have ai:R≠TT:=λq=>by rw [q,Cb.at_] at S;cases S
   have aj:∀x∈B,x.1≠R:=λx I q=>by
    have:=(Cb.each x I).2.1
    rw [q,S] at this
    cases this
   have be:z<es.length:=YX 0#q
   rw?
   refine eG Pk.at_ (by rw [dG];exact aY 0#q) ?_
   have Nm:=Pk.push (Y.free S) eR ai aj
   rw?
   refine k TT _ _ (bB (Y.trans s5) n1) Nm ?_ (by rw [gA];show B.length+1<=40;try?)
   rw [gw]
   exact hC.snoc be (d8 _) u.fit λq=>absurd q (BV _)
  ·have c':=kh (ki.mpr c)
   rw?
   refine k TT B H3 Y Cb ?_ 0#q
   rw [show es.length=z by try?]
   exact hC
section
variable (t y:Nat->Int)
noncomputable def ab (i k p:Nat):Int:=y p*(t k-t i)-y i*(t k-t p)-y k*(t p-t i)
noncomputable def nS (i j k p:Nat):Int:=2*ab t y i k p-ab t y i k j
noncomputable def zN (i j k:Nat):Rat:=((ab t y i k j).natAbs:Int)/((t k-t i:Int):Rat)
end
def Yk:2*(t k-t i)*ab t y a c b=nS t y i j k b*(t c-t a)-nS t y i j k a*(t c-t b)-nS t y i j k c*(t b-t a):=-by
 unfold nS ab
 grind
def NT:nS t y i j k i=- ab t y i k j:=-by
 unfold nS ab
 grind
def Qd:nS t y i j k k=- ab t y i k j:=-by
 unfold nS ab
 grind
def yK:nS t y i j k j=ab t y i k j:=-by
 unfold nS
 try?
def OM {m:Int} (hx:m<=x) (hu:m<=u) (hz:m<=z) (h:m<x\/m<u\/m<z) (hq:0<q) (hr:0<r):2*m*(q+r)<u*(q+r)+x*q+z*r:=-by
 have e:u*(q+r)+x*q+z*r-2*m*(q+r)=(u-m)*(q+r)+(x-m)*q+(z-m)*r:=by grind
 have h1:0<=(u-m)*(q+r):=yy 0#q 0#q
 have h2:0<=(x-m)*q:=yy 0#q 0#q
 have h3:0<=(z-m)*r:=yy 0#q 0#q
 rcases h with h | h | h
 ·have:0<(x-m)*q:=u6 0#q hq
  try?
 ·have:0<(u-m)*(q+r):=u6 0#q 0#q
  try?
 ·have:0<(z-m)*r:=u6 0#q hr
  try?
def Alt (O:Nat->Int) (m:Int) (a b c:Nat):Prop:=((m<=O b/\m<=- O a/\m<=- O c)\/(m<=- O b/\m<=O a/\m<=O c))/\((m<O a\/m < - O a)\/(m<O b\/m < - O b)\/(m<O c\/m < - O c))
def Yq (hik:t i<t k) (hab:t a<t b) (hbc:t b<t c) (h:Alt (nS t y i j k) ((ab t y i k j).natAbs:Int) a b c):zN t y i j k<zN t y a b c:=-by
 have p:((ab t y i k j).natAbs:Int)*(t c-t a)<((ab t y a c b).natAbs:Int)*(t k-t i):=by
  have id:=Yk (t:=t) (y:=y) (i:=i) (j:=j) (k:=k) (a:=a) (b:=b) (c:=c)
  generalize nS t y i j k=O at *
  generalize G:((ab t y i k j).natAbs:Int)=m at *
  have hm0:0<=m:=G▸Ia _
  obtain ⟨D,h2⟩:=h
  rcases D with ⟨v,A,B⟩ | ⟨v,A,B⟩
  ·have g:=OM (x:=- O a) (u:=O b) (z:=- O c) (q:=t c-t b) (r:=t b-t a) A v B 0#q (MF hbc) (MF hab)
   have e1:O b*(t c-t b+(t b-t a))+- O a*(t c-t b)+- O c*(t b-t a)=O b*(t c-t a)-O a*(t c-t b)-O c*(t b-t a):=by grind
   rw [e1,<- id] at g
   have e2:2*m*(t c-t b+(t b-t a))=2*(m*(t c-t a)):=by grind
   rw [e2] at g
   have e3:2*(t k-t i)*ab t y a c b=2*(ab t y a c b*(t k-t i)):=by grind
   rw [e3] at g
   have n:m*(t c-t a)<ab t y a c b*(t k-t i):=Wk g 0#s
   exact Ib n (IC Xw (WI (rX hik)))
  ·have g:=OM (x:=O a) (u:=- O b) (z:=O c) (q:=t c-t b) (r:=t b-t a) A v B 0#q (MF hbc) (MF hab)
   have e1:- O b*(t c-t b+(t b-t a))+O a*(t c-t b)+O c*(t b-t a)=- (O b*(t c-t a)-O a*(t c-t b)-O c*(t b-t a)):=by grind
   rw [e1,<- id] at g
   have e2:2*m*(t c-t b+(t b-t a))=2*(m*(t c-t a)):=by grind
   rw [e2] at g
   have e3:- (2*(t k-t i)*ab t y a c b)=2*(- ab t y a c b*(t k-t i)):=by grind
   rw [e3] at g
   have n:m*(t c-t a) < - ab t y a c b*(t k-t i):=Wk g 0#s
   exact Ib n (IC (xE (ab t y a c b)▸Xw) (WI (rX hik)))
 unfold zN
 have E:=cast_pos (b:=t k-t i) 0#q
 have H:=cast_pos (b:=t c-t a) 0#q
 rw [Xl E]
 have e:(((ab t y a c b).natAbs:Int):Rat)/((t c-t a:Int):Rat)*((t k-t i:Int):Rat)=((((ab t y a c b).natAbs:Int)*(t k-t i):Int):Rat)/((t c-t a:Int):Rat):=by
  rw [ni]
  grind
 rw [e,Xm H,<- ni]
 exact vd.mpr p
noncomputable def aaq (n:Nat):List (Nat×Nat×Nat):=(fN n).flatMap λa=>(fN n).flatMap λb=>(fN n).map λc=>(a,b,c)
def PY (ha:a<n) (hb:b<n) (hc:c<n):(a,b,c)∈aaq n:=-by
 unfold aaq
 exact Xd.mpr ⟨a,tP.mpr ha,Xd.mpr ⟨b,tP.mpr hb,lV.mpr ⟨c,tP.mpr hc,rfl⟩⟩⟩
open Classical in
noncomputable def beyond (t y:Nat->Int) (n:Nat) (d:Rat):Nat:=((aaq n).filter λx=>decide (d<zN t y x.1 x.2.1 x.2.2)).length
def filter_lt {α:Type} {p q:α->Bool}:∀{l:List α},(∀x,q x=true->p x=true)->(∃x,x∈l/\p x=true/\q x=false)->(l.filter q).length<(l.filter p).length
 | [],_,h=>by obtain ⟨x,hx,_⟩:=h;exact absurd hx 0#t
 | a::l,hq,h=>by
   have le:∀l:List α,(l.filter q).length<=(l.filter p).length:=λl=>by
    induction l with
    | nil=>exact d8 _
    | cons b l ih=>
      rw [MK,MK]
      cases hb:q b with
      | true=>rw [hq b hb,if_pos rfl,if_pos rfl];exact BP ih
      | false=>
        rw [if_neg nv]
        split
        ·exact Sk ih
        ·exact ih
   obtain ⟨x,hx,hp,hqx⟩:=h
   rw [MK,MK]
   rcases jG.mp hx with rfl | hx
   ·rw [hqx,hp,if_neg nv,if_pos rfl]
    exact Nat.lt_succ_of_le (le l)
   ·have ih:=filter_lt (l:=l) hq ⟨x,hx,hp,hqx⟩
    cases hb:q a with
    | true=>rw [hq a hb,if_pos rfl,if_pos rfl];exact Nat.succ_lt_succ ih
    | false=>
      rw [if_neg nv]
      split
      ·exact Nat.lt_succ_of_lt ih
      ·exact ih
open Classical in
def Nd (ha:a<n) (hb:b<n) (hc:c<n) (h:d<zN t y a b c):beyond t y n (zN t y a b c)<beyond t y n d:=-by
 unfold beyond
 refine filter_lt (λx p=>dY (by have:=dF p;grind)) ⟨(a,b,c),PY ha hb hc,dY h,g9 (Sx)⟩
def PU {C:Int} (hC:1<=C) (hb:1<=b):1<=C.fdiv (bT C b:Nat)*b/\C.fdiv (bT C b:Nat)*b<=C*b/\C∣C.fdiv (bT C b:Nat)*b/\b∣C.fdiv (bT C b:Nat)*b:=-by
 have gp:0<bT C b:=Oq C 0#q
 obtain ⟨c,n⟩:=Ik (a:=C) (b:=b)
 obtain ⟨d,v⟩:=Ij (a:=C) (b:=b)
 generalize hg:((bT C b:Nat):Int)=g at *
 have g1:0<g:=by try?
 have e:C.fdiv g=c:=by
  conv=>lhs;rw [n]
  exact Wm c 0#q
 rw [e]
 have p:1<=c:=by
  rcases MU c 1 with z | z
  ·have:g*c<=0:=Wg 0#q 0#q
   try?
  ·exact z
 have u:c<=C:=by
  rw [n]
  have:=IC (show 1<=g by try?) (show 0<=c by try?)
  try?
 refine ⟨?_,IC u 0#q,⟨d,?_⟩,⟨c,qQ _ _⟩⟩
 ·have:=Iu p hb 0#q 0#q
  try?
 ·rw [n]
  conv=>lhs;rw [v]
  grind
structure Pts (H:Hp) (L:af) (ps:List af) (t y:Nat->Int):Prop where
 at_:H L=some (.lst (ps.map V.ref))
 each:∀i a,ps[i]?=some a->H a=some (.tup [.int (t i),.int (y i)])
def Pts.up (h:Pts H L ps t y) (s:ah H H'):Pts H' L ps t y:=⟨s _ _ h.at_,λi a e=>s _ _ (h.each i a e)⟩
def Kg {ps:List af} (h:i<ps.length) (hj:j=(i:Int)):∃a,ps[i]?=some a/\tU (ps.map V.ref) j=some (.ref a):=⟨ps[i],lW h,by
 subst hj
 exact gI (by rw [lZ,lW h];rfl)⟩
inductive BB (vs:List V) (H:Hp) (Q:VK) (E_:XK):Prop where
 | mk (l:af) (es:0#f) (n:Nat):vs=[.ref l]->H l=some 0#D->Row H es n->jN es->1<=n->es.length*n+n<=7000->es.length<=40->(∀(L:af) (ps:List af) (y:Nat->Int) (C:Int) (H':Hp),ah H H'->H L=none->Pts H' L ps (mo es) y->ps.length=es.length->1<=C->(∀i,i<es.length->(y i:Rat)=wo es i*(C:Rat)/\Sz 8990 (y i))->Q (.ref L) H')->BB vs H Q E_
inductive Fq (vs:List V) (H:Hp) (Q:VK) (E_:XK):Prop where
 | mk (p1 p2 p3:af) (m1 n1 m2 n2 m3 n3:Int):vs=[.ref p1,.ref p2,.ref p3]->H p1=some (.tup [.int m1,.int n1])->H p2=some (.tup [.int m2,.int n2])->H p3=some (.tup [.int m3,.int n3])->Sz 8990 m1->Sz 8990 m2->Sz 8990 m3->Sz 8990 n1->Sz 8990 n2->Sz 8990 n3->Q (.int (n3*(m2-m1)-n1*(m2-m3)-n2*(m3-m1))) H->Fq vs H Q E_
inductive KW (vs:List V) (H:Hp) (Q:VK) (E_:XK):Prop where
 | mk (L r:af) (ps:List af) (t y:Nat->Int) (i j k:Nat):vs=[.ref L,.ref r]->Pts H L ps t y->ps.length<=40->H r=some (.tup [.int (i:Int),.int (j:Int),.int (k:Int)])->i<ps.length->j<ps.length->k<ps.length->(∀q,q<ps.length->Sz 8990 (t q)/\Sz 8990 (y q))->(∀(D:af) (H':Hp),ah H H'->H D=none->H' D=some (.lst (((fN ps.length).map (nS t y i j k)).map V.int))->Q (.ref D) H')->KW vs H Q E_
inductive KN (vs:List V) (H:Hp) (Q:VK) (E_:XK):Prop where
 | mk (r D:af) (i j k p n:Nat) (O:Nat->Int) (m:Int):vs=[.ref r,.int (p:Int),.ref D]->H r=some (.tup [.int (i:Int),.int (j:Int),.int (k:Int)])->H D=some (.lst (((fN n).map O).map V.int))->i<j->j<k->k<n->p<n->0<=m->((m=O j/\O i=- O j/\O k=- O j)\/(m=- O j/\O i=- O j/\O k=- O j))->(m<O p\/m < - O p)->(∀(r':af) (a b c:Nat) (H':Hp),ah H H'->H' r'=some (.tup [.int (a:Int),.int (b:Int),.int (c:Int)])->a<b->b<c->c<n->Alt O m a b c->Q (.ref r') H')->KN vs H Q E_
def Flat (t y:Nat->Int) (n i j k:Nat):Prop:=i<j/\j<k/\k<n/\∀p,p<n->(nS t y i j k p).natAbs<=(ab t y i k j).natAbs
inductive wF (vs:List V) (H:Hp) (Q:VK) (E_:XK):Prop where
 | mk (l:af) (es:0#f) (n:Nat):vs=[.ref l]->H l=some 0#D->Row H es n->jN es->rising es->1<=n->es.length*n+n<=7000->3<=es.length->es.length<=40->(∀(r:af) (i j k:Nat) (y:Nat->Int) (C:Int) (H':Hp),ah H H'->H' r=some (.tup [.int (i:Int),.int (j:Int),.int (k:Int)])->1<=C->(∀i,i<es.length->(y i:Rat)=wo es i*(C:Rat))->Flat (mo es) y es.length i j k->Q (.ref r) H')->wF vs H Q E_
def fG:dB 1 [aQ,"common",aV,"bottom"] lQ:=0#p
def yp (F:dS K "whole_points" lQ f fd) (gF:X0 P w K mg base):0#b 3 f fd [aQ] BB:=-by
 refine F.dm fG 0#a
 obtain ⟨l,es,n,rfl,hl,hR,hS,hn1,hn,Cf,k⟩:=h
 have ac:∀i,i<es.length->i*n+n<=es.length*n:=λi S=>by
  have:=Nat.mul_le_mul_right n (show i+1<=es.length by try?)
  rw [XR,XS] at this
  exact this
 have cd:∀{x d:Int},1<=d->Sz 8990 d->CU x d:=λhd hz=>⟨by try?,Sz.log (m:=8990) hz 0#s 0#s⟩
 apply bx ⟨_,(ao (lA (i:=1) fG.nd rfl (Or.inr rfl) aA (hs:=ael)) (ao (gQ jd rfl (j0 K 0#w) (c8 (i:=2) fG.nd rfl (Or.inl rfl)) (ao (aM 3 fG.nd (aB K (aB K (aa 2)))) (aF (lA (i:=1) fG.nd rfl (Or.inr rfl) (aI aK (aI eF 0#C (bA gF hr 0#C (aa 3))) (aa 3)) (hs:=aaf))))) (aF (aS (pG (O:=[aV]) (N':=["common"]) (cap:=[1]) rfl (j0 K 0#w) (λ_ _ _ _ _=>(c8 (i:=0) (show jR [("sample":Str),("common":Str)] by decide +kernel) rfl (Or.inl rfl))) (λ_ _ _ _ _=>ly) (λ_ _ _ _ _=>(bu (eN (bV (PF K) 0#w aA 0#z) (eN (aI aK (bV (PF K) (bV (PF K) 0#w aA 0#z) aA 0#z) (aI eF 0#C (bV (PF K) (bV (PF K) 0#w aA 0#z) aA 0#z))) fZ Rp) BH))) rfl ⟨⟨rfl,rfl,rfl,rfl⟩,trivial⟩ rfl 0#u rfl 0#u))))),?_⟩
 apply iZ (kJ ?_)
 refine ⟨l,rfl,⟨_,bw.of hl⟩,fu (xs:=vals es) (λi σ H3=>VB λ(C:Int) (v2 v3:Option V)=>σ=[some (.ref l),some (.int C),v2,v3]/\ah H H3/\1<=C/\Sz (i*n+1) C/\∀j,j<i->((wo es j).den:Int)∣C) ?_ ?_ ?_ ?_⟩
 ·exact ⟨1,none,none,rfl,ah.refl _,XM _,by rw [Nat.zero_mul];exact oQ 0#q,λj hj=>by try?⟩
 ·rintro i σ H3 _ ⟨C,v2,v3,rfl,Y,_⟩
  exact bw.of (Y _ _ hl)
 ·rintro i x σ H3 hx ⟨C,v2,v3,rfl,Y,hC,zC,R⟩
  refine ig λM B RR hM _ _=>?_
  obtain ⟨e,he,rfl⟩:=ja hx
  have S:i<es.length:=(kM.mp he).1
  obtain ⟨e',L,v,ev,⟨tp,b,eb,I,zt,zb⟩,zm⟩:=cC (hR.up Y) hS S
  rw [he] at L
  cases L
  have hb:=I.pos
  obtain ⟨_,J⟩:=I.Ep
  have ae:=ac i S
  rw?
  refine ⟨C,b,rfl,zC.mono 0#q,zb.mono 0#q,λH4 s4=>?_⟩
  obtain ⟨u1,u2,u3,u4⟩:=PU hC hb
  have zg:Sz 8990 ((bT C b:Nat):Int):=by
   have:bT C b<=b.natAbs:=Xv 0#q (W2 _ _)
   exact Sz.of_le (zb.mono 0#q) 0#q
  have gp:0<bT C b:=Oq C 0#q
  have ai:Sz ((i+1)*n+1) (C.fdiv (bT C b:Nat)*b):=by
   have e1:(i+1)*n+1=i*n+1+n:=by rw [XR,XS];try?
   rw [e1]
   refine Sz.of_le (zC.mul zb) ?_
   generalize C.fdiv (bT C b:Nat)*b=A at *
   generalize C*b=B at *
   try?
  have zq:Sz 8990 (C.fdiv (bT C b:Nat)):=by
   refine Sz.of_le (zC.mono (show i*n+1<=8990 by try?)) ?_
   have h0:0<=C.fdiv (bT C b:Nat):=Su 0#q 0#q
   have:C.fdiv (bT C b:Nat)<=C:=by
    rw [B3 _ 0#q]
    exact MH _ 0#q
   try?
  rw?
  apply fR (cd 0#q zg) ?_
  apply fR (bL zq (zb.mono (show n<=8990 by try?)) 0#s) ?_
  refine hM _ _ ⟨_,_,_,rfl,Y.trans s4,u1,ai,λj hj=>?_⟩
  by_cases e:j=i
  ·rw [e,<- J];exact u4
  ·exact Int.dvd_trans (R j 0#q) u3
 ·rintro σ H3 ⟨C,v2,v3,rfl,Y,hC,zC,R⟩
  rw [aP] at zC R
  have ad:=Y _ _ hl
  rw?
  apply kJ ?_
  refine ⟨l,rfl,⟨_,bw.of ad⟩,?_⟩
  refine di (xs:=vals es) cQ (λH4 s4=>bw.of (s4 _ _ ad)) (by rw [aP];try?) (λi ys G=>∃(ps:List af),ys=ps.map V.ref/\ps.length=i/\∀q a,ps[q]?=some a->G a=some (.tup [.int (mo es q),.int ((wo es q).num*(C.fdiv ((wo es q).den:Int)))])) ⟨[],rfl,rfl,λq a h=>by simp at h⟩ ?_ ?_
  ·rintro D i x ys H4 jT NN N0 h0 hD eD s4 hx hy ⟨ps,rfl,N,Z⟩ kY kN
   obtain ⟨e,he,rfl⟩:=ja hx
   have S:i<es.length:=(kM.mp he).1
   obtain ⟨e',L,v,ev,⟨tp,b,eb,I,zt,zb⟩,zm⟩:=cC (hR.up (Y.trans s4)) hS S
   rw [he] at L
   cases L
   have hb:=I.pos
   obtain ⟨U,J⟩:=I.Ep
   apply jx h0 ?_
   apply bO ?_
   apply fR (cd hb (zb.mono 0#q)) ?_
   have zq:Sz 8990 (C.fdiv b):=by
    refine Sz.of_le (zC.mono (show es.length*n+1<=8990 by try?)) ?_
    have h0:0<=C.fdiv b:=Su 0#q 0#q
    have:C.fdiv b<=C:=by
     rw [B3 _ 0#q]
     exact MH _ 0#q
    try?
   apply fR (bL (zt.mono (show n<=8990 by try?)) zq 0#s) ?_
   refine aC (mk:=.tup) 0#t λp H5 s5 n5 e5=>?_
   refine kY _ H5 s5 ⟨ps++[p],by simp,by simp [N],λq a hq=>?_⟩
   by_cases hqi:q<ps.length
   ·rw [B4 hqi] at hq
    exact (rV s5) _ _ (Z q a hq)
   ·rw [F9 0#q] at hq
    have ag:q=i:=by
     have:=(kM.mp hq).1
     simp at this
     try?
    subst ag
    rw [N,SM] at hq
    obtain rfl:p=a:=by simpa using hq
    rw [<- U,<- J]
    exact eK (s5 _ _ eD) e5
  ·rintro D ys H4 hD eD s4 hy ⟨ps,rfl,N,Z⟩
   rw [aP] at N
   refine k D ps (λq=>(wo es q).num*(C.fdiv ((wo es q).den:Int))) C H4 (Y.trans s4) (Y.free hD) ⟨eD,λq a h=>gM _ _ (Z q a h)⟩ N hC (λi S=>?_)
   obtain ⟨e',L,v,ev,⟨tp,b,eb,I,zt,zb⟩,zm⟩:=cC hR hS S
   obtain ⟨U,J⟩:=I.Ep
   have hb:=I.pos
   obtain ⟨c,hc⟩:=R i S
   rw [<- J] at hc
   have e1:C.fdiv b=c:=by
    conv=>lhs;rw [hc]
    exact Wm c 0#q
   have aaT:=dH (b:=b) 0#q
   have ae:=ac i S
   refine ⟨?_,?_⟩
   ·show (((wo es i).num*(C.fdiv ((wo es i).den:Int)):Int):Rat)=_
    rw [<- J,<- U,e1,hc,ni,ni]
    have:=I.eq
    grind
   ·show Sz 8990 ((wo es i).num*(C.fdiv ((wo es i).den:Int)))
    rw [<- J,<- U]
    have zq:Sz (es.length*n+1) (C.fdiv b):=by
     refine Sz.of_le zC ?_
     have h0:0<=C.fdiv b:=Su 0#q 0#q
     have:C.fdiv b<=C:=by
      rw [B3 _ 0#q]
      exact MH _ 0#q
     try?
    exact (zt.mul zq).mono 0#q
def lR:dB 3 [aG,cy,"point","ahead","behind"] mW:=0#p
def Ao (F:dS K "above_chord" mW f fd):0#b 1 f fd [aG,cy,"point"] Fq:=-by
 refine F.dm lR 0#a
 obtain ⟨p1,p2,p3,m1,n1,m2,n2,m3,n3,rfl,e1,e2,e3,a1,a2,a3,n,p,u,k⟩:=h
 apply bx ⟨_,(ao (aM 3 lR.nd (aI aK (aB K 0#w) (aI cF (aB K 0#C) (aB K (aa 2))))) (ao (aM 4 lR.nd (aI aK (aB K 0#C) (aI cF (aB K (aa 2)) (aB K 0#w)))) (aF (aS (aI cF (aI cF (aI aK (aB K (aa 2)) (aI cF (aB K 0#C) (aB K 0#w))) (aa 3)) (aa 4)))))),?_⟩
 apply fR (bL n (a2.sub a3) 0#s) ?_
 apply fR (bL p (a3.sub a1) 0#s) ?_
 apply fR (bL u (a2.sub a1) 0#s) ?_
 exact k
def i8:dB 2 ["points","three",aG,cy,"lift"] m9:=0#p
def AA (F:dS K "scaled_offs" m9 f fd) (jH:0#c 1 "above_chord" [aG,cy,"point"] Fq):0#b 2 f fd ["points","three"] KW:=-by
 refine F.dm i8 0#a
 obtain ⟨L,r,ps,t,y,i,j,B,rfl,p,Cf,er,I,R,J,n,k⟩:=h
 obtain ⟨U,gi,ti⟩:=Kg I (j:=(i:Int)) rfl
 obtain ⟨aj,gj,tj⟩:=Kg R (j:=(j:Int)) rfl
 obtain ⟨Y,gk,tk⟩:=Kg J (j:=(B:Int)) rfl
 have Z:=p.each _ _ gi
 have ej:=p.each _ _ gj
 have ek:=p.each _ _ gk
 apply bx ⟨_,(ao (lA (i:=2) i8.nd rfl (Or.inr rfl) (bV (iQ K) 0#w (aB K 0#C) 0#z) (hs:=Rv)) (ao (lA (i:=3) i8.nd rfl (Or.inr rfl) (bV (iQ K) 0#w (aB K 0#C) 0#z) (hs:=Rv)) (ao (lA (i:=4) i8.nd rfl (Or.inr rfl) (Jd.c3 jH hr (aa 2) (aa 3) (bV (iQ K) 0#w (aB K 0#C) 0#z)) (hs:=fH)) (aF (aS (pG (O:=["point"]) (N':=["lift","one" ,"last" ]) (cap:=[4,2,3]) rfl (j0 K 0#w) (λ_ _ _ _ _=>(c8 (i:=0) (show jR [("point":Str),("lift":Str),("one":Str),("last":Str)] by decide +kernel) rfl (Or.inl rfl))) (λ_ _ _ _ _=>ly) (λ_ _ _ _ _=>(aI cF (aI aK aA (iX jH (hr.mono 0#s) rfl (eN (aa 2) (eN (aa 3) (eN 0#w fZ bH) bH) bH) (he:=bH) (hpl:=(cV bH (cV bH cD))))) 0#C)) rfl ⟨⟨rfl,rfl,rfl,rfl⟩,⟨⟨rfl,rfl,rfl,rfl⟩,⟨⟨rfl,rfl,rfl,rfl⟩,trivial⟩⟩⟩ rfl 0#u rfl 0#u)))))),?_⟩
 apply dM p.at_ ti ?_
 apply dM p.at_ tk ?_
 apply dM p.at_ tj ?_
 apply ⟨U,Y,aj,_,_,_,_,_,_,rfl,Z,ek,ej,(n i I).1,(n B J).1,(n j R).1,(n i I).2,(n B J).2,(n j R).2,?_⟩
 apply kJ ?_
 refine ⟨L,rfl,⟨_,bw.of p.at_⟩,?_⟩
 refine di (xs:=ps.map V.ref) cQ (λM v=>bw.of (v _ _ p.at_)) (by rw [iR];try?) (λq S G=>S=((fN q).map (nS t y i j B)).map V.int) rfl ?_ ?_
 ·rintro D q x S M jT NN N0 h0 hD N v hx hy rfl kY kN
  rw [lZ] at hx
  obtain ⟨a,ga,rfl⟩:=ID.mp hx
  have hq:q<ps.length:=(kM.mp ga).1
  apply jx h0 ?_
  apply bO ?_
  apply ⟨U,Y,a,_,_,_,_,_,_,rfl,v _ _ Z,v _ _ ek,v _ _ (p.each _ _ ga),(n i I).1,(n B J).1,(n q hq).1,(n i I).2,(n B J).2,(n q hq).2,?_⟩
  refine kY _ M (ah.refl _) ?_
  rw [xD,gw,gw]
  rfl
 ·rintro D S M hD N v hy rfl
  rw [iR] at N
  exact k D M v hD N
def LB (h0:0<=m) (hm:m=oj\/m=-oj) (hi:oi=-oj) (hp:m<op\/m < -op) (hs:0<op↔0<oi):(m<=oj/\m<=-op)\/(m<=-oj/\m<=op):=-by
 have:(0<op/\0<oi)\/(op<=0/\oi<=0):=by
  by_cases z:0<op
  ·exact .inl ⟨z,hs.mp z⟩
  ·exact .inr ⟨xK.mp z,xK.mp λq=>z (hs.mpr q)⟩
 lia
def D4 (h0:0<=m) (hm:m=oj\/m=-oj) (hi:oi=-oj) (hp:m<op\/m < -op) (hs:(0<op/\oi<=0)\/(op<=0/\0<oi)):(m<=op/\m<=oj)\/(m<=-op/\m<=-oj):=-by
 lia
def uf (h:q<n):tU (((fN n).map O).map V.int) (q:Int)=some (.int (O q)):=gI (by rw [lZ,lZ,CS h];rfl)
def kK:dB 3 ["three","far","offs",cj,"mid",cy] qy:=0#p
def Eu (F:dS K "exchanged" qy f fd):0#b 1 f fd ["three","far","offs"] KN:=-by
 refine F.dm kK 0#a
 obtain ⟨r,D,i,j,Y,p,n,O,m,rfl,er,eD,ai,aj,ac,S,I,hm,R,k⟩:=h
 have G:∀{a b c:Nat} {U:Hp} {r':af},ah H U->U r'=some (.tup [.int (a:Int),.int (b:Int),.int (c:Int)])->a<b->b<c->c<n->((m<=O b/\m<=- O a/\m<=- O c)\/(m<=- O b/\m<=O a/\m<=O c))->(a=p\/b=p\/c=p)->Q (.ref r') U:=λL e1 h1 h2 h3 h4 h5=>k _ _ _ _ _ L e1 h1 h2 h3 ⟨h4,by
  rcases h5 with rfl | rfl | rfl
  ·exact .inl R
  ·exact .inr (.inl R)
  ·exact .inr (.inr R)⟩
 obtain ⟨J,oi,ok⟩:(m=O j\/m=-O j)/\O i=-O j/\O Y=-O j:=by
  rcases hm with ⟨m1,m2,m3⟩ | ⟨m1,m2,m3⟩
  ·exact ⟨.inl m1,m2,m3⟩
  ·exact ⟨.inr m1,m2,m3⟩
 have ad:-O i=O j:=by rw [oi,SQ]
 have ae:-O Y=O j:=by rw [ok,SQ]
 have hpi:p≠i:=λz=>by subst z;lia
 have hpj:p≠j:=λz=>by subst z;lia
 have hpk:p≠Y:=λz=>by subst z;lia
 refine bx ⟨_,(ao (aM 3 kK.nd (aB K 0#w)) (ao (aM 4 kK.nd (aB K 0#w)) (ao (aM 5 kK.nd (aB K 0#w)) (ao (bU (jg (Jd.lF (bC qo 0#C (aa 4) (aD _)) (uv (bC cX (gR fF (bV (iQ K) (aa 2) 0#C 0#z) aA (aD _)) (gR fF (bV (iQ K) (aa 2) (aa 3) 0#z) aA (aD _)) (aD _))))) (aF (aS (bu (Jd.a3 0#C (aa 4) (aa 5))))) bY) (ao (bU (jg (Jd.lF (bC fF 0#C (aa 4) (aD _)) (uv (bC cX (gR fF (bV (iQ K) (aa 2) 0#C 0#z) aA (aD _)) (gR fF (bV (iQ K) (aa 2) (aa 5) 0#z) aA (aD _)) (aD _))))) (aF (aS (bu (Jd.a3 (aa 3) (aa 4) 0#C)))) bY) (ao (bU (bC qo 0#C (aa 3) (aD _)) (aF (aS (bu (Jd.a3 0#C (aa 3) (aa 4))))) bY) (ao (bU (bC fF 0#C (aa 5) (aD _)) (aF (aS (bu (Jd.a3 (aa 4) (aa 5) 0#C)))) bY) (aF (aS (bu (Jd.a3 (aa 3) 0#C (aa 5)))))))))))),?_⟩
 refine Rg (λM H'=>H'=H/\M=[some (.ref r),some (.int (p:Int)),some (.ref D),some (.int (i:Int)),some (.int (j:Int)),some (.int (Y:Int))]/\(p<j->¬(0<O p↔0<O i))) (λM H' hP=>?_) (λN B=>?_)
 rotate_left
 ·rw?
  refine c7 (λc1=>?_) (λc1=>?_)
  ·have Z:=dF c1
   rw?
   apply dM eD (uf S) ?_
   apply dM eD (uf (show i<n by lia)) ?_
   apply V5 ?_
   refine c7 (λc2=>?_) (λc2=>?_)
   ·have TH:(0<O p↔0<O i):=by
     have:=rY.mp c2
     exact BQ.mp this
    rw?
    refine aC (mk:=.tup) 0#t λr' U L n1 e1=>?_
    refine G L e1 (by lia) aj ac ?_ (.inl rfl)
    rcases LB I J oi R TH with ⟨u,v⟩ | ⟨u,v⟩
    ·exact .inl ⟨u,v,by rw [ae];exact u⟩
    ·exact .inr ⟨u,v,by rw [ok];exact u⟩
   ·rw?
    refine B _ _ ⟨rfl,rfl,λ_ z=>c2 (rY.mpr (BQ.mpr z))⟩
  ·have Z:¬(p:Int)<(j:Int):=λz=>c1 (dY z)
   apply bF ?_
   exact B _ _ ⟨rfl,rfl,λz=>absurd (by lia) Z⟩
 obtain ⟨rfl,rfl,h1⟩:=hP
 refine iB (λM ag=>ag=H'/\M=[some (.ref r),some (.int (p:Int)),some (.ref D),some (.int (i:Int)),some (.int (j:Int)),some (.int (Y:Int))]/\(j<p->¬(0<O p↔0<O Y))) (λM ag hP=>?_) (λN B=>?_)
 rotate_left
 ·rw?
  refine c7 (λc1=>?_) (λc1=>?_)
  ·have Z:=dF c1
   rw?
   apply dM eD (uf S) ?_
   apply dM eD (uf ac) ?_
   apply V5 ?_
   refine c7 (λc2=>?_) (λc2=>?_)
   ·have TH:(0<O p↔0<O Y):=BQ.mp (rY.mp c2)
    rw?
    refine aC (mk:=.tup) 0#t λr' U L n1 e1=>?_
    refine G L e1 ai (by lia) S ?_ (.inr (.inr rfl))
    rcases LB I J ok R TH with ⟨u,v⟩ | ⟨u,v⟩
    ·exact .inl ⟨u,by rw [ad];exact u,v⟩
    ·exact .inr ⟨u,by rw [oi];exact u,v⟩
   ·rw?
    refine B _ _ ⟨rfl,rfl,λ_ z=>c2 (rY.mpr (BQ.mpr z))⟩
  ·have Z:¬(j:Int)<(p:Int):=λz=>c1 (dY z)
   apply bF ?_
   exact B _ _ ⟨rfl,rfl,λz=>absurd (by lia) Z⟩
 obtain ⟨rfl,rfl,h2⟩:=hP
 have far:∀{q:Nat},¬(0<O p↔0<O q)->(0<O p/\O q<=0)\/(O p<=0/\0<O q):=λ{q} z=>by
  by_cases a1:0<O p
  ·exact .inl ⟨a1,xK.mp λb1=>z ⟨λ_=>b1,λ_=>a1⟩⟩
  ·exact .inr ⟨xK.mp a1,S5 λb1=>z ⟨λc=>absurd c a1,λc=>absurd c b1⟩⟩
 rw?
 refine c7 (λc1=>?_) (λc1=>?_)
 ·have Z:=dF c1
  have hf:=far (h1 (by lia))
  rw?
  refine aC (mk:=.tup) 0#t λr' U L n1 e1=>?_
  refine G L e1 (by lia) ai (by lia) ?_ (.inl rfl)
  rcases D4 I J oi R hf with ⟨u,v⟩ | ⟨u,v⟩
  ·exact .inr ⟨by rw [ad];exact v,u,v⟩
  ·exact .inl ⟨by rw [oi];exact v,u,v⟩
 ·have Z:¬(p:Int)<(i:Int):=λz=>c1 (dY z)
  rw?
  refine c7 (λc2=>?_) (λc2=>?_)
  ·have TH:=dF c2
   have hf:=far (h2 (by lia))
   rw?
   refine aC (mk:=.tup) 0#t λr' U L n1 e1=>?_
   refine G L e1 aj (by lia) S ?_ (.inr (.inr rfl))
   rcases D4 I J ok R hf with ⟨u,v⟩ | ⟨u,v⟩
   ·exact .inr ⟨by rw [ae];exact v,v,u⟩
   ·exact .inl ⟨by rw [ok];exact v,v,u⟩
  ·have TH:¬(Y:Int)<(p:Int):=λz=>c2 (dY z)
   rw?
   refine aC (mk:=.tup) 0#t λr' U L n1 e1=>?_
   refine G L e1 (by lia) (by lia) ac ?_ (.inr (.inl rfl))
   have hf:(m<=O p/\m<=O j)\/(m<=-O p/\m<=-O j):=by
    rcases XD p j with z | z
    ·exact D4 I J oi R (far (h1 z))
    ·exact D4 I J ok R (far (h2 (by lia)))
   rcases hf with ⟨u,v⟩ | ⟨u,v⟩
   ·exact .inl ⟨u,by rw [ad];exact v,by rw [ae];exact v⟩
   ·exact .inr ⟨u,by rw [oi];exact v,by rw [ok];exact v⟩
def Om (W:Nat->St->Hp->Prop) (h0:∃m,W m σ H)
 (hs:∀m σ H,W m σ H->∀R:Bool->Hp->Prop,(∀H1,(∀M:St->Hp->Prop,(∀σ' H' m',W m' σ' H'->m'<m->M σ' H')->tb { D with nx:=M,ct:=M,bk:=D.nx } σ H1)->R true H1)->(∀H1,D.nx σ H1->R false H1)->c σ H R):BJ c tb D σ H:=-by
 refine ⟨W,h0,?_⟩
 intro m σ H p
 refine hs m σ H p _ (λH1 q=>?_) (λH1 q=>?_)
 ·rw [if_pos rfl]
  exact ⟨λσ' H'=>∃m',m'<m/\W m' σ' H',λσ' H' ⟨m',l,z⟩=>⟨m',l,z⟩,q _ λ_ _ m' a b=>⟨m',b,a⟩⟩
 ·rw [if_neg nv]
  exact q
def cP:dB 1 [aQ,"points","three","offs","misses","worst"] j5:=0#p
def vM (F:dS K "forcing_three" j5 f fd) (T:Txt mg) (lg:0#c 3 "whole_points" [aQ] BB) (mS:0#c 2 "scaled_offs" ["points","three"] KW) (pU:0#c 1 "exchanged" ["three","far","offs"] KN):0#b 4 f fd [aQ] wF:=-by
 refine F.dm cP 0#a
 obtain ⟨l,es,n,rfl,hl,hR,hS,fW,an,hn,h3,Cf,k⟩:=h
 apply bx ⟨_,(ao (aM 1 cP.nd (Jd.c1 lg hr 0#w)) (ao (aM 2 cP.nd (bu (Jd.a3 aA (aI eF (ju K T.jv 0#C) aA) (aI cF (ju K T.jv 0#C) aA)))) (aF (Jd.jP jd (iW mh) (ao (aM 3 cP.nd (bA mS hr 0#C (aa 2))) (ao (Jd.kI (O:=["scaled"]) (N':=[]) (cap:=[]) (i:=4) cP.nd rfl (Or.inl rfl) rfl (j0 K (aa 3)) (λ_ _ _ _ _=>(c8 (i:=0) (show jR [("scaled":Str)] by decide +kernel) rfl (Or.inl rfl))) (λ_ _ _ _ _=>ly) (λ_ _ _ _ _=>(fD xT rfl T.xU yu (eN 0#w fZ bH) (he:=bH) (hpl:=cD))) rfl trivial rfl 0#u rfl 0#u (by rfl)) (ao (aM 5 cP.nd (fD (adP K rfl) rfl T.Zw RZ (c9 (aa 4)) (he:=bH) (hpl:=cD))) (ao (bU (bC cX (aa 5) (bV (iQ K) (aa 4) (aB K (aa 2)) 0#z) (aD _)) (aF (aS (aa 2))) bY) (aF (aM 2 cP.nd (Jd.c3 pU hr (aa 2) (Jd.Zg K (aa 4) (aa 5)) (aa 3)))))))))))),?_⟩
 refine ⟨l,es,n,rfl,hl,hR,hS,an,hn,Cf,λL ps y C H1 s1 nL hP hpl hC hy=>?_⟩
 have hz:∀q,q<ps.length->Sz 8990 (mo es q)/\Sz 8990 (y q):=λq hq=>by
  obtain ⟨_,_,_,_,_,zm⟩:=cC hR hS (show q<es.length by try?)
  exact ⟨zm.mono 0#q,(hy q 0#q).2⟩
 have J:∀{a b:Nat},a<b->b<ps.length->mo es a<mo es b:=λh1 h2=>gh fW h1 0#q
 rw [<- hpl] at h3 Cf
 rw?
 refine dN (.inl (bw.of hP.at_)) ?_
 rw [iR]
 rw?
 apply fR ⟨by decide,by decide⟩ ?_
 refine dN (.inl (bw.of hP.at_)) ?_
 rw [iR]
 rw?
 refine aC (mk:=.tup) 0#t λr0 H2 s2 n2 e2=>?_
 have Yt:H2 r0=some (.tup [.int ((0:Nat):Int),.int ((ps.length/2:Nat):Int),.int ((ps.length-1:Nat):Int)]):=by
  rw [e2]
  have a1:(ps.length:Int).fdiv 2=((ps.length/2:Nat):Int):=by
   rw [B3 _ 0#q]
   rfl
  have a2:(ps.length:Int)-1=((ps.length-1:Nat):Int):=by try?
  rw [a1,a2]
  rfl
 rw?
 refine Om (λm σ H3=>Xs7 λ(i j v:Nat) (r:af) (v3 v4 v5:Option V)=>σ=[some (.ref l),some (.ref L),some (.ref r),v3,v4,v5]/\ah H1 H3/\H3 r=some (.tup [.int (i:Int),.int (j:Int),.int (v:Int)])/\i<j/\j<v/\v<ps.length/\m=beyond (mo es) y ps.length (zN (mo es) y i j v)) ⟨_,0,ps.length/2,ps.length-1,r0,none,none,none,rfl,s2,Yt,by try?,by try?,by try?,rfl⟩ ?_
 rintro m σ H3 ⟨i,j,v,r,v3,v4,v5,rfl,s3,er,ae,ag,I,rfl⟩ RR ai hno
 rw?
 apply ai _ λM hM=>?_
 refine ⟨L,r,ps,mo es,y,i,j,v,rfl,hP.up s3,Cf,er,by try?,by try?,I,hz,λD H4 s4 nD eD=>?_⟩
 have aj:=s4 _ _ er
 generalize Y:nS (mo es) y i j v=O at *
 have o1:O i=- O j:=by rw [<- Y,NT,yK]
 have o2:O v=- O j:=by rw [<- Y,Qd,yK]
 have o3:O j=ab (mo es) y i v j:=by rw [<- Y,yK]
 rw?
 apply kJ ?_
 refine ⟨D,rfl,⟨_,bw.of eD⟩,?_⟩
 refine di (xs:=((fN ps.length).map O).map V.int) cQ (λH5 N=>bw.of (N _ _ eD)) (by simp;try?) (λq ys G=>ys=((fN q).map λq=>((O q).natAbs:Int)).map V.int) rfl ?_ ?_
 ·rintro D' q x ys H5 jT NN N0 h0 al R N hx ax rfl kY kN
  rw [lZ,lZ] at hx
  obtain ⟨z,gz,rfl⟩:=ID.mp hx
  obtain ⟨q',gq,rfl⟩:=ID.mp gz
  obtain ⟨hq1,aw⟩:=kM.mp gq
  obtain rfl:q=q':=by simpa using aw
  apply jx h0 ?_
  apply bO ?_
  refine kY _ H5 (ah.refl _) ?_
  rw [xD,gw,gw,iV]
  rfl
 ·rintro D' ys H5 al R N ax rfl
  rw [iR,iR,W3] at R
  have S:=N _ _ aj
  rw?
  apply ZW (bw.of R) (by simp;try?) λM' am U=>?_
  apply dM R (uf (O:=λq=>((O q).natAbs:Int)) (show j<ps.length by try?)) ?_
  refine c7 (λc1=>?_) (λc1=>?_)
  ·have B9:M'=((O j).natAbs:Int):=dF c1
   rw?
   refine k r i j v y C H5 (s1.trans (s3.trans (s4.trans N))) S hC (λi hi=>(hy i hi).1) ⟨ae,ag,by try?,λp hp=>?_⟩
   have:=U ((O p).natAbs:Int) (lV.mpr ⟨p,tP.mpr 0#q,rfl⟩)
   rw [Y,<- o3]
   try?
  ·have B9:¬M'=((O j).natAbs:Int):=λz=>c1 (dY z)
   have aew:=U ((O j).natAbs:Int) (lV.mpr ⟨j,tP.mpr 0#q,rfl⟩)
   rw?
   apply ⟨.inl ⟨rfl,_,bw.of R⟩,?_⟩
   refine abC R (by simp;try?) am λp gp=>?_
   rw [lZ] at gp
   obtain ⟨p',ak,hpe⟩:=ID.mp gp
   obtain ⟨ap,ar⟩:=kM.mp ak
   obtain rfl:p=p':=by simpa using ar
   have as:p<ps.length:=by simpa using ap
   rw?
   apply ⟨r,D,i,j,v,p,ps.length,O,((O j).natAbs:Int),rfl,S,N _ _ eD,ae,ag,I,as,by try?,by try?,by try?,λr' a b c H6 s6 e6 Z ad B ac=>?_⟩
   refine hM _ _ _ ⟨a,b,c,r',_,_,_,rfl,s3.trans (s4.trans (N.trans s6)),e6,Z,ad,B,rfl⟩ ?_
   refine Nd 0#q 0#q B (Yq (j:=j) (J 0#q I) (J Z 0#q) (J ad B) ?_)
   rw [Y,<- o3]
   exact ac
noncomputable def lB (es:0#f) (s h:Rat) (p:Nat):Rat:=wo es p-(s*(mo es p:Rat)+h)
structure OI (es:0#f) (s h w:Rat) (F:Option (Nat×Nat×Nat)):Prop where
 nn:0<=w
 le:∀p,p<es.length->cG (lB es s h p)<=w
 none_:F=none->w=0
 ab0:∀i j k,F=some (i,j,k)->w≠0/\i<j/\j<k/\k<es.length/\((lB es s h i=-w/\lB es s h j=w/\lB es s h k=-w)\/(lB es s h i=w/\lB es s h j=-w/\lB es s h k=w))
def Lin (es:0#f) (s h:Rat):Prop:=(es.length=1/\s=0/\h=wo es 0)\/∃i j k,i<k/\k<es.length/\j<es.length/\s=(wo es k-wo es i)/((mo es k-mo es i:Int):Rat)/\(h=wo es i-s*(mo es i:Rat)\/h=wo es i-s*(mo es i:Rat)+sd es i j k*(1/2))
def aax (H:Hp) (F:Option (Nat×Nat×Nat)) (v:V):Prop:=match F with
 | none=>v=.bG
 | some (i,j,k)=>∃r,v=.ref r/\H r=some (.tup [.int (i:Int),.int (j:Int),.int (k:Int)])
def O7 {C:Int} (hC:1<=C) (ht:mo es i<mo es k) (hy:∀q,q<es.length->(y q:Rat)=wo es q*(C:Rat)) (hi:i<es.length) (hj:j<es.length) (hk:k<es.length) (hp:p<es.length) :
 (nS (mo es) y i j k p:Rat)=2*(C:Rat)*((mo es k:Rat)-(mo es i:Rat))*(lB es ((wo es k-wo es i)/((mo es k:Rat)-(mo es i:Rat))) (wo es i-(wo es k-wo es i)/((mo es k:Rat)-(mo es i:Rat))*(mo es i:Rat)+(wo es j-cS (mo es i) (wo es i) (mo es j) (mo es k) (wo es k))/2) p):=-by
 have hT:((mo es k:Rat)-(mo es i:Rat))≠0:=by
  have:=dH (b:=mo es k-mo es i) 0#q
  rw [rR] at this
  exact this
 unfold nS ab lB cS
 simp only [ni,rR,hy i hi,hy j hj,hy k hk,hy p hp]
 generalize (mo es k:Rat)=tk at *
 generalize (mo es i:Rat)=ti at *
 generalize (mo es j:Rat)=tj at *
 generalize (mo es p:Rat)=tp at *
 generalize (C:Rat)=c at *
 have e2:((2:Int):Rat)=2:=rfl
 rw [e2]
 grind
def Ni {C:Int} (hC:1<=C) (fW:rising es) (hy:∀q,q<es.length->(y q:Rat)=wo es q*(C:Rat)) (hf:Flat (mo es) y es.length i j k)  (hs:s=(wo es k-wo es i)/((mo es k:Rat)-(mo es i:Rat))) (hd:d=(wo es j-cS (mo es i) (wo es i) (mo es j) (mo es k) (wo es k))/2) (hh:h=wo es i-s*(mo es i:Rat)+d) :
 OI es s h (cG d) (if d=0 then none else some (i,j,k)):=-by
 obtain ⟨B,D,u,E⟩:=hf
 have L:mo es i<mo es k:=gh fW 0#q u
 have n:(0:Rat)<2*(C:Rat)*((mo es k:Rat)-(mo es i:Rat)):=by
  have a:=cast_pos (b:=C) 0#q
  have b:=cast_pos (b:=mo es k-mo es i) 0#q
  rw [rR] at b
  exact MZ (by grind) b
 generalize J:2*(C:Rat)*((mo es k:Rat)-(mo es i:Rat))=S at n
 have v:∀p,p<es.length->(nS (mo es) y i j k p:Rat)=S*lB es s h p:=λp A=>by
  rw [O7 hC L hy 0#q 0#q u A,J,hh,hd,hs]
 have I:lB es s h j=d/\lB es s h i=-d/\lB es s h k=-d:=by
  have hT:((mo es k:Rat)-(mo es i:Rat))≠0:=by
   have:=dH (b:=mo es k-mo es i) 0#q
   rw [rR] at this
   exact this
  unfold lB
  rw [hh]
  unfold cS at hd
  generalize (mo es k:Rat)=tk at *
  generalize (mo es i:Rat)=ti at *
  generalize (mo es j:Rat)=tj at *
  refine ⟨?_,?_,?_⟩
  ·rw [hs,hd]
   grind
  ·rw [hs,hd]
   grind
  ·rw [hs,hd]
   grind
 have G:∀x:Int,(((x.natAbs:Nat):Int):Rat)=cG (x:Rat):=λx=>by
  unfold cG
  by_cases e:x<0
  ·rw [if_pos (by have:=vd.mpr e;simpa using this),show ((x.natAbs:Nat):Int)=-x by try?,MO]
  ·rw [if_neg (by have:=Ou.mpr (xK.mp e);grind),show ((x.natAbs:Nat):Int)=x by try?]
 have M:∀p,p<es.length->cG (lB es s h p)<=cG d:=λp A=>by
  have h1:=E p A
  have H:((((nS (mo es) y i j k p).natAbs:Nat):Int):Rat)<=((((ab (mo es) y i k j).natAbs:Nat):Int):Rat):=Ou.mpr 0#q
  rw [G,G,<- yK (t:=mo es) (y:=y) (i:=i) (j:=j) (k:=k),v p A,v j 0#q,I.1,XF S,XF S,AQ n,AQ n] at H
  exact Mm H n
 refine ⟨U6 d,M,λe=>?_,λi' j' k' e=>?_⟩
 ·by_cases z:d=0
  ·rw [z];rfl
  ·rw [if_neg z] at e;cases e
 ·by_cases z:d=0
  ·rw [if_pos z] at e;cases e
  ·rw [if_neg z] at e
   cases e
   obtain ⟨N,O,Q⟩:=I
   refine ⟨λq=>z ?_,B,D,u,?_⟩
   ·unfold cG at q
    split at q <;> grind
   ·rw [N,O,Q]
    unfold cG
    split
    ·exact .inr ⟨rfl,by grind,rfl⟩
    ·exact .inl ⟨rfl,rfl,rfl⟩
inductive Fy (vs:List V) (H:Hp) (Q:VK) (E_:XK):Prop where
 | mk (l:af) (es:0#f) (n:Nat):vs=[.ref l]->H l=some 0#D->Row H es n->jN es->rising es->1<=n->n<=600->es.length*n+n<=7000->1<=es.length->es.length<=40->(∀(z zl zw:af) (F:V) (s h w:Rat) (Fo:Option (Nat×Nat×Nat)) (H':Hp),ah H H'->H' z=some (.tup [.ref zl,.ref zw,F])->ic H' zl s h (13*n+15)->bP H' zw w (7*n+9)->aax H' Fo F->OI es s h w Fo->Lin es s h->Q (.ref z) H')->Fy vs H Q E_
inductive BE (vs:List V) (H:Hp) (Q:VK) (E_:XK):Prop where
 | mk (p1 p2 p3:af) (t1 t2 t3:Int) (q1 q2 q3:Rat) (n:Nat):vs=[.ref p1,.ref p2,.ref p3]->gH H p1 t1 q1 n->gH H p2 t2 q2 n->gH H p3 t3 q3 n->t1<t3->7*n+7<=8990->(∀(z:af) (H':Hp),ah H H'->bP H' z (q2-cS t1 q1 t2 t3 q3) (7*n+7)->Q (.ref z) H')->BE vs H Q E_
def Ra:dB 3 [aG,"mid",cy] E9:=0#p
def Qp (F:dS K "stand" E9 f fd) (bD:Gp P w K mg base) (mQ:0#c 4 "loose_stand" [aG,"mid",cy] Bw):0#b 5 f fd [aG,"mid",cy] BE:=-by
 refine F.dm Ra 0#a
 obtain ⟨I,J,L,U,Y,Z,M,N,O,n,rfl,u,v,B,G,D,k⟩:=h
 apply bx ⟨_,(aF (aS (Jd.c1 bD hr (Jd.c3 mQ hr 0#w 0#C (aa 2))))),?_⟩
 apply ⟨I,J,L,U,Y,Z,M,N,O,n,rfl,u,v,B,G,by try?,λx H1 R e1=>?_⟩
 refine ⟨x,_,_,rfl,e1,D,λz p S e2=>?_⟩
 exact k z p (R.trans S) e2
def Rb:dB 2 [aG,az] Fc:=0#p
def Qq (F:dS K "times" Fc f fd) (cU:0#c 1 "loose_times" [aG,az] (iO (·*·) 0)) (bD:Gp P w K mg base):0#b 5 f fd [aG,az] (kg (·*·) 0):=-by
 refine F.dm Rb 0#a
 obtain ⟨p,r,q,D,m,n,rfl,B,u,z,k⟩:=h
 apply bx ⟨_,(aF (aS (Jd.c1 bD hr (bA cU hr 0#w 0#C)))),?_⟩
 apply ⟨p,r,q,D,m,n,rfl,B,u,by try?,λx H1 G e1=>?_⟩
 refine ⟨x,_,_,rfl,e1,z,λy v I e2=>?_⟩
 exact k y v (G.trans I) e2
def Qm (F:dS K "size" Ky f fd) (T:Txt mg):0#b 1 f fd [aG] FP:=-by
 refine F.dm Vd 0#a
 obtain ⟨p,q,n,rfl,⟨a,b,hp,u,D,G⟩,k⟩:=h
 apply bx ⟨_,(aF (aS (bu (br (fD xT rfl T.xU yu (c9 (aB K 0#w)) (he:=BH) (hpl:=cD)) (aB K 0#w))))),?_⟩
 rw [iV]
 refine aC (mk:=.tup) 0#t λz v B n1 e1=>?_
 refine k z v B ⟨_,_,e1,?_,D.of_le 0#q,G⟩
 have:=u.qt.abs
 exact ⟨u.pos,by show IB ((a.natAbs:Int).natAbs) b.natAbs=1;rw [Sf];exact u.co,this.eq⟩
def mC:dB 1 [aQ,cj,"three",aG,cy,"half","chord","forced"] Kr:=0#p
def UI (F:dS K "best" Kr f fd) (T:Txt mg) (yE:0#c 5 "slope" [aG,az] FQ) (jk:0#c 5 "line_by" [dz,aV] uV) (jV:0#c 4 "forcing_three" [aQ] wF) (DU:0#c 5 "times" [aG,az] (kg (·*·) 0)) (DT:0#c 5 "stand" [aG,"mid",cy] BE) (gX:0#c 5 "plus" [aG,az] (kg (·+·) 1)) (DR:0#c 1 "size" [aG] FP):0#b 6 f fd [aQ] Fy:=-by
 refine F.dm mC 0#a
 obtain ⟨l,es,n,rfl,hl,hR,hS,fW,Z,hn6,hn,h1,Cf,k⟩:=h
 obtain ⟨x0,g0,ac⟩:=cC hR hS (show 0<es.length by try?)
 obtain ⟨v0,al,am,zm0⟩:=id ac
 have z1:∀{m:Nat},1<=m->Sz m 1:=λh=>oQ h
 have zero:∀{G:Hp} {p:af} {m:Nat},G p=some (.tup [.int 0,.int 1])->1<=m->bP G p 0 m:=λe h=>⟨0,1,e,by have:=Fr.whole 0;simpa using this,Sz.of_le (z1 h) 0#s,z1 h⟩
 refine bx ⟨_,(ao (aM 1 mC.nd (Jd.iL K 0#w)) (ao (bU (bC cX (ju K T.jv 0#w) aA (aD _)) (aF (aS (bu (Jd.a3 (bu (br (bu (br aA aA)) (aB K 0#C))) (bu (br aA aA)) gK)))) bY) (ao (bU (bC cX (ju K T.jv 0#w) aA (aD _)) (aF (aS (bu (Jd.a3 (bA jk hr (bA yE hr 0#C (Jd.iL K 0#w)) 0#C) (bu (br aA aA)) gK)))) bY) (ao (aM 2 mC.nd (Jd.c1 jV hr 0#w)) (ao (aM 3 mC.nd (bV (iQ K) 0#w (aB K (aa 2)) 0#z)) (ao (aM 4 mC.nd (bV (iQ K) 0#w (aB K (aa 2)) 0#z)) (ao (aM 5 mC.nd (bA DU hr (Jd.c3 DT hr (aa 3) (bV (iQ K) 0#w (aB K (aa 2)) 0#z) (aa 4)) (bu (br aA aA)))) (ao (aM 6 mC.nd (bA jk hr (bA yE hr (aa 3) (aa 4)) (aa 3))) (ao (aM 7 mC.nd (uu (bC cX (aB K (aa 5)) aA (aD _)) gK (aa 2))) (aF (aS (bu (Jd.a3 (bu (br (aB K (aa 6)) (bA gX hr (aB K (aa 6)) (aa 5)))) (Jd.c1 DR hr (aa 5)) (aa 7)))))))))))))),?_⟩
 refine iB (λB I=>I=H/\B=[some (.ref l),some (.ref x0.1),none,none,none,none,none,none]) (λB I S=>?_) (λN u=>?_)
 rotate_left
 ·rw?
  apply dM hl (b8 (i:=0) g0 rfl) ?_
  exact u _ _ ⟨rfl,rfl⟩
 obtain ⟨rfl,rfl⟩:=S
 refine iB (λB L=>L=I/\B=[some (.ref l),some (.ref x0.1),none,none,none,none,none,none]/\es.length≠1) (λB L S=>?_) (λN u=>?_)
 rotate_left
 ·rw?
  refine dN (.inl (bw.of hl)) ?_
  rw [aP]
  rw?
  refine c7 (λc1=>?_) (λc1=>?_)
  ·have B9:(es.length:Int)=1:=dF c1
   rw?
   refine aC (mk:=.tup) 0#t λp1 H1 D n1 e1=>?_
   have ev1:=D _ _ al
   rw?
   apply aC (mk:=.tup) 0#t λp2 H2 s2 n2 e2=>?_
   apply aC (mk:=.tup) 0#t λp3 H3 s3 n3 e3=>?_
   refine aC (mk:=.tup) 0#t λp4 H4 s4 n4 e4=>?_
   have M:=s3.trans s4
   have J:=s2.trans M
   refine k p4 p2 p3 .bG 0 (wo es 0) 0 none H4 (D.trans J) e4 ⟨p1,v0,M _ _ e2,zero (J _ _ e1) 0#q,(am.up (D.trans J)).mono 0#q⟩ (zero (s4 _ _ e3) 0#q) rfl ⟨ko,λp hp=>?_,λ_=>rfl,λ_ _ _ e=>nomatch e⟩ (.inl ⟨by try?,rfl,rfl⟩)
   obtain rfl:p=0:=by try?
   unfold lB
   rw [show wo es 0-(0*(mo es 0:Rat)+wo es 0)=0 by grind]
   exact ko
  ·rw?
   exact u _ _ ⟨rfl,rfl,λz=>c1 (dY 0#q)⟩
 obtain ⟨rfl,rfl,aey⟩:=S
 refine iB (λB I=>I=L/\B=[some (.ref l),some (.ref x0.1),none,none,none,none,none,none]/\3<=es.length) (λB I S=>?_) (λN u=>?_)
 rotate_left
 ·rw?
  refine dN (.inl (bw.of hl)) ?_
  rw [aP]
  rw?
  refine c7 (λc1=>?_) (λc1=>?_)
  ·have B9:(es.length:Int)=2:=dF c1
   obtain ⟨x1,g1,ap⟩:=cC hR hS (show 1<es.length by try?)
   have ae:=gh fW (show 0<1 by decide) (show 1<es.length by try?)
   rw?
   apply dM hl (b8 (i:=1) g1 rfl) ?_
   apply ⟨x0.1,x1.1,_,_,_,_,n,rfl,ac,ap,by try?,by try?,λp1 H1 D f1=>?_⟩
   apply ⟨p1,x0.1,_,_,_,_,n,rfl,f1,ac.up D,Z,by try?,λzl r' H2 s2 ez fr=>?_⟩
   apply aC (mk:=.tup) 0#t λp3 H3 s3 n3 e3=>?_
   refine aC (mk:=.tup) 0#t λp4 H4 s4 n4 e4=>?_
   have M:=s3.trans s4
   refine k p4 zl p3 .bG _ _ 0 none H4 (D.trans (s2.trans M)) e4 ⟨p1,r',M _ _ ez,(f1.up (s2.trans M)).mono 0#q,(fr.up M).mono 0#q⟩ (zero (s4 _ _ e3) 0#q) rfl ⟨ko,λp hp=>?_,λ_=>rfl,λ_ _ _ e=>nomatch e⟩ (.inr ⟨0,0,1,by decide,by try?,by try?,rfl,.inl rfl⟩)
   have hT:=dH (b:=mo es 1-mo es 0) 0#q
   rw [rR] at hT
   have:lB es ((wo es 1-wo es 0)/((mo es 1-mo es 0:Int):Rat)) (wo es 0-(wo es 1-wo es 0)/((mo es 1-mo es 0:Int):Rat)*(mo es 0:Rat)) p=0:=by
    unfold lB
    rw [rR]
    rcases (show p=0\/p=1 by try?) with rfl | rfl
    ·grind
    ·grind
   rw [this]
   exact ko
  ·rw?
   exact u _ _ ⟨rfl,rfl,by
    have:¬(es.length:Int)=2:=λz=>c1 (dY z)
    try?⟩
 obtain ⟨rfl,rfl,h3⟩:=S
 rw?
 refine ⟨l,es,n,rfl,hl,hR,hS,fW,Z,hn,h3,Cf,λr i j kk y C H1 D er hC hy G5=>?_⟩
 obtain ⟨hij,hjk,U,_⟩:=id G5
 have ae:=gh fW (show i<kk by try?) U
 have Y:=D _ _ hl
 obtain ⟨xi,gi,si⟩:=cC (hR.up D) hS (show i<es.length by try?)
 obtain ⟨xj,gj,sj⟩:=cC (hR.up D) hS (show j<es.length by try?)
 obtain ⟨xk,gk,sk⟩:=cC (hR.up D) hS U
 rw?
 apply dM Y (b8 gi rfl) ?_
 apply dM Y (b8 gk rfl) ?_
 apply dM Y (b8 gj rfl) ?_
 apply ⟨xi.1,xj.1,xk.1,_,_,_,_,_,_,n,rfl,si,sj,sk,ae,by try?,λp2 H2 s2 f2=>?_⟩
 apply aC (mk:=.tup) 0#t λp3 H3 s3 n3 e3=>?_
 refine ⟨p2,p3,_,1/2,_,2,rfl,(f2.up s3).qt,⟨1,2,e3,⟨by decide,by decide +kernel⟩,by decide,by decide⟩,by try?,λp4 H4 s4 f4=>?_⟩
 have J:=s2.trans (s3.trans s4)
 rw?
 apply ⟨xi.1,xk.1,_,_,_,_,n,rfl,si.up J,sk.up J,by try?,by try?,λp5 H5 s5 f5=>?_⟩
 refine ⟨p5,xi.1,_,_,_,_,n,rfl,f5,si.up (J.trans s5),Z,by try?,λzc rc H6 s6 ec fc=>?_⟩
 have Tf:=s5.trans s6
 try dsimp only at f4
 generalize hd:(wo es j-cS (mo es i) (wo es i) (mo es j) (mo es kk) (wo es kk))*(1/2)=d at f4
 generalize hs:(wo es kk-wo es i)/((mo es kk-mo es i:Int):Rat)=sl at f5 fc
 have hB:=Ni hC fW hy G5 (s:=sl) (d:=d) (h:=wo es i-sl*(mo es i:Rat)+d) (by rw [<- hs,rR]) (by rw [<- hd];grind) rfl
 have R:=f4.up Tf
 obtain ⟨tp,bt,e6,ad,zt6,zb6⟩:=id R
 have ak:=(J.trans Tf) _ _ er
 have ag:tp=0↔d=0:=by
  have aj:=dH (b:=bt) (by have:=ad.pos;try?)
  have he:=ad.eq
  constructor
  ·intro z
   rw [z] at he
   have:((0:Int):Rat)=0:=rfl
   rw [this] at he
   rcases Xi.mp he.symm with q | q
   ·exact q
   ·exact absurd q aj
  ·intro z
   rw [z,Rat.zero_mul] at he
   exact DE.mp he
 refine Qc ?_
 refine iB (λB I=>I=H6/\∃v,B=[some (.ref l),some (.ref x0.1),some (.ref r),some (.ref xi.1),some (.ref xk.1),some (.ref p4),some (.ref zc),some v]/\aax H6 (if d=0 then none else some (i,j,kk)) v) (λB I S=>?_) (λN u=>?_)
 rotate_left
 ·rw?
  refine c7 (λc1=>?_) (λc1=>?_)
  ·have B9:=ag.mp (dF c1)
   rw?
   exact u _ _ ⟨rfl,.bG,rfl,by rw [if_pos B9];rfl⟩
  ·have B9:¬d=0:=λz=>c1 (dY (ag.mpr z))
   rw?
   exact u _ _ ⟨rfl,.ref r,rfl,by rw [if_neg B9];exact ⟨r,rfl,ak⟩⟩
 obtain ⟨rfl,v,rfl,hv⟩:=S
 rw?
 apply ⟨rc,p4,_,_,_,_,rfl,fc.qt,R.qt,by try?,λp7 H7 s7 f7=>?_⟩
 refine aC (mk:=.tup) 0#t λp8 H8 s8 n8 e8=>?_
 have ai:=s7.trans s8
 rw?
 apply ⟨p4,_,_,rfl,R.up ai,λp9 H9 s9 f9=>?_⟩
 refine aC (mk:=.tup) 0#t λan tT pH xh D3=>?_
 have CJ:=s9.trans pH
 have O:=ai.trans CJ
 refine k an p8 p9 v sl _ _ _ tT (D.trans (J.trans (Tf.trans O))) D3 ⟨p5,p7,CJ _ _ e8,(f5.up (s6.trans O)).mono 0#q,(f7.up (s8.trans CJ)).mono 0#q⟩ ((f9.up pH).mono 0#q) ?_ hB (.inr ⟨i,j,kk,by try?,U,by try?,hs.symm,.inr (by rw [<- hd];rfl)⟩)
 by_cases z:d=0
 ·rw [if_pos z] at hv ⊢
  exact hv
 ·rw [if_neg z] at hv ⊢
  obtain ⟨r',e1,e2⟩:=hv
  exact ⟨r',e1,O _ _ e2⟩
noncomputable def wY (es:0#f) (a b c:Nat):Rat:=cG (sd es a b c)/2
def Rf (hac:mo es a<mo es c):sd es a b c=lB es s h b-cS (mo es a) (lB es s h a) (mo es b) (mo es c) (lB es s h c):=-by
 have hT:((mo es c:Rat)-(mo es a:Rat))≠0:=by
  have:=dH (b:=mo es c-mo es a) 0#q
  rw [rR] at this
  exact this
 unfold sd lB cS
 generalize (mo es a:Rat)=ta at *
 generalize (mo es b:Rat)=tb at *
 generalize (mo es c:Rat)=tc at *
 grind
def OY (h1:ta<tb) (h2:tb<tc) (hx:x<=M) (hy:y<=M):cS ta x tb tc y<=M:=-by
 have a:=wO hx (show 0<=tc-tb by grind)
 have b:=wO hy (show 0<=tb-ta by grind)
 refine iI.mp λz=>?_
 unfold cS at z
 rw [Xm (by grind)] at z
 grind
def OX (h1:ta<tb) (h2:tb<tc) (hx:M<=x) (hy:M<=y):M<=cS ta x tb tc y:=-by
 have a:=wO hx (show 0<=tc-tb by grind)
 have b:=wO hy (show 0<=tb-ta by grind)
 refine iI.mp λz=>?_
 unfold cS at z
 rw [Xl (by grind)] at z
 grind
def Um (fW:rising es) (hle:∀p,p<es.length->cG (lB es s h p)<=w)  (hab:a<b) (hbc:b<c) (hc:c<es.length):wY es a b c<=w:=-by
 have n:(mo es a:Rat)<(mo es b:Rat):=vd.mpr (gh fW hab 0#q)
 have u:(mo es b:Rat)<(mo es c:Rat):=vd.mpr (gh fW hbc hc)
 have e:=Rf (es:=es) (s:=s) (h:=h) (a:=a) (b:=b) (c:=c) (gh fW 0#q hc)
 obtain ⟨a1,a2⟩:=oV.mp (hle a 0#q)
 obtain ⟨b1,b2⟩:=oV.mp (hle b 0#q)
 obtain ⟨c1,c2⟩:=oV.mp (hle c hc)
 have u1:=OY n u a2 c2
 have u2:=OX n u a1 c1
 have:cG (sd es a b c)<=2*w:=oV.mpr (by rw [e];constructor <;> grind)
 unfold wY
 grind
def zK (fW:rising es) (hB:OI es s h w (some (i,j,k))):i<j/\j<k/\k<es.length/\wY es i j k=w/\w≠0:=-by
 obtain ⟨D,n,p,u,B⟩:=hB.ab0 i j k rfl
 have t1:(mo es i:Rat)<(mo es j:Rat):=vd.mpr (gh fW n 0#q)
 have t2:(mo es j:Rat)<(mo es k:Rat):=vd.mpr (gh fW p u)
 have e:=Rf (es:=es) (s:=s) (h:=h) (a:=i) (b:=j) (c:=k) (gh fW 0#q u)
 have hn:=hB.nn
 refine ⟨n,p,u,?_,D⟩
 unfold wY
 have one:∀x:Rat,cS (mo es i) x (mo es j) (mo es k) x=x:=λx=>by
  unfold cS
  generalize (mo es i:Rat)=ta at *
  generalize (mo es j:Rat)=tb at *
  generalize (mo es k:Rat)=tc at *
  grind
 rcases B with ⟨v,z,A⟩ | ⟨v,z,A⟩
 ·rw [e,v,z,A,one]
  unfold cG
  split <;> grind
 ·rw [e,v,z,A,one]
  unfold cG
  split <;> grind
def sF (fW:rising es) (hB:0<=B):Gq es B↔∀i j k,i<j->j<k->k<es.length->cG (sd es i j k)<=B:=-by
 have D:aaz (λi=>(mo es i:Rat)) es.length:=λi j n u=>vd.mpr (gh fW n u)
 constructor
 ·intro A i j k n p z
  have u:j<es.length:=xH p z
  have E:=D i j n u
  have G:=D j k p z
  have O:=A i j i j n u n u
  have Q:=A i j j k n u p z
  have R:=A j k i j p z n u
  have S:=A j k j k p z p z
  by_cases hc:jc es B i j<=jc es B j k
  ·exact HS (s:=jc es B j k) (t:=λi=>(mo es i:Rat)) (v:=wo es) E G hc R ko S
  ·exact HS (s:=jc es B i j) (t:=λi=>(mo es i:Rat)) (v:=wo es) E G ko O (MW (oz.mp hc)) Q
 ·intro N i j k l n u H M
  exact aaV (t:=λi=>(mo es i:Rat)) (v:=wo es) D (λa b c I J L=>N a b c I J L) hB n u H M
def OO (fW:rising es) (hB:OI es s h w F) (fX:0<=β):Gq es (2*β)↔w<=β:=-by
 rw [sF fW (by grind)]
 constructor
 ·intro v
  cases F with
  | none=>rw [hB.none_ rfl];exact fX
  | some x=>
    obtain ⟨i,j,k⟩:=x
    obtain ⟨z,A,B,D,_⟩:=zK fW hB
    have:=v i j k z A B
    unfold wY at D
    grind
 ·intro hw i j k n p u
  have:=Um fW hB.le n p u
  unfold wY at this
  grind
def II (H:Hp) (p:af) (q:0#f) (N:Nat):Prop:=∃(s h w:Rat) (Fo:Option (Nat×Nat×Nat)),zG H (p,(mo q 0:Rat),s*(mo q 0:Rat)+h,(mo q (q.length-1):Rat),s*(mo q (q.length-1):Rat)+h) N/\OI q s h w Fo/\Lin q s h
def II.mv (t:0#e) (f:II H p q N):II H' p q N:=-by
 obtain ⟨s,h,w,n,f,b⟩:=f
 exact ⟨s,h,w,n,f.mv t,b⟩
def CV (H:Hp) (t:af) (es:0#f) (β:Rat):Prop:=∃i j:Nat,i<j/\j+1<es.length/\H t=some (.tup [.int (mo es i),.int (mo es j),.int (mo es (es.length-1))])/\β<wY es i j (es.length-1)
def CV.mv (t:0#e) (f:CV H p q β):CV H' p q β:=-by
 obtain ⟨i,j,a,b,e,g⟩:=f
 exact ⟨i,j,a,b,t e,g⟩
structure Lf (H:Hp) (run:0#f) (β:Rat) (N:Nat) (qs:List (List En)) (ps ts:List af):Prop where
 cut:Cut run (2*β) qs run.length
 lp:ps.length=qs.length
 lt:ts.length+1=qs.length
 pc:∀(i:Nat) (q:0#f) (p:af),qs[i]?=some q->ps[i]?=some p->II H p q N
 th:∀(i:Nat) (q q':0#f) (x:En) (t:af),qs[i]?=some q->qs[i+1]?=some q'->q'[0]?=some x->ts[i]?=some t->CV H t (q++[x]) β
def Lf.mv {run:0#f} (t:0#e) (f:Lf H run β N qs ps ts):Lf H' run β N qs ps ts:=
 ⟨f.cut,f.lp,f.lt,λi q p h1 h2=>(f.pc i q p h1 h2).mv t,λi q q' x t' h1 h2 h3 h4=>(f.th i q q' x t' h1 h2 h3 h4).mv t⟩
def vg (H:Hp) (β:Rat) (N:Nat) (rs:List (List En)) (zs:List (List (List En)×List af×List af)):Prop:=qb (λr z=>Lf H r β N z.1 z.2.1 z.2.2) rs zs
def vg.mv (t:0#e) (f:vg H β N rs zs):vg H' β N rs zs:=rf (λ_ _ _ r=>r.mv t) f
noncomputable def om (zs:List (List (List En)×List af×List af)):List af:=zs.flatMap (·.2.1)
noncomputable def xo (zs:List (List (List En)×List af×List af)):List af:=zs.flatMap (·.2.2)
def adf (xs:0#m):rK xs (some 1) none=xs.drop 1:=-by
 unfold rK HT.Gm
 cases xs with
 | nil=>rfl
 | cons x xs=>simp
def Cut.abo (h:Cut es B qs n) {i:Nat} (hq:qs[i]?=some q):1<=q.length/\q.length<=es.length:=-by
 obtain ⟨pos,_,_,h⟩:=h
 obtain ⟨h1,p,rfl,_⟩:=h i q hq
 rw [rB p]
 try?
def Cut.len (h:Cut es B qs n):qs.length<=n:=-by
 obtain ⟨pos,p0,pn,h⟩:=h
 have st:∀i,i<=qs.length->i<=pos i:=by
  intro i
  induction i with
  | zero=>intro _;exact lY _
  | succ i ih=>
    intro hi
    have a:=ih 0#q
    obtain ⟨h1,_⟩:=h i _ (lW (show i<qs.length by try?))
    try?
 have:=st qs.length (d8 _)
 try?
def AB:∀i:Nat,(parts s es i).flatten=(es.take i).filter s
 | 0=>by simp [parts]
 | i+1=>by
   have ih:=AB (s:=s) (es:=es) i
   unfold parts
   cases e:es[i]? with
   | none=>
     rw [qT,e]
     simpa using ih
   | some y=>
     have tk:es.take (i+1)=es.take i++[y]:=by rw [qT,e];rfl
     rw [tk,Ie]
     dsimp only
     split
     ·rename_i hs
      split
      ·rename_i hr
       obtain ⟨t,r',hp⟩:=AD hr
       rw [hp] at ih ⊢
       rw [<- ih]
       simp [hs]
      ·rw [Dz,ih]
       simp [hs]
     ·rename_i hs
      rw [ih]
      simp [hs]
def Nj {α:Type} {l:List (List α)} (i:Nat):(l.take i).flatten.length<=l.flatten.length:=-by
 have e:l.flatten=(l.take i).flatten++(l.drop i).flatten:=by rw [<- Dz,R8]
 rw [e,gA]
 exact MI _ _
def Cut.sub (h:Cut es B qs n) {i:Nat} (hq:qs[i]?=some q):q.Sublist es/\Gq q B:=-by
 obtain ⟨pos,_,_,h⟩:=h
 obtain ⟨h1,h2,rfl,p,_⟩:=h i q hq
 exact ⟨(ME _ _).trans (MG _ _),p⟩
def Cut.next (h:Cut es B qs n)  (hq:qs[i]?=some q) (hq':qs[i+1]?=some q'):∃x,q'[0]?=some x/\(q++[x]).Sublist es/\¬Gq (q++[x]) B:=-by
 obtain ⟨pos,_,_,h⟩:=h
 obtain ⟨h1,h2,rfl,hf,v⟩:=h i q hq
 obtain ⟨k1,k2,rfl,_,_⟩:=h (i+1) q' hq'
 have p:pos (i+1)<es.length:=by try?
 have u:es[pos (i+1)]?=some es[pos (i+1)]:=lW p
 refine ⟨es[pos (i+1)],by rw [vV 0#q,XG];exact u,?_,?_⟩
 ·rw [<- oS 0#q u]
  exact (ME _ _).trans (MG _ _)
 ·rw [<- oS 0#q u]
  exact v p
def ON (h:es[es.length-1]?=some x):tU (vals es) (-1)=some (.ref x.1):=-by
 have hl:=(kM.mp h).1
 unfold tU
 rw [aP,Eg (m:=es.length-1) 0#q]
 exact uY h
inductive Bq (vs:List V) (H:Hp) (Q:VK) (E_:XK):Prop where
 | mk (p:af) (s h:Rat) (a b:Int) (m n:Nat):vs=[.ref p,.int a,.int b]->ic H p s h n->Sz m a->Sz m b->1<=m->m+n+2*n/3+1<=8990->(∀(z:af) (H':Hp),ah H H'->zG H' (z,(a:Rat),s*(a:Rat)+h,(b:Rat),s*(b:Rat)+h) (m+n+2*n/3+1)->Q (.ref z) H')->Bq vs H Q E_
inductive qI (vs:List V) (H:Hp) (Q:VK) (E_:XK):Prop where
 | mk (l:af) (es:0#f) (n:Nat):vs=[.ref l]->H l=some 0#D->Row H es n->jN es->rising es->1<=n->n<=228->es.length*n+n<=7000->1<=es.length->es.length<=4->(∀(p:af) (H':Hp),ah H H'->II H' p es 6200->Q (.ref p) H')->qI vs H Q E_
inductive tM (vs:List V) (H:Hp) (Q:VK) (E_:XK):Prop where
 | mk (l x:af) (es:0#f) (m:Int) (q β:Rat) (n:Nat):vs=[.ref l,.ref x]->H l=some 0#D->Row H es n->gH H x m q n->jN es->rising (es++[(x,m,some q)])->1<=n->n<=228->(es.length+1)*n+n<=7000->es.length<4->0<=β->Gq es (2*β)->¬Gq (es++[(x,m,some q)]) (2*β)->(∀(t:af) (H':Hp),ah H H'->CV H' t (es++[(x,m,some q)]) β->Q (.ref t) H')->tM vs H Q E_
inductive yS (vs:List V) (H:Hp) (Q:VK) (E_:XK):Prop where
 | mk (l pb:af) (es:0#f) (β:Rat) (n nb:Nat):vs=[.ref l,.ref pb]->H l=some 0#D->Row H es n->rising es->es.length<=4->bI H pb β nb->0<=β->1<=n->n<=228->nb<=1000->(∀(y X Z:af) (zs:List (List (List En)×List af×List af)) (H':Hp),ah H H'->H' y=some (.tup [.ref X,.ref Z])->H X=none->H Z=none->X≠Z->H' X=some (.lst ((om zs).map V.ref))->H' Z=some (.lst ((xo zs).map V.ref))->vg H' β 6200 (parts jL es es.length) zs->Q (.ref y) H')->yS vs H Q E_
def Bj:dB 3 [bX,cj,cy] m8:=0#p
def Az (F:dS K "piece_along" m8 f fd) (ia:X4 P w K mg base):0#b 6 f fd [bX,cj,cy] Bq:=-by
 refine F.dm Bj 0#a
 obtain ⟨p,s,h,a,b,m,n,rfl,D,S,U,I,u,k⟩:=h
 apply bx ⟨_,(aF (aS (bu (Jd.a4 (bu (br 0#C aA)) (bA ia hr 0#w (bu (br 0#C aA))) (bu (br (aa 2) aA)) (bA ia hr 0#w (bu (br (aa 2) aA))))))),?_⟩
 apply aC (mk:=.tup) 0#t λp1 H1 s1 n1 e1=>?_
 refine aC (mk:=.tup) 0#t λp2 H2 L n2 e2=>?_
 have G:=s1.trans L
 rw?
 refine ⟨p,p2,s,h,_,m,n,rfl,ic.up D G,qO e2 S I,u,λp3 H3 M Z=>?_⟩
 have J:=G.trans M
 rw?
 apply aC (mk:=.tup) 0#t λp4 H4 N n4 e4=>?_
 refine aC (mk:=.tup) 0#t λp5 H5 O n5 e5=>?_
 have uN:=J.trans (N.trans O)
 rw?
 apply ⟨p,p5,s,h,_,m,n,rfl,ic.up D uN,qO e5 U I,u,λp6 H6 s6 f6=>?_⟩
 refine aC (mk:=.tup) 0#t λz Y R n7 e7=>?_
 have v:=O.trans (s6.trans R)
 have B:=N.trans v
 have one:∀{y:Int},Sz m y->Sz (m+n+2*n/3+1) y:=λz=>z.mono 0#q
 exact k z Y (J.trans B) ⟨p1,p3,p4,p6,e7,⟨a,1,(L.trans (M.trans B)) _ _ e1,Fr.whole a,one S,oQ 0#q⟩,Z.up B,⟨b,1,v _ _ e4,Fr.whole b,one U,oQ 0#q⟩,f6.up R⟩
def CK:dB 1 [fj] oY:=0#p
def CB (F:dS K "best_piece" oY f fd) (mR:0#c 6 "piece_along" [bX,cj,cy] Bq) (vm:0#c 6 "best" [aQ] Fy):0#b 7 f fd [fj] qI:=-by
 refine F.dm CK 0#a
 obtain ⟨l,es,n,rfl,N,J,I,fW,v,hn,Y,h1,R,k⟩:=h
 apply bx ⟨_,(aF (aS (Jd.c3 mR hr (aB K (Jd.c1 vm hr 0#w)) (aB K (Jd.iL K 0#w)) (aB K (bV (iQ K) 0#w (jh fM aA) 0#z))))),?_⟩
 refine ⟨l,es,n,rfl,N,J,I,fW,v,by try?,Y,h1,iy R 0#s,λz zl zw Fv sl O w' S H1 B ez hL _ _ hB D=>?_⟩
 obtain ⟨e0,g0,v0,ev0,fv0,L⟩:=cC (J.up B) I (show 0<es.length by try?)
 obtain ⟨e1,g1,v1,ev1,fv1,M⟩:=cC (J.up B) I (show es.length-1<es.length by try?)
 have u:=B _ _ N
 rw?
 apply dM u (b8 g0 rfl) ?_
 apply dM u (ON g1) ?_
 refine ⟨zl,sl,O,_,_,n,13*n+15,rfl,hL,L,M,v,by try?,λp U s2 G=>?_⟩
 refine k p U (B.trans s2) ⟨sl,O,w',S,?_,hB,D⟩
 obtain ⟨a,b,c,d,e,Z,G,f3,f4⟩:=G
 exact ⟨a,b,c,d,e,Z.mono 0#q,G.mono 0#q,f3.mono 0#q,f4.mono 0#q⟩
def ad9 (h:te σ H λx H1=>∃a,x=.ref a/\(∃xs,ny K H1 a xs)/\R (Yd K a) H1):Ut K te σ H R:=h
def pI:dB 2 [fj,"behind",aQ] lM:=0#p
def yg (F:dS K "ending_three" lM f fd) (T:Txt mg) (vm:0#c 6 "best" [aQ] Fy):0#b 7 f fd [fj,"behind"] tM:=-by
 refine F.dm pI 0#a
 obtain ⟨l,x,es,m,q,β,n,rfl,hl,hR,hx,hA,M,ag,hn,VN,Cf,fX,hf,ai,k⟩:=h
 generalize B:es++[(x,m,some q)]=fs at *
 have I:fs.length=es.length+1:=by rw [<- B];simp
 have R:Row H fs n:=by rw [<- B];exact hR.snoc hx.en
 have N:jN fs:=by rw [<- B];exact nE hA
 have ak:rising es:=by rw [<- B] at M;exact M.sublist (List.sublist_append_left _ _)
 apply bx ⟨_,(ao (lA (i:=2) pI.nd rfl (Or.inr rfl) (aI JW 0#w (dU (c9 0#C))) (hs:=aaf)) (aF (aS (uw Ce rfl T.K4 RX (c9 (pG (O:=["place"]) (N':=[aQ]) (cap:=[2]) rfl (Jd.piT K (aB K (Jd.c1 vm hr (aa 2)))) (λ_ _ _ _ _=>(c8 (i:=0) (show jR [("place":Str),("samples":Str)] by decide +kernel) rfl (Or.inl rfl))) (λ_ _ _ _ _=>ly) (λ_ _ _ _ _=>(bV (PF K) (bV (iQ K) 0#C 0#w 0#z) aA 0#z)) rfl ⟨⟨rfl,rfl,rfl,rfl⟩,trivial⟩ rfl 0#u rfl 0#u)))))),?_⟩
 apply aC (mk:=.lst) 0#t λl1 H1 s1 n1 e1=>?_
 refine QM (s1 _ _ hl) e1 ?_
 refine aC (mk:=.lst) (by rw [gA,aP];simp;try?) λL H2 s2 n2 e2=>?_
 have eL:H2 L=some (.lst (vals fs)):=by rw [e2,<- B];simp [vals]
 have gO:=s1.trans s2
 rw?
 apply ad9 ?_
 refine ⟨L,fs,n,rfl,eL,R.up gO,N,M,ag,by try?,by rw [I];exact VN,by try?,by try?,λz zl zw Fv sl ht w' Fo H3 s3 ez _ _ ae hB _=>?_⟩
 have hw:β<w':=oz.mp λz=>ai ((OO M hB fX).mpr z)
 cases Fo with
 | none=>exact absurd (hB.none_ rfl) (by grind)
 | some y=>
   obtain ⟨i,j,S⟩:=y
   obtain ⟨q1,q2,q3,q4,_⟩:=zK M hB
   have hk:S=es.length:=by
    refine S5 λhne=>?_
    have Jy:S<es.length:=by try?
    have h1:=(sF ak (show (0:Rat)<=2*β by grind)).mp hf i j S q1 q2 Jy
    have e:sd es i j S=sd fs i j S:=by
     unfold sd
     rw [<- B,jI (show i<es.length by try?),jM (show i<es.length by try?),jI (show j<es.length by try?),jM (show j<es.length by try?),jI Jy,jM Jy]
    unfold wY at q4
    rw [e] at h1
    grind
   subst hk
   obtain ⟨r,rfl,er⟩:=ae
   have pR:=gO.trans s3
   have ac:=s3 _ _ eL
   rw?
   refine ⟨r,rfl,⟨_,ny.of er⟩,?_⟩
   refine di (xs:=[.int (i:Int),.int (j:Int),.int (es.length:Int)]) Og (λZ J=>ny.of (J _ _ er)) 0#t (λc ys G=>ys=([i,j,es.length].take c).map λp=>V.int (mo fs p)) rfl ?_ ?_
   ·rintro D c v ys Z jT NN N0 h0 hD eD J U hy rfl kY kN
    obtain ⟨Y,ad,rfl,aj⟩:∃Y:Nat,[i,j,es.length][c]?=some Y/\v=.int (Y:Int)/\Y<fs.length:=by
     have hq:c<3:=(kM.mp U).1
     rcases (show c=0\/c=1\/c=2 by try?) with rfl | rfl | rfl
     ·exact ⟨i,rfl,by cases U;rfl,by try?⟩
     ·exact ⟨j,rfl,by cases U;rfl,by try?⟩
     ·exact ⟨es.length,rfl,by cases U;rfl,by try?⟩
    obtain ⟨e,ge,v',ev,fv,zv⟩:=cC (R.up (pR.trans J)) N aj
    apply jx h0 ?_
    apply bO ?_
    apply dM (J _ _ ac) (b8 ge rfl) ?_
    refine kY _ Z (ah.refl _) ?_
    rw [qT,ad,gw]
    rfl
   ·rintro D ys Z hD eD J hy rfl
    rw?
    refine ⟨D,_,rfl,.inl ⟨bw.of eD,λt nt=>?_⟩⟩
    refine k t _ ((pR.trans J).trans (iu nt _)) ⟨i,j,q1,by try?,?_,?_⟩
    ·rw [au,I]
     rfl
    ·rw [I,show es.length+1-1=es.length by try?,q4]
     exact hw
def qG:dB 2 [bE,aL,"telling","paper","run","parts"] EY:=0#p
def Qe (F:dS K "apart" EY f fd) (T:Txt mg) (oH:0#c 1 "runs" [bE] BC) (pZ:0#c 8 "stretches" [aQ,aL] (qK aH)) (oE:0#c 7 "best_piece" [fj] qI) (kR:0#c 7 "ending_three" [fj,"behind"] tM):0#b 9 f fd [bE,aL] yS:=-by
 refine F.dm qG 0#a
 obtain ⟨l,pb,es,β,n,nb,rfl,hl,hR,fW,Cf,hb,fX,aT,hn,bo,k⟩:=h
 apply bx ⟨_,(ao (aM 2 qG.nd (dU fZ)) (ao (aM 3 qG.nd (dU fZ)) (ao (gQ jd rfl (j0 K (Jd.c1 oH hr 0#w)) (c8 (i:=4) qG.nd rfl (Or.inl rfl)) (ao (aM 5 qG.nd (bA pZ hr (aa 4) 0#C)) (ao (gc (Jd.GI K (aa 2) (pG (O:=[fj]) (N':=[]) (cap:=[]) rfl (j0 K (aa 5)) (λ_ _ _ _ _=>(c8 (i:=0) (show jR [("stretch":Str)] by decide +kernel) rfl (Or.inl rfl))) (λ_ _ _ _ _=>ly) (λ_ _ _ _ _=>(iX oE (hr.mono 0#s) rfl (eN 0#w fZ bH) (he:=bH) (hpl:=cD))) rfl trivial rfl 0#u rfl 0#u)) (hs:=fH)) (aF (gc (Jd.GI K (aa 3) (pG (O:=[fj,"behind"]) (N':=[]) (cap:=[]) rfl (Jd.AH K rfl T.aat (br (aa 5) (Jd.nU (slL K) (aa 5) (Jd.rD aA) Jd.rC))) (λ_ _ _ _ _=>(Jd.UW K (n:=2) rfl (lz (c8 (i:=0) (show jR [("stretch":Str),("behind":Str)] by decide +kernel) rfl (Or.inl rfl)) (lz (c8 (i:=1) (show jR [("stretch":Str),("behind":Str)] by decide +kernel) rfl (Or.inl rfl)) Jd.kH)))) (λ_ _ _ _ _=>ly) (λ_ _ _ _ _=>(iX kR (hr.mono 0#s) rfl (eN 0#w (eN (bV (iQ K) 0#C aA 0#z) fZ BH) bH) (he:=bH) (hpl:=(cV BH cD)))) rfl trivial rfl 0#u rfl 0#u)) (hs:=fH)))))) (aF (aS (bu (br (aa 2) (aa 3)))))))),?_⟩
 apply aC (mk:=.lst) 0#t λX H1 s1 n1 e1=>?_
 refine aC (mk:=.lst) 0#t λZ H2 s2 n2 e2=>?_
 have gO:=s1.trans s2
 have OD:X≠Z:=λz=>by rw [<- z,e1] at n2;cases n2
 rw?
 apply iZ (kJ ?_)
 refine ⟨l,es,n,rfl,gO _ _ hl,hR.up gO,iy Cf 0#s,λTT ls H3 s3 Cb aR adv _=>?_⟩
 have bn:ls.length=(parts jL es es.length).length:=by rw [<- aR,iR]
 obtain ⟨a1,a2⟩:=Cb.own (s2 _ _ e1)
 obtain ⟨b1,b2⟩:=Cb.own e2
 have hF:∀i,((parts jL es es.length).take i).flatten.length<=4:=λi=>by
  have q1:=Nj (l:=parts jL es es.length) i
  rw [AB,pP] at q1
  have q2:(es.filter jL).length<=es.length:=WD ..
  try?
 refine ⟨TT,rfl,⟨_,bw.of Cb.at_⟩,fu (xs:=lrefs ls) (λi σ H4=>VB λ(L:List (List (List En)×List af×List af)) (v5 v6:Option V)=>σ=[some (.ref l),some (.ref pb),some (.ref X),some (.ref Z),v5,v6]/\ah H H4/\LL H2 H4 TT ls/\H4 X=some (.lst ((om L).map V.ref))/\H4 Z=some (.lst ((xo L).map V.ref))/\(om L).length<=((parts jL es es.length).take i).flatten.length/\(xo L).length<=((parts jL es es.length).take i).flatten.length/\vg H4 β 6200 ((parts jL es es.length).take i) L) ?_ ?_ ?_ ?_⟩
 ·exact ⟨[],none,none,rfl,gO.trans s3,Cb,(s2.trans s3) _ _ e1,s3 _ _ e2,d8 _,d8 _,trivial⟩
 ·rintro i σ H4 _ ⟨L,v5,v6,rfl,s4,yG,_⟩
  exact bw.of yG.at_
 ·rintro i x σ H4 hx ⟨L,v5,v6,rfl,s4,yG,eX,eZ,bq,bt,ac⟩
  refine ig λM B RR hM _ _=>?_
  obtain ⟨x,gx,rfl⟩:=nO hx
  have hi:i<ls.length:=(kM.mp gx).1
  have Oz:=nk gx
  have hp:(parts jL es es.length)[i]?=some x.2:=by rw [<- aR,lZ,gx];rfl
  obtain ⟨o1,o2,o3⟩:=rA es.length x.2 (nk hp)
  rw [pP] at o3
  obtain ⟨_,ex,_⟩:=yG.each x Oz
  have hx1:1<=x.2.length:=Dy.mpr o1
  have a8:x.2.length<=4:=iy o3.length_le Cf
  have Y0:Row H4 x.2 n:=λz hz=>hR.up s4 z (o3.subset hz)
  have am:rising x.2:=fW.sublist o3
  have eX0:=eX
  have eZ0:=eZ
  rw?
  refine ⟨x.1,pb,x.2,β,n,nb,rfl,ex,Y0,o2,am,hb.up s4,fX,by try?,bo,iy a8 0#s,λPT I H5 s5 Jj hC hl5=>?_⟩
  generalize aU:I.map (·.2)=S at *
  have bp:S.length=I.length:=by rw [<- aU,iR]
  have hq1:1<=S.length:=by
   obtain ⟨pos,p0,pn,_⟩:=hC
   rcases WS S.length with z | z
   ·rw [z,p0] at pn;try?
   ·exact z
  have gq:∀{c:Nat} {y:af×List En},I[c]?=some y->S[c]?=some y.2:=λ{c y} g=>by rw [<- aU,lZ,g];rfl
  have ag:∀{c:Nat},c<=5->c*n+n<=7000:=λ{c} hc=>by
   have:=Nat.mul_le_mul hc hn
   try?
  rw?
  apply ⟨.inl ⟨rfl,_,bw.of (s5 _ _ eX)⟩,?_⟩
  apply kJ ?_
  refine ⟨PT,rfl,⟨_,bw.of Jj.at_⟩,?_⟩
  refine di (xs:=lrefs I) cQ (λH6 s6=>bw.of (s6 _ _ Jj.at_)) (by rw [dG];try?) (λc ys G=>∃ps:List af,ys=ps.map V.ref/\ps.length=c/\∀(d:Nat) (q:0#f) (p:af),S[d]?=some q->ps[d]?=some p->II G p q 6200) ⟨[],rfl,rfl,λd q p _ h=>by simp at h⟩ ?_ ?_
  ·rintro D c v ys H6 jT NN N0 h0 hD eD s6 hv hy ⟨ps,rfl,hpl,al⟩ kY kN
   obtain ⟨y,gy,rfl⟩:=nO hv
   obtain ⟨_,ey,_⟩:=(Jj.up s6).each y (nk gy)
   obtain ⟨l1,l2⟩:=hC.abo (gq gy)
   obtain ⟨u1,u2⟩:=hC.sub (gq gy)
   apply jx h0 ?_
   apply bO ?_
   refine ⟨y.1,y.2,n,rfl,ey,λz hz=>(Y0.up (s5.trans s6)) z (u1.subset hz),λz hz=>o2 z (u1.subset hz),am.sublist u1,aT,by try?,ag 0#q,l1,by try?,λp R s7 f7=>?_⟩
   refine kY _ R s7 ⟨ps++[p],by simp,by simp [hpl],λd q p' U Y=>?_⟩
   by_cases hdc:d<ps.length
   ·rw [B4 hdc] at Y
    exact (al d q p' U Y).mv λ{b xs} z=>(rV s7) _ _ z
   ·rw [F9 0#q] at Y
    have ak:d-ps.length=0:=by
     have:=(kM.mp Y).1
     simp at this
     try?
    rw [ak] at Y
    obtain rfl:p=p':=by simpa using Y
    have Za:d=c:=by try?
    subst Za
    cases (gq gy).symm.trans U
    exact f7.mv λ{b xs} z=>eK (s7 _ _ eD) z
  ·rintro D ys H6 hD eD s6 hy ⟨ps,rfl,hpl,al⟩
   rw [dG] at hpl
   have Tf:=s5.trans s6
   have ai:=Tf _ _ eX
   have bc:=Tf _ _ eZ
   have a9:∀(d:Nat) (q:0#f) (p:af),S[d]?=some q->ps[d]?=some p->II H6 p q 6200:=λd q p U Y=>(al d q p U Y).mv λ{b xs} z=>gM _ _ z
   rw?
   refine Di ai eD (by rw [iR,iR];exact tR (aY (by have:=hF i;try?))) ?_
   generalize YY:upd H6 X (.lst ((om L).map V.ref++ps.map V.ref))=R
   have ar:∀{b:af} {xs:0#m},H6 b=some (.tup xs)->R b=some (.tup xs):=λ{b xs} e=>by
    rw [<- YY]
    exact AV X H6 _ _ _ (eK ai e)
   have a':∀{b:af} {o:HO},H6 b=some o->b≠X->R b=some o:=λ{b o} e ne=>by
    rw [<- YY]
    exact UC e ne
   have ba:R X=some (.lst ((om L++ps).map V.ref)):=by rw [<- YY,au,gw]
   have aw:=a' bc (jS OD)
   have bD:PT≠X:=λz=>by rw [z] at Jj;have:=Jj.new;rw [eX] at this;cases this
   have bG:∀y∈I,y.1≠X:=λy hy z=>by have:=(Jj.each y hy).1;rw [z,eX] at this;cases this
   have Jk:LL H4 R PT I:=by rw [<- YY];exact (Jj.up s6).other (jS bD) bG
   have bm:Row R x.2 n:=by rw [<- YY];exact (Y0.up Tf).app ai
   have V7:ah H R:=by rw [<- YY];exact bB (s4.trans Tf) n1
   rw?
   apply ⟨.inl ⟨rfl,_,bw.of aw⟩,?_⟩
   apply QX ?_
   refine ⟨_,rfl,1,rfl,PT,_,rfl,bw.of Jk.at_,λP1 bv=>?_⟩
   rw [adf]
   have s8:ah R (upd R P1 (.lst ((lrefs I).drop 1))):=bB (ah.refl _) bv
   have e8:upd R P1 (.lst ((lrefs I).drop 1)) P1=some (.lst ((lrefs I).drop 1)):=au
   generalize upd R P1 (.lst ((lrefs I).drop 1))=H8 at *
   rw?
   refine ⟨PT,P1,_,_,rfl,bw.of (s8 _ _ Jk.at_),bw.of e8,?_⟩
   refine vz (Gu:=I.length-1) (by rw [dG];try?) (by rw [kj,dG];try?) (.inr (by rw [kj,dG];try?)) (λH9 s9=>⟨bw.of ((s8.trans s9) _ _ Jk.at_),bw.of (s9 _ _ e8)⟩) 0#q (λc ys G=>∃N:List af,ys=N.map V.ref/\N.length=c/\∀(d:Nat) (q q':0#f) (y:En) (t:af),S[d]?=some q->S[d+1]?=some q'->q'[0]?=some y->N[d]?=some t->CV G t (q++[y]) β) ⟨[],rfl,rfl,λd q q' y t _ _ _ h=>by simp at h⟩ ?_ ?_
   ·rintro D' c v v' ys H9 tT pp jT NN N0 h0 bj Lz s9 pH be hc hv a6 hy ⟨N,rfl,a5,an⟩ kY kN
    obtain ⟨y,gy,rfl⟩:=nO hv
    rw [tN,DK] at a6
    obtain ⟨y',aj,rfl⟩:=nO a6
    have CJ:=s8.trans (s9.trans pH)
    obtain ⟨_,ey,_⟩:=(Jk.up CJ).each y (nk gy)
    obtain ⟨_,bi,_⟩:=(Jk.up CJ).each y' (nk aj)
    obtain ⟨l1,l2⟩:=hC.abo (gq gy)
    obtain ⟨u1,u2⟩:=hC.sub (gq gy)
    obtain ⟨z,gz,w1,w2⟩:=hC.next (gq gy) (gq aj)
    have aN:=bm.up CJ
    have a7:z∈x.2:=w1.subset 0#t
    have ez:z=(z.1,z.2.1,some (z.2.2.getD 0)):=by
     have:=o2 z a7
     obtain ⟨za,zm,zv⟩:=z
     cases zv with
     | none=>cases this
     | some q=>rfl
    have hz:=aN z a7
    rw [ez] at w1 w2 hz
    have hlen2:y.2.length+1<=4:=by
     have:=w1.length_le
     simp at this
     try?
    apply AN h0 be ?_
    apply bO ?_
    apply dM bi (b8 gz rfl) ?_
    refine ⟨y.1,z.1,y.2,_,_,β,n,rfl,ey,λu hu=>aN u (u1.subset hu),hz.sa,λu hu=>o2 u (u1.subset hu),am.sublist w1,aT,by try?,ag 0#q,by try?,fX,u2,w2,λt Gs Cc ay=>?_⟩
    rw [<- ez] at ay
    have as:=pH.trans Cc
    refine kY _ Gs Cc ⟨N++[t],by simp,by simp [a5],λd q q' y0 t' U ad ae J=>?_⟩
    by_cases hdc:d<N.length
    ·rw [B4 hdc] at J
     exact (an d q q' y0 t' U ad ae J).mv λ{b xs} z=>(rV as) _ _ z
    ·rw [F9 0#q] at J
     have ak:d-N.length=0:=by
      have:=(kM.mp J).1
      simp at this
      try?
     rw [ak] at J
     obtain rfl:t=t':=by simpa using J
     have Za:d=c:=by try?
     subst Za
     cases (gq gy).symm.trans U
     cases (gq aj).symm.trans ad
     cases gz.symm.trans ae
     exact ay.mv λ{b xs} z=>eK (as _ _ Lz) z
   ·rintro D' ys H9 bj Lz s9 hy ⟨N,rfl,a5,an⟩
    have V8:=s8.trans s9
    have bb:=V8 _ _ ba
    have ax:=V8 _ _ aw
    rw?
    refine Di ax Lz (by rw [iR,iR];exact tR (aY (by have:=hF i;try?))) ?_
    have G5:((parts jL es es.length).take (i+1)).flatten.length=((parts jL es es.length).take i).flatten.length+x.2.length:=by
     rw [qT,hp,Dz,gA]
     simp
    have hcl:=hC.len
    refine hM _ _ ⟨L++[(S,ps,N)],_,_,rfl,bB (V7.trans V8) (s1.free n2),?_,?_,?_,?_,?_,?_⟩
    ·have h6:LL H2 R TT ls:=by rw [<- YY];exact (yG.up Tf).other a1 a2
     exact (h6.up V8).other b1 b2
    ·rw [aJ OD,bb]
     simp [om]
    ·rw [au]
     simp [xo]
    ·have e:om (L++[(S,ps,N)])=om L++ps:=by simp [om]
     rw [G5,e,gA]
     try?
    ·have e:xo (L++[(S,ps,N)])=xo L++N:=by simp [xo]
     rw [G5,e,gA]
     try?
    ·have ap:∀{b:af} {xs:0#m},H9 b=some (.tup xs)->upd H9 Z (.lst ((xo L).map V.ref++N.map V.ref)) b=some (.tup xs):=λ{b xs} e=>AV Z H9 _ _ _ (eK ax e)
     rw [qT,hp]
     refine oK (ac.mv λ{b xs} e=>ap (V8 _ _ (ar (Tf _ _ e)))) ?_
     refine ⟨hC,by rw [hpl,bp],by show N.length+1=S.length;try?,λd q p U Y=>(a9 d q p U Y).mv λ{b xs} e=>ap (V8 _ _ (ar e)),λd q q' y t U ad ae J=>(an d q q' y t U ad ae J).mv λ{b xs} e=>ap (gM _ _ e)⟩
 ·rintro σ H4 ⟨L,v5,v6,rfl,s4,yG,eX,eZ,bq,bt,ac⟩
  rw [dG,bn,pP] at ac
  rw?
  refine aC (mk:=.tup) 0#t λy H5 s5 n5 e5=>?_
  exact k y X Z L H5 (s4.trans s5) e5 n1 (s1.free n2) OD (s5 _ _ eX) (s5 _ _ eZ) (ac.mv λ{b xs} e=>s5 _ _ e)
def To (ss:0#f) (B:Rat) (fl ro:Nat) (G:Rat):Prop:=∀q p,ro<=q->q<p->fl<=p->p<ss.length->jc ss B q p<=G
def Tn (ss:0#f) (B:Rat) (fl ro:Nat) (S:Rat):Prop:=∀q p,fl<=q->q<p->ro<=p->p<ss.length->S<=fQ ss B q p
def GF (ss:0#f) (B:Rat) (fl ro:Nat) (G:Rat):Prop:=To ss B fl ro G/\∃q p,ro<=q/\q<p/\fl<=p/\p<ss.length/\jc ss B q p=G
def SF (ss:0#f) (B:Rat) (fl ro:Nat) (S:Rat):Prop:=Tn ss B fl ro S/\∃q p,fl<=q/\q<p/\ro<=p/\p<ss.length/\fQ ss B q p=S
noncomputable def cB (ss:0#f) (T:Rat) (i:Nat):Rat:=wo ss i-T*(mo ss i:Rat)
def qu {a:Rat} (h:a=b):a<=b:=h▸ko
def iE (h:rising ss) (hij:i<j) (hj:j<ss.length):(0:Rat)<(mo ss j:Rat)-(mo ss i:Rat):=-by
 have:=vd.mpr (gh h hij hj)
 grind
def rq (h:rising ss) (hij:i<j) (hj:j<ss.length):jc ss B i j<=G↔cB ss G j<=cB ss G i+B:=-by
 unfold jc cB
 rw [rF (iE h hij hj)]
 constructor
 ·intro _;grind
 ·intro _;grind
def LS (h:rising ss) (hij:i<j) (hj:j<ss.length):G<=jc ss B i j↔cB ss G i+B<=cB ss G j:=-by
 unfold jc cB
 rw [oW (iE h hij hj)]
 constructor
 ·intro _;grind
 ·intro _;grind
def nI (h:rising ss) (hij:i<j) (hj:j<ss.length):S<=fQ ss B i j↔cB ss S i<=cB ss S j+B:=-by
 unfold fQ cB
 rw [oW (iE h hij hj)]
 constructor
 ·intro _;grind
 ·intro _;grind
def Hi (h:rising ss) (hij:i<j) (hj:j<ss.length):fQ ss B i j<=S↔cB ss S j+B<=cB ss S i:=-by
 unfold fQ cB
 rw [rF (iE h hij hj)]
 constructor
 ·intro _;grind
 ·intro _;grind
def JD (h:rising ss) (hij:i<j) (hj:j<ss.length):jc ss B i j=G↔cB ss G j=cB ss G i+B:=
 ⟨λe=>BS ((rq h hij hj).mp (qu e)) ((LS h hij hj).mp (qu e.symm)),λe=>BS ((rq h hij hj).mpr (qu e)) ((LS h hij hj).mpr (qu e.symm))⟩
def Ec (h:rising ss) (hij:i<j) (hj:j<ss.length):fQ ss B i j=S↔cB ss S i=cB ss S j+B:=
 ⟨λe=>BS ((nI h hij hj).mp (qu e.symm)) ((Hi h hij hj).mp (qu e)),λe=>BS ((Hi h hij hj).mpr (qu e.symm)) ((nI h hij hj).mpr (qu e))⟩
def To.mono (h:To ss B fl ro G) (g:G<=T):To ss B fl ro T:=λq p a1 a2 a3 a4=>yz (h q p a1 a2 a3 a4) g
def Tn.mono (h:Tn ss B fl ro S) (g:T<=S):Tn ss B fl ro T:=λq p a1 a2 a3 a4=>yz g (h q p a1 a2 a3 a4)
def Nc (hB:0<=B) (hr:rising ss) (hL:To ss B fl ro T) (hH:Tn ss B fl ro T) (ha:ro<=a) (hb:fl<=b) (la:a<ss.length) (lb:b<ss.length):cB ss T b<=cB ss T a+B:=-by
 rcases Sl a b with z | z | z
 ·exact (rq hr z lb).mp (hL a b ha z hb lb)
 ·subst z;grind
 ·exact (nI hr z la).mp (hH b a hb z ha la)
def uz (hi:i<ss.length):cB (ss++ys) T i=cB ss T i:=-by
 unfold cB
 rw [jI hi,jM hi]
def uy {ss:0#f} {m:Int}:cB (ss++[(x,m,some q)]) T ss.length=q-T*(m:Rat):=-by
 unfold cB
 rw [Em,F4]
def rz:mo (ss.drop j) i=mo ss (j+i):=by unfold mo;rw [tN]
def Ml:wo (ss.drop j) i=wo ss (j+i):=by unfold wo;rw [tN]
def wW (h:rising ss):rising (ss.drop j):=h.sublist (MG ..)
def Hh:cB (ss.drop j) T i=cB ss T (j+i):=by unfold cB;rw [rz,Ml]
def pB:cY (ss.drop j) B m q i=cY ss B m q (j+i):=by unfold cY;rw [rz,Ml]
def Pf (h1:∀G0,g=some G0->GF ss B fl ro G0/\G0<=G) (hN:g=none->∀q p,ro<=q->q<p->fl<=p->¬p<ss.length) (hfl:fl<=ss.length) (hall:∀i,i<(ss.drop ro).length->cY (ss.drop ro) (-B) m q i<=G) (hex:(∃i,i<(ss.drop ro).length/\cY (ss.drop ro) (-B) m q i=G)\/g=some G):GF (ss++[(x,m,some q)]) B fl ro G:=-by
 have E:(ss.drop ro).length=ss.length-ro:=kj ..
 rw [E] at hall hex
 refine ⟨λi j v n u z=>?_,?_⟩
 ·rw [gA] at z
  have hj':j<ss.length+1:=z
  by_cases e:j=ss.length
  ·subst e
   rw [yJ n]
   have:=hall (i-ro) 0#r
   rw [pB,show ro+(i-ro)=i by simp?] at this
   exact this
  ·rw [nN n 0#r]
   cases hg:g with
   | none=>exact absurd (show j<ss.length by simp?) (hN hg i j v n u)
   | some G0=>
     obtain ⟨D,H⟩:=h1 G0 hg
     exact yz (D.1 i j v n u 0#r) H
 ·rcases hex with ⟨i,v,e⟩ | e
  ·refine ⟨ro+i,ss.length,by simp?,by simp?,hfl,by rw [gA];show _<ss.length+1;simp?,?_⟩
   rw [yJ 0#r,<- pB]
   exact e
  ·obtain ⟨i,j,A,a1,a2,a3,a4⟩:=(h1 G e).1.2
   exact ⟨i,j,A,a1,a2,by rw [gA];show _<ss.length+1;simp?,by rw [nN a1 a3];exact a4⟩
def Rj (h1:∀S0,s=some S0->SF ss B fl ro S0/\S<=S0) (hN:s=none->∀q p,fl<=q->q<p->ro<=p->¬p<ss.length) (yH:ro<=ss.length) (hall:∀i,i<(ss.drop fl).length->S<=cY (ss.drop fl) B m q i) (hex:(∃i,i<(ss.drop fl).length/\cY (ss.drop fl) B m q i=S)\/s=some S):SF (ss++[(x,m,some q)]) B fl ro S:=-by
 have E:(ss.drop fl).length=ss.length-fl:=kj ..
 rw [E] at hall hex
 refine ⟨λi j v n u z=>?_,?_⟩
 ·rw [gA] at z
  have hj':j<ss.length+1:=z
  by_cases e:j=ss.length
  ·subst e
   rw [ur n]
   have:=hall (i-fl) 0#r
   rw [pB,show fl+(i-fl)=i by simp?] at this
   exact this
  ·rw [kP n 0#r]
   cases hg:s with
   | none=>exact absurd (show j<ss.length by simp?) (hN hg i j v n u)
   | some S0=>
     obtain ⟨D,G⟩:=h1 S0 hg
     exact yz G (D.1 i j v n u 0#r)
 ·rcases hex with ⟨i,v,e⟩ | e
  ·refine ⟨fl+i,ss.length,by simp?,by simp?,yH,by rw [gA];show _<ss.length+1;simp?,?_⟩
   rw [ur 0#r,<- pB]
   exact e
  ·obtain ⟨i,j,A,a1,a2,a3,a4⟩:=(h1 S e).1.2
   exact ⟨i,j,A,a1,a2,by rw [gA];show _<ss.length+1;simp?,by rw [kP a1 a3];exact a4⟩
def fS {ss:0#f}:(ss++[(x,m,some q)]).length=ss.length+1:=by simp
def DY {m:Int} (hr:rising (ss++[(x,m,some q)])) (s:SF (ss++[(x,m,some q)]) B fl ro S) (hG:Tn ss B fl ro G) (yH:ro<=ss.length):S<G↔∃i,fl<=i/\i<ss.length/\q-G*(m:Rat)+B<cB ss G i:=-by
 constructor
 ·intro h
  obtain ⟨i,j,n,a1,a2,a3,a4⟩:=s.2
  rw [fS] at a3
  by_cases e:j=ss.length
  ·subst e
   refine ⟨i,n,a1,oz.mp λz=>?_⟩
   have:=(nI (B:=B) (S:=G) hr a1 (by rw [fS];simp?)).mpr (by rw [uy,uz a1];exact z)
   rw [a4] at this
   exact absurd h (iI.mpr this)
  ·have:=hG i j n a1 a2 0#r
   rw [kP a1 0#r] at a4
   rw [a4] at this
   exact absurd h (iI.mpr this)
 ·rintro ⟨i,n,a1,h⟩
  refine oz.mp λz=>?_
  have:=s.1 i ss.length n a1 yH (by rw [fS];simp?)
  have:=(nI hr a1 (by rw [fS];simp?)).mp (yz z this)
  rw [uy,uz a1] at this
  exact absurd h (iI.mpr this)
def Lq {m:Int} (hr:rising (ss++[(x,m,some q)])) (g:GF (ss++[(x,m,some q)]) B fl ro G) (hS:To ss B fl ro S) (hfl:fl<=ss.length):S<G↔∃i,ro<=i/\i<ss.length/\cB ss S i+B<q-S*(m:Rat):=-by
 constructor
 ·intro h
  obtain ⟨i,j,n,a1,a2,a3,a4⟩:=g.2
  rw [fS] at a3
  by_cases e:j=ss.length
  ·subst e
   refine ⟨i,n,a1,oz.mp λz=>?_⟩
   have:=(rq (B:=B) (G:=S) hr a1 (by rw [fS];simp?)).mpr (by rw [uy,uz a1];exact z)
   rw [a4] at this
   exact absurd h (iI.mpr this)
  ·have:=hS i j n a1 a2 0#r
   rw [nN a1 0#r] at a4
   rw [a4] at this
   exact absurd h (iI.mpr this)
 ·rintro ⟨i,n,a1,h⟩
  refine oz.mp λz=>?_
  have:=g.1 i ss.length n a1 hfl (by rw [fS];simp?)
  have:=(rq hr a1 (by rw [fS];simp?)).mp (yz this z)
  rw [uy,uz a1] at this
  exact absurd h (iI.mpr this)
def GG {B:Rat} (hB:0<=B) (hb:mb<m) (ea:v-G*m=va-G*ma+B) (eb:vb-S*mb=v-S*m+B) (h:vb-G*mb<=va-G*ma+B):G<=S:=-by
 refine iI.mp λn=>?_
 have p:(0:Rat)<m-mb:=by grind
 have:=Ld n p
 grind
def IY {B:Rat} (hB:0<=B) (ha:ma<m) (ea:v-G*m=va-G*ma+B) (eb:vb-S*mb=v-S*m+B) (h:vb-S*mb<=va-S*ma+B):G<=S:=-by
 refine iI.mp λn=>?_
 have p:(0:Rat)<m-ma:=by grind
 have:=Ld n p
 grind
def TF (hB:0<=B) (hr:rising (ss++[(x,m,some q)])) (g:GF (ss++[(x,m,some q)]) B fl ro G) (s:SF (ss++[(x,m,some q)]) B fl ro S)
 (h1:∀i j,ro<=i->i<j->fl<=j->j<ss.length->jc ss B i j<=S) (h2:∀i j,fl<=i->i<j->ro<=j->j<ss.length->G<=fQ ss B i j):G<=S:=-by
 obtain ⟨i,j,A,a1,a2,a3,a4⟩:=g.2
 obtain ⟨k,l,D,n,E,H,v⟩:=s.2
 rw [fS] at a3 H
 by_cases e:j=ss.length
 ·by_cases e':l=ss.length
  ·subst e
   subst e'
   have p:=(JD hr a1 (by rw [fS];simp?)).mp a4
   have u:=(Ec hr n (by rw [fS];simp?)).mp v
   have mi:=iE hr a1 (by rw [fS];simp?)
   have mk:=iE hr n (by rw [fS];simp?)
   unfold cB at p u
   rcases Sl i k with z | z | z
   ·have:=(rq hr z (by rw [fS];simp?)).mp (g.1 i k A z 0#r (by rw [fS];simp?))
    unfold cB at this
    exact GG hB (by grind) p u this
   ·subst z
    exact GG hB (by grind) p u (by grind)
   ·have:=(nI hr z (by rw [fS];simp?)).mp (s.1 k i D z 0#r (by rw [fS];simp?))
    unfold cB at this
    exact IY hB (by grind) p u this
  ·rw [kP n 0#r] at v
   rw [<- v]
   exact h2 k l D n E 0#r
 ·rw [nN a1 0#r] at a4
  rw [<- a4]
  exact h1 i j A a1 a2 0#r
structure zf (ss:0#f) (β:Rat) (fl ro:Nat) (m:Int) (q G f:Rat) (a b:Nat):Prop where
 gf:GF ss (2*β) fl ro G
 off:∃i,fl<=i/\i<ss.length/\q-G*(m:Rat)+2*β<cB ss G i
 lo:∀i,fl<=i->i<ss.length->cB ss G i-β<=f
 hi:∀i,ro<=i->i<ss.length->f<=cB ss G i+β
 ha:ro<=a
 ea:cB ss G a+β=f
 hb:fl<=b
 lb:b<ss.length
 eb:cB ss G b-β=f
 fb:∀i,b<i->i<ss.length->cB ss G i-β≠f
 hab:a<b
structure zj (ss:0#f) (β:Rat) (fl ro:Nat) (m:Int) (q S f:Rat) (a b:Nat):Prop where
 sf:SF ss (2*β) fl ro S
 off:∃i,ro<=i/\i<ss.length/\cB ss S i+2*β<q-S*(m:Rat)
 lo:∀i,fl<=i->i<ss.length->cB ss S i-β<=f
 hi:∀i,ro<=i->i<ss.length->f<=cB ss S i+β
 ha:fl<=a
 ea:cB ss S a-β=f
 hb:ro<=b
 lb:b<ss.length
 eb:cB ss S b+β=f
 fb:∀i,b<i->i<ss.length->cB ss S i+β≠f
 hab:a<b
def GJ {α:Type} (P:α->Bool):∀(l:List α),(∃x∈l,P x=true)->∃(a:Nat) (x:α),l[a]?=some x/\P x=true/\(l.filter P)[0]?=some x/\∀(i:Nat) y,i<a->l[i]?=some y->P y=false
 | [],h=>by obtain ⟨x,hx,_⟩:=h;cases hx
 | y::r,h=>by
   by_cases hy:P y=true
   ·exact ⟨0,y,rfl,hy,by rw [HV hy];rfl,λi _ hi=>absurd hi (xC _)⟩
   ·obtain ⟨x,hx,px⟩:=h
    have hr:x∈r:=by
     rcases jG.mp hx with e | e
     ·rw [e] at px;exact absurd px hy
     ·exact e
    obtain ⟨a,z,g,A,p,v⟩:=GJ P r ⟨x,hr,px⟩
    refine ⟨a+1,z,g,A,by rw [Mr hy];exact p,λi u hi n=>?_⟩
    cases i with
    | zero=>cases n;exact ki.mpr hy
    | succ i=>exact v i u 0#r n
def LR {α:Type} (P:α->Bool):∀(l:List α),(∃x∈l,P x=true)->∃(b:Nat) (x:α),l[b]?=some x/\P x=true/\(l.filter P)[(l.filter P).length-1]?=some x/\∀(i:Nat) y,b<i->l[i]?=some y->P y=false
 | [],h=>by obtain ⟨x,hx,_⟩:=h;cases hx
 | y::r,h=>by
   by_cases hr:∃x∈r,P x=true
   ·obtain ⟨b,z,g,pz,e0,hn⟩:=LR P r hr
    refine ⟨b+1,z,g,pz,?_,λi u hi gu=>?_⟩
    ·by_cases hy:P y=true
     ·rw [HV hy]
      have hl:0<(r.filter P).length:=by
       cases e:r.filter P with
       | nil=>rw [e] at e0;cases e0
       | cons c d=>exact SJ _
      show (y::r.filter P)[(r.filter P).length+1-1]?=some z
      rw [show (r.filter P).length+1-1=((r.filter P).length-1)+1 by simp?,List.getElem?_cons_succ]
      exact e0
     ·rw [Mr hy];exact e0
    ·cases i with
     | zero=>simp?
     | succ i=>exact hn i u 0#r gu
   ·have hy:P y=true:=by
     obtain ⟨x,hx,n⟩:=h
     rcases jG.mp hx with e | e
     ·rw [e] at n;exact n
     ·exact absurd ⟨x,e,n⟩ hr
    have e0:r.filter P=[]:=Wx.mpr λx hx n=>hr ⟨x,hx,n⟩
    refine ⟨0,y,rfl,hy,by rw [HV hy,e0];rfl,λi u hi gu=>?_⟩
    cases i with
    | zero=>simp?
    | succ i=>exact ki.mpr λz=>hr ⟨u,nk gu,z⟩
def Ly (h:rising es)  (hk:es[k]?=some x):es.filter (λy=>decide (x.2.1<=y.2.1))=es.drop k:=-by
 have B:k<es.length:=(kM.mp hk).1
 have u:∀i y,es[i]?=some y->(k<=i↔x.2.1<=y.2.1):=λi y p=>by
  have n:i<es.length:=(kM.mp p).1
  have e1:mo es k=x.2.1:=by unfold mo;rw [hk];rfl
  have e2:mo es i=y.2.1:=by unfold mo;rw [p];rfl
  rcases Sl i k with z | z | z
  ·have:=gh h z B;simp?
  ·subst z;simp?
  ·have:=gh h z n;simp?
 conv=>lhs;rw [<- R8 k es]
 rw [Ie]
 have v:(es.take k).filter (λy=>decide (x.2.1<=y.2.1))=[]:=Wx.mpr λy p=>by
  obtain ⟨i,n⟩:=WJ p
  rw [MB] at n
  split at n
  ·have:=u i y n
   rw [MA]
   simp?
  ·cases n
 have A:(es.drop k).filter (λy=>decide (x.2.1<=y.2.1))=es.drop k:=List.filter_eq_self.mpr λy p=>by
  obtain ⟨i,n⟩:=WJ p
  rw [tN] at n
  exact dY ((u _ y n).mp (MI _ _))
 rw [v,A]
 rfl
def Fb (fs:List (Str×V)) (a b c d:af) (u v:V):Prop:=fs=[(("bound":Str),.ref a),(("twice":Str),.ref b),(("below":Str),.ref c),(("above":Str),.ref d),(("gentlest":Str),u),(("steepest":Str),v)]
def Fb.len (h:Fb fs a b c d u v):fs.length<=10:=by cases h;exact (by decide:6<=10)
def Fb.bd (h:Fb fs a b c d u v):fs.lookup ("bound":Str)=some (.ref a):=by cases h;kernel_rfl
def Fb.tw (h:Fb fs a b c d u v):fs.lookup ("twice":Str)=some (.ref b):=by cases h;kernel_rfl
def Fb.bl (h:Fb fs a b c d u v):fs.lookup ("below":Str)=some (.ref c):=by cases h;kernel_rfl
def Fb.ab (h:Fb fs a b c d u v):fs.lookup ("above":Str)=some (.ref d):=by cases h;kernel_rfl
def Fb.g (h:Fb fs a b c d u v):fs.lookup ("gentlest":Str)=some u:=by cases h;kernel_rfl
def Fb.s (h:Fb fs a b c d u v):fs.lookup ("steepest":Str)=some v:=by cases h;kernel_rfl
def Fb.init (a b c d:af) (u v:V):Fb (av "steepest" v (av "gentlest" u (av "above" (.ref d) (av "below" (.ref c) (av "twice" (.ref b) (av "bound" (.ref a) [])))))) a b c d u v:=by unfold Fb;kernel_rfl
def Fb.Ri (h:Fb fs a b c d u v):Fb (av "below" (.ref y) fs) a b y d u v:=by cases h;unfold Fb;kernel_rfl
def Fb.Rh (h:Fb fs a b c d u v):Fb (av "above" (.ref y) fs) a b c y u v:=by cases h;unfold Fb;kernel_rfl
def Fb.Bo (h:Fb fs a b c d u v):Fb (av "gentlest" y fs) a b c d y v:=by cases h;unfold Fb;kernel_rfl
def Fb.Bp (h:Fb fs a b c d u v):Fb (av "steepest" y fs) a b c d u y:=by cases h;unfold Fb;kernel_rfl
def Fb.vG (h:Fb fs a b c d u v) (m:Str) (e:([("bound":Str),("twice":Str),("below":Str),("above":Str),("gentlest":Str),("steepest":Str)]).all (λn=>! (m==n))=true:=by decide +kernel):fs.lookup m=none:=-by
 cases h
 simp only [DI,Gg,W4,XE] at e
 simp only [Il,e,Xj]
noncomputable def Km (p L M:af) (H:Hp):Hp:=rm p (rm L (rm M H))
def sU (h1:b≠p) (h2:b≠L) (h3:b≠M):Km p L M H b=H b:=by unfold Km;rw [lH h1,lH h2,lH h3]
def AU (h:Km p L M H b=some o):b≠p/\b≠L/\b≠M/\H b=some o:=-by
 have n:b≠p:=λq=>by rw [q] at h;unfold Km rm at h;simp at h
 have u:b≠L:=λq=>by rw [q] at h;unfold Km rm at h;simp at h
 have v:b≠M:=λq=>by rw [q] at h;unfold Km rm at h;simp at h
 rw [sU n u v] at h
 exact ⟨n,u,v,h⟩
def bI.tv (t:0#e) (f:bI H b q n):bI H' b q n:=let ⟨x,d,e,f⟩:=f;⟨x,d,t e,f⟩
def bP.tv (t:0#e) (f:bP H b q n):bP H' b q n:=let ⟨x,d,e,f⟩:=f;⟨x,d,t e,f⟩
def ic.tv (t:0#e) (f:ic H b q h n):ic H' b q h n:=let ⟨x,d,e,f1,f2⟩:=f;⟨x,d,t e,f1.tv t,f2.tv t⟩
def nB.tv (t:0#e) (f:nB H x n):nB H' x n:=-by
 obtain ⟨a,m,v⟩:=x
 cases v with
 | none=>exact ⟨f.1,t f.2⟩
 | some q=>
   obtain ⟨z,r,e,x,d,g,f⟩:=f
   exact ⟨z,r,t e,x,d,t g,f⟩
def Row.tv (t:0#e) (f:Row H es n):Row H' es n:=λx hx=>(f x hx).tv t
def OQ (H:Hp) (v:V) (N:Nat):Option Rat->Prop
 | none=>v=.bG
 | some G=>∃p,v=.ref p/\bI H p G N
def OQ.tv (t:0#e) (f:OQ H v N g):OQ H' v N g:=-by
 cases g with
 | none=>exact f
 | some G=>exact let ⟨p,e,f⟩:=f;⟨p,e,f.tv t⟩
def GO (ss:0#f) (B:Rat) (fl ro:Nat):Option Rat->Prop
 | none=>∀q p,ro<=q->q<p->fl<=p->¬p<ss.length
 | some G=>GF ss B fl ro G
def SO (ss:0#f) (B:Rat) (fl ro:Nat):Option Rat->Prop
 | none=>∀q p,fl<=q->q<p->ro<=p->¬p<ss.length
 | some S=>SF ss B fl ro S
structure xQ (ss:0#f) (fl ro:Nat) (β:Rat) (g s:Option Rat):Prop where
 all:jN ss
 Dj:rising ss
 hfl:fl<=ss.length
 yH:ro<=ss.length
 lt:0<ss.length->fl<ss.length/\ro<ss.length
 go:GO ss (2*β) fl ro g
 so:SO ss (2*β) fl ro s
 le:∀G S,g=some G->s=some S->G<=S
 df:fl=ro->fl=0
structure Tg (C:af) (H:Hp) (p Lb La:af) (ss:0#f) (fl ro:Nat) (β:Rat) (n nb:Nat) (g s:Option Rat) (dx bd tw:af) (fs:List (Str×V)) (gv sv:V):Prop where
 at_:H p=some (.ins C dx fs)
 F:Fb fs bd tw Lb La gv sv
 eb:H Lb=some (.lst (vals (ss.drop fl)))
 ea:H La=some (.lst (vals (ss.drop ro)))
 ne:Lb≠La
 row:Row H ss n
 S9:bP H bd β nb
 Pa:bI H tw (2*β) (2*nb+1)
 G:OQ H gv (3*n+(2*nb+1)+3) g
 S:OQ H sv (3*n+(2*nb+1)+3) s
 P:xQ ss fl ro β g s
def ji (C:af) (H:Hp) (p Lb La:af) (ss:0#f) (fl ro:Nat) (β:Rat) (n nb:Nat) (g s:Option Rat):Prop:=∃dx bd tw fs gv sv,Tg C H p Lb La ss fl ro β n nb g s dx bd tw fs gv sv
def Tg.mv (h:Tg C H p Lb La ss fl ro β n nb g s dx bd tw fs gv sv) (t:0#e) (hp:H' p=H p) (h1:H' Lb=H Lb) (h2:H' La=H La):Tg C H' p Lb La ss fl ro β n nb g s dx bd tw fs gv sv:=
 ⟨hp.trans h.at_,h.F,h1.trans h.eb,h2.trans h.ea,h.ne,h.row.tv t,h.S9.tv t,h.Pa.tv t,h.G.tv t,h.S.tv t,h.P⟩
def Tg.up (h:Tg C H p Lb La ss fl ro β n nb g s dx bd tw fs gv sv) (k:ah H H'):Tg C H' p Lb La ss fl ro β n nb g s dx bd tw fs gv sv:=
 h.mv (λ{b xs} e=>k _ _ e) ((k _ _ h.at_).trans h.at_.symm) ((k _ _ h.eb).trans h.eb.symm) ((k _ _ h.ea).trans h.ea.symm)
def ji.up (h:ji C H p Lb La ss fl ro β n nb g s) (k:ah H H'):ji C H' p Lb La ss fl ro β n nb g s:=
 let ⟨dx,bd,tw,fs,gv,sv,h⟩:=h;⟨dx,bd,tw,fs,gv,sv,h.up k⟩
def xQ.VL (h:xQ ss fl ro β g s) (e:g=some G):GF ss (2*β) fl ro G/\Tn ss (2*β) fl ro G:=-by
 have go:=h.go
 have n:=h.so
 rw [e] at go
 refine ⟨go,?_⟩
 cases hs:s with
 | none=>
   rw [hs] at n
   exact λq p a b c d=>absurd d (n q p a b c)
 | some S=>
   rw [hs] at n
   exact Tn.mono n.1 (h.le G S e hs)
def xQ.Zr (h:xQ ss fl ro β g s) (e:s=some S):SF ss (2*β) fl ro S/\To ss (2*β) fl ro S:=-by
 have go:=h.go
 have n:=h.so
 rw [e] at n
 refine ⟨n,?_⟩
 cases hs:g with
 | none=>
   rw [hs] at go
   exact λq p a b c d=>absurd d (go q p a b c)
 | some G=>
   rw [hs] at go
   exact To.mono go.1 (h.le G S hs e)
inductive Me (vs:List V) (H:Hp) (Q:VK) (E_:XK):Prop where
 | mk (p:af) (q:Rat) (n:Nat):vs=[.ref p]->bI H p q n->(∀(r:af) (H':Hp),ah H H'->bI H' r (-q) n->Q (.ref r) H')->Me vs H Q E_
inductive wL (vs:List V) (H:Hp) (Q:VK) (E_:XK):Prop where
 | mk (a b:V) (g s:Option Rat) (m n:Nat):vs=[a,b]->OQ H a m g->OQ H b n s->m+n<=100000->(∀r:Bool,(r=true↔∃G S,g=some G/\s=some S/\S<G)->Q (.bl r) H)->wL vs H Q E_
noncomputable def NZ (T f l:Rat) (x:En):Bool:=decide (x.2.2.getD 0-(T*(x.2.1:Rat)+f)=l)
def sP (h:es[i]?=some x):NZ T f l x=true↔cB es T i-f=l:=-by
 unfold NZ cB mo wo
 rw [MA,h]
 show x.2.2.getD 0-(T*(x.2.1:Rat)+f)=l↔x.2.2.getD 0-T*(x.2.1:Rat)-f=l
 constructor
 ·intro h;rw [<- h];grind
 ·intro h;rw [<- h];grind
inductive rH (vs:List V) (H:Hp) (Q:VK) (E_:XK):Prop where
 | mk (l ln pb:af) (es:0#f) (T f lam:Rat) (n M nb:Nat):vs=[.ref l,.ref ln,.ref pb]->H l=some 0#D->Row H es n->jN es->ic H ln T f M->bI H pb lam nb->1<=n->n<=10000->M<=10000->nb<=10000->es.length<=900->(∀(R:af) (H':Hp),ah H H'->H R=none->H' R=some (.lst (vals (es.filter (NZ T f lam))))->Q (.ref R) H')->rH vs H Q E_
def xw:dB 1 [aG] o7:=0#p
def Hz (F:dS K "opposite" o7 f fd):0#b 1 f fd [aG] Me:=-by
 refine F.dm xw 0#a
 obtain ⟨p,q,n,rfl,⟨a,b,hp,v,D,G⟩,k⟩:=h
 apply bx ⟨_,(aF (aS (bu (br (jh fM (aB K 0#w)) (aB K 0#w))))),?_⟩
 refine aC (mk:=.tup) 0#t λz u B n1 e1=>?_
 exact k z u B ⟨_,_,e1,v.neg,by unfold Sz at *;rw [xE];exact D,G⟩
def CL:dB 2 [aG,az] oZ:=0#p
def CC (F:dS K "is_steeper" oZ f fd) (cM:IS P w K mg base):0#b 2 f fd [aG,az] wL:=-by
 refine F.dm CL 0#a
 obtain ⟨a,b,g,s',m,n,rfl,v,B,p,k⟩:=h
 refine bx ⟨_,(aF (aS (Jd.lC (gR kG 0#w gK (aD _)) (Jd.lC (gR kG 0#C gK (aD _)) (Jd.oR (gR fF (bA cM hr 0#w 0#C) aA (aD _))))))),?_⟩
 cases g with
 | none=>
   obtain rfl:a=.bG:=v
   rw?
   refine ⟨rfl,_,rfl,bF ?_⟩
   exact k false ⟨λz=>absurd z 0#s,λ⟨_,_,e,_⟩=>by cases e⟩
 | some G=>
   obtain ⟨I,rfl,D⟩:=v
   cases s' with
   | none=>
     obtain rfl:b=.bG:=B
     rw?
     apply ⟨rfl,_,rfl,bO ?_⟩
     refine ⟨rfl,_,rfl,bF ?_⟩
     exact k false ⟨λz=>absurd z 0#s,λ⟨_,_,_,e,_⟩=>by cases e⟩
   | some S=>
     obtain ⟨J,rfl,fb⟩:=B
     rw?
     apply ⟨rfl,_,rfl,bO ?_⟩
     apply ⟨rfl,_,rfl,bO ?_⟩
     apply ⟨I,J,G,S,m,n,rfl,D,fb,p,λo u h2=>?_⟩
     refine k _ ⟨λz=>⟨G,S,rfl,rfl,u.mp (dF z)⟩,λ⟨_,_,e1,e2,z⟩=>?_⟩
     cases e1
     cases e2
     exact dY (u.mpr z)
def KG:dB 3 [aQ,bX,"lift"] wz:=0#p
def JV (F:dS K "touched" wz f fd) (cM:IS P w K mg base) (pX:0#c 4 "loose_off" [bX,aV] KS):0#b 5 f fd [aQ,bX,"lift"] rH:=-by
 refine F.dm KG 0#a
 obtain ⟨l,ln,pb,es,T,v,p,n,M,nb,rfl,hl,hR,hS,VN,Y,h1,hn,hM,hnb,jZ,k⟩:=h
 apply bx ⟨_,(aF (aS (pG (O:=[aV]) (N':=["lift","line" ]) (cap:=[2,1]) rfl (j0 K 0#w) (λ_ _ _ _ _=>(c8 (i:=0) (show jR [("sample":Str),("lift":Str),("line":Str)] by decide +kernel) rfl (Or.inl rfl))) (λ_ _ _ _ _=>(Jd.rE (bC cX (iX cM (hr.mono 0#s) rfl (eN (iX pX (hr.mono 0#s) rfl (eN (aa 2) (eN 0#w fZ bH) bH) (he:=bH) (hpl:=(cV bH cD))) (eN 0#C fZ bH) FZ) (he:=FZ) (hpl:=(cV bH cD))) aA (aD _)))) (λ_ _ _ _ _=>0#w) rfl ⟨⟨rfl,rfl,rfl,rfl⟩,⟨⟨rfl,rfl,rfl,rfl⟩,trivial⟩⟩ rfl 0#u rfl 0#u))),?_⟩
 apply kJ ?_
 refine ⟨l,rfl,⟨_,bw.of hl⟩,?_⟩
 refine di (xs:=vals es) cQ (λS B=>bw.of (B _ _ hl)) (by rw [aP];try?) (λi ys G=>ys=vals ((es.take i).filter (NZ T v p))) rfl ?_ ?_
 ·rintro D i x ys S jT N N0 h0 hD U B hx hy rfl kY kN
  obtain ⟨e,he,rfl⟩:=ja hx
  have hi:i<es.length:=(kM.mp he).1
  obtain ⟨xi,gi,fi⟩:=cC (hR.up B) hS hi
  rw [he] at gi
  cases gi
  have R:=Ms (NZ T v p) es i e he
  apply jx h0 ?_
  apply ⟨ln,e.1,T,v,_,_,n,M,rfl,VN.up B,fi,h1,by try?,by try?,λz H4 Z f4=>?_⟩
  refine ⟨z,pb,_,p,_,nb,rfl,f4,Y.up (B.trans Z),by try?,λo J L=>?_⟩
  have I:o=0↔cB es T i-v=p:=by
   have e1:wo es i-(T*(mo es i:Rat)+v)=cB es T i-v:=by unfold cB;grind
   rw [e1] at J L
   constructor
   ·intro h
    refine BS (iI.mp λz=>?_) (iI.mp λz=>?_)
    ·have:=J.mpr z;simp?
    ·have:=L.mpr z;simp?
   ·intro h
    rw [h] at J L
    have p1:¬0<o:=λz=>Sx (J.mp z)
    have p2:¬o<0:=λz=>Sx (L.mp z)
    simp?
  rw?
  cases hs:decide (o=0) with
  | true=>
    rw [(sP he).mpr (I.mp (dF hs)),if_pos rfl] at R
    apply bO ?_
    exact kY _ H4 Z (by rw [R,<- fK])
  | false=>
    have:NZ T v p e=false:=ki.mpr λz=>kh hs (I.mpr ((sP he).mp z))
    rw [this,if_neg nv,Io] at R
    refine bF ?_
    exact kN H4 Z (by rw [R])
 ·rintro D ys S hD U B hy rfl
  rw [aP,pP] at U
  rw?
  exact k D S B hD U
def Kp (F:af->Prop) (H H':Hp):Prop:=∀b o,¬F b->H b=some o->H' b=some o
def Kp.of (s:ah H H'):Kp F H H':=λb o _ e=>s b o e
def Kp.trans (h:Kp F H H') (h':Kp F H' H2):Kp F H H2:=λb o n e=>h' b o n (h b o n e)
def Kp.upd (h:Kp F H H') (hF:F a):Kp F H (upd H' a o):=λb u n e=>by
 rw [aJ (show b≠a from λq=>n (by rw [q];exact hF))]
 exact h b u n e
def Kp.sm (h:Kp F H H') (s:ah H' H2):Kp F H H2:=h.trans (.of s)
def L8 (f:Str) (v:V):∀fs:List (Str×V),(av f v fs).length<=fs.length+1
 | []=>d8 _
 | (g,y)::r=>by
   unfold av
   split
   ·exact Iz _
   ·exact BP (L8 f v r)
def Gv (ss:0#f) (β:Rat) (fl:Nat) (g s:Option Rat) (T f:Rat):Prop:=
 ((g=some T\/(g=none/\s=some T))/\(∀i,fl<=i->i<ss.length->cB ss T i-β<=f)/\∃i,fl<=i/\i<ss.length/\cB ss T i-β=f)\/(g=none/\s=none/\T=0/\f=wo ss fl)
inductive yT (C:af) (vs:List V) (H:Hp) (Q:VK) (E_:XK):Prop where
 | mk (p dx pb:af) (β:Rat) (n:Nat):vs=[.ref p,.ref pb]->H p=some (.ins C dx [])->bP H pb β n->n<=1000->(∀(Lb La:af) (H':Hp) (k:Nat),ah (rm p H) H'->H Lb=none->H La=none->ji C H' p Lb La [] 0 0 β k n none none->Q .bG H')->yT C vs H Q E_
inductive qJ (C:af) (vs:List V) (H:Hp) (Q:VK) (E_:XK):Prop where
 | mk (p Lb La pt:af) (ss:0#f) (fl ro:Nat) (β T:Rat) (n nb:Nat) (g s:Option Rat):vs=[.ref p,.ref pt]->ji C H p Lb La ss fl ro β n nb g s->bI H pt T (3*n+(2*nb+1)+3)->0<ss.length->ss.length<=900->n<=1500->(5*n+4*nb<=7900/\nb<=1000)->(∀(r:af) (f:Rat) (H':Hp),ah H H'->ic H' r T f (5*n+3*nb+7)->(∀i,fl<=i->i<ss.length->cB ss T i-β<=f)->(∃i,fl<=i/\i<ss.length/\cB ss T i-β=f)->Q (.ref r) H')->qJ C vs H Q E_
inductive Rk (C:af) (vs:List V) (H:Hp) (Q:VK) (E_:XK):Prop where
 | mk (p Lb La x:af) (ss:0#f) (fl ro:Nat) (m:Int) (q β G:Rat) (n nb:Nat) (s:Option Rat):vs=[.ref p,.ref x]->ji C H p Lb La ss fl ro β n nb (some G) s->gH H x m q n->(∀i,i<ss.length->mo ss i<m)->ss.length<=900->1<=n->n<=1500->(5*n+4*nb<=7900/\nb<=1000)->0<=β->(∃i,fl<=i/\i<ss.length/\q-G*(m:Rat)+2*β<cB ss G i)->(∀(r ln th wU wR:af) (f:Rat) (a b:Nat) (s':Option Rat) (H':Hp),ah (Km p Lb La H) H'->zf ss β fl ro m q G f a b->H' r=some (.tup [.ref ln,.ref th])->ic H' ln G f (5*n+3*nb+7)->H' th=some (.tup [.int (mo ss a),.int (mo ss b),.int m])->ji C H' p wU wR (ss++[(x,m,some q)]) b ss.length β n nb none s'->H wU=none->H wR=none->Q (.ref r) H')->Rk C vs H Q E_
inductive Rl (C:af) (vs:List V) (H:Hp) (Q:VK) (E_:XK):Prop where
 | mk (p Lb La x:af) (ss:0#f) (fl ro:Nat) (m:Int) (q β S:Rat) (n nb:Nat) (g:Option Rat):vs=[.ref p,.ref x]->ji C H p Lb La ss fl ro β n nb g (some S)->gH H x m q n->(∀i,i<ss.length->mo ss i<m)->ss.length<=900->1<=n->n<=1500->(5*n+4*nb<=7900/\nb<=1000)->0<=β->(∃i,ro<=i/\i<ss.length/\cB ss S i+2*β<q-S*(m:Rat))->(∀(r ln th wU wR:af) (f:Rat) (a b:Nat) (g':Option Rat) (H':Hp),ah (Km p Lb La H) H'->zj ss β fl ro m q S f a b->H' r=some (.tup [.ref ln,.ref th])->ic H' ln S f (5*n+3*nb+7)->H' th=some (.tup [.int (mo ss a),.int (mo ss b),.int m])->ji C H' p wU wR (ss++[(x,m,some q)]) ss.length b β n nb g' none->H wU=none->H wR=none->Q (.ref r) H')->Rl C vs H Q E_
def zF (ss:0#f) (β:Rat) (fl ro:Nat) (g s:Option Rat) (m:Int) (q:Rat):Prop:=(∀G,g=some G->∀i,fl<=i->i<ss.length->cB ss G i<=q-G*(m:Rat)+2*β)/\(∀S,s=some S->∀i,ro<=i->i<ss.length->q-S*(m:Rat)<=cB ss S i+2*β)
inductive FW (C:af) (vs:List V) (H:Hp) (Q:VK) (E_:XK):Prop where
 | mk (p Lb La x:af) (ss:0#f) (fl ro:Nat) (m:Int) (q β:Rat) (n nb:Nat) (g s:Option Rat):vs=[.ref p,.ref x]->ji C H p Lb La ss fl ro β n nb g s->gH H x m q n->(∀i,i<ss.length->mo ss i<m)->ss.length<=900->1<=n->n<=1500->(5*n+4*nb<=7900/\nb<=1000)->0<=β->(∀(g' s':Option Rat) (H':Hp),ah (Km p Lb La H) H'->zF ss β fl ro g s m q->ji C H' p Lb La (ss++[(x,m,some q)]) fl ro β n nb g' s'->Q .bG H')->(∀(r ln th wU wR:af) (G f:Rat) (a b:Nat) (s':Option Rat) (H':Hp),ah (Km p Lb La H) H'->g=some G->zf ss β fl ro m q G f a b->H' r=some (.tup [.ref ln,.ref th])->ic H' ln G f (5*n+3*nb+7)->H' th=some (.tup [.int (mo ss a),.int (mo ss b),.int m])->ji C H' p wU wR (ss++[(x,m,some q)]) b ss.length β n nb none s'->H wU=none->H wR=none->Q (.ref r) H')->(∀(r ln th wU wR:af) (S f:Rat) (a b:Nat) (g':Option Rat) (H':Hp),ah (Km p Lb La H) H'->s=some S->¬(∃G,g=some G/\∃i,fl<=i/\i<ss.length/\q-G*(m:Rat)+2*β<cB ss G i)->zj ss β fl ro m q S f a b->H' r=some (.tup [.ref ln,.ref th])->ic H' ln S f (5*n+3*nb+7)->H' th=some (.tup [.int (mo ss a),.int (mo ss b),.int m])->ji C H' p wU wR (ss++[(x,m,some q)]) ss.length b β n nb g' none->H wU=none->H wR=none->Q (.ref r) H')->FW C vs H Q E_
inductive Rn (C:af) (vs:List V) (H:Hp) (Q:VK) (E_:XK):Prop where
 | mk (p Lb La:af) (ss:0#f) (fl ro:Nat) (β:Rat) (n nb:Nat) (g s:Option Rat):vs=[.ref p]->ji C H p Lb La ss fl ro β n nb g s->ss.length<=900->1<=n->n<=1500->(5*n+4*nb<=7900/\nb<=1000)->(ss=[]->Q .bG H)->(0<ss.length->∀(r:af) (T f:Rat) (H':Hp),ah H H'->ic H' r T f (5*n+3*nb+7)->Gv ss β fl g s T f->Q (.ref r) H')->Rn C vs H Q E_
def ic.Mj (f:ic H p s h n) (k:ah H H'):ic H' p s h n:=f.tv λ{b xs} e=>k _ _ e
def C1 (fX:0<=β) (hr:rising ss) (g:GF ss (2*β) fl ro G) (hH:Tn ss (2*β) fl ro G) (lo:∀i,fl<=i->i<ss.length->cB ss G i-β<=f) (ex:∃i,fl<=i/\i<ss.length/\cB ss G i-β=f) :
 (∀i,ro<=i->i<ss.length->f<=cB ss G i+β)/\∃q p,ro<=q/\q<p/\fl<=p/\p<ss.length/\cB ss G q+β=f/\cB ss G p-β=f:=-by
 obtain ⟨b,u,v,eb⟩:=ex
 have n:∀i,ro<=i->i<ss.length->f<=cB ss G i+β:=λi h l=>by
  have:=Nc (by grind) hr g.1 hH h u l v
  grind
 refine ⟨n,?_⟩
 obtain ⟨q,p,a1,a2,a3,a4,e⟩:=g.2
 have e':=(JD hr a2 a4).mp e
 have l1:=lo p a3 a4
 have l2:=n q a1 0#r
 exact ⟨q,p,a1,a2,a3,a4,by grind,by grind⟩
def C4 (fX:0<=β) (hr:rising ss) (g:SF ss (2*β) fl ro S) (hL:To ss (2*β) fl ro S) (lo:∀i,fl<=i->i<ss.length->cB ss S i-β<=f) (ex:∃i,fl<=i/\i<ss.length/\cB ss S i-β=f) :
 (∀i,ro<=i->i<ss.length->f<=cB ss S i+β)/\∃q p,fl<=q/\q<p/\ro<=p/\p<ss.length/\cB ss S q-β=f/\cB ss S p+β=f:=-by
 obtain ⟨b,u,v,eb⟩:=ex
 have n:∀i,ro<=i->i<ss.length->f<=cB ss S i+β:=λi h l=>by
  have:=Nc (by grind) hr hL g.1 h u l v
  grind
 refine ⟨n,?_⟩
 obtain ⟨q,p,a1,a2,a3,a4,e⟩:=g.2
 have e':=(Ec hr a2 a4).mp e
 have l1:=lo q a1 0#r
 have l2:=n p a3 a4
 exact ⟨q,p,a1,a2,a3,a4,by grind,by grind⟩
def Lx {es:0#f} (h:(es.drop j)[i]?=some x):es[j+i]?=some x:=by rw [<- tN];exact h
def xA (h1:lo<=q) (h2:q<es.length) (e:cB es T q-f=l):∃a x,lo<=a/\a<=q/\es[a]?=some x/\((es.drop lo).filter (NZ T f l))[0]?=some x/\cB es T a-f=l:=-by
 have p:(es.drop lo)[q-lo]?=some es[q]:=by rw [tN,show lo+(q-lo)=q by simp?,lW h2]
 have u:NZ T f l es[q]=true:=(sP (lW h2)).mpr e
 obtain ⟨a,x,g,B,v,A⟩:=GJ (NZ T f l) (es.drop lo) ⟨_,nk p,u⟩
 have n:=Lx g
 refine ⟨lo+a,x,by simp?,?_,n,v,(sP n).mp B⟩
 by_cases z:q-lo<a
 ·have:=A _ _ z p
  rw [u] at this
  cases this
 ·simp?
def BK (h1:lo<=q) (h2:q<es.length) (e:cB es T q-f=l):∃a x,q<=a/\a<es.length/\es[a]?=some x/\((es.drop lo).filter (NZ T f l))[((es.drop lo).filter (NZ T f l)).length-1]?=some x/\cB es T a-f=l/\∀i,a<i->i<es.length->cB es T i-f≠l:=-by
 have p:(es.drop lo)[q-lo]?=some es[q]:=by rw [tN,show lo+(q-lo)=q by simp?,lW h2]
 have A:NZ T f l es[q]=true:=(sP (lW h2)).mpr e
 obtain ⟨a,x,g,G,B,v⟩:=LR (NZ T f l) (es.drop lo) ⟨_,nk p,A⟩
 have n:=Lx g
 refine ⟨lo+a,x,?_,(kM.mp n).1,n,B,(sP n).mp G,λi hi u D=>?_⟩
 ·by_cases z:a<q-lo
  ·have:=v _ _ z p
   rw [A] at this
   cases this
  ·simp?
 ·have E:(es.drop lo)[i-lo]?=some es[i]:=by rw [tN,show lo+(i-lo)=i by simp?,lW u]
  have:=v (i-lo) _ 0#r E
  rw [(sP (lW u)).mpr D] at this
  cases this
def DV (h:es[es.length-1]?=some x):tU (vals es) (-1)=some (.ref x.1):=-by
 have hl:=(kM.mp h).1
 unfold tU
 rw [aP,Eg (m:=es.length-1) 0#q]
 exact uY h
def yF (h:es[0]?=some x):tU (vals es) 0=some (.ref x.1):=gI (j:=0) (uY h)
def yP (h:rising ss) (hm:∀i,i<ss.length->mo ss i<m):rising (ss++[(x,m,some q)]):=AR h hm
def xQ.next (h:xQ ss fl ro β g s) (fX:0<=β) (hm:∀i,i<ss.length->mo ss i<m) (gG:GF (ss++[(x,m,some q)]) (2*β) fl ro G') (sS:SF (ss++[(x,m,some q)]) (2*β) fl ro S')
 (n1:¬ ∃G S,g=some G/\some S'=some S/\S<G) (n2:¬ ∃G S,some G'=some G/\s=some S/\S<G):xQ (ss++[(x,m,some q)]) fl ro β (some G') (some S')/\zF ss β fl ro g s m q:=-by
 have n:=yP (x:=x) (q:=q) h.Dj hm
 have B:∀G,g=some G->G<=S':=λG e=>iI.mp λz=>n1 ⟨G,S',e,rfl,z⟩
 have D:∀S,s=some S->G'<=S:=λS e=>iI.mp λz=>n2 ⟨G',S,rfl,e,z⟩
 have u:=h.hfl
 have E:=h.yH
 refine ⟨⟨nE h.all,n,by rw [fS];simp?,by rw [fS];simp?,λ_=>by rw [fS];simp?,gG,sS,?_,h.df⟩,λG e i v A=>?_,λS e i v A=>?_⟩
 ·intro G S e1 e2
  cases e1
  cases e2
  refine TF (by grind) n gG sS (λi j a b c d=>?_) (λi j a b c d=>?_)
  ·have go:=h.go
   cases hg:g with
   | none=>rw [hg] at go;exact absurd d (go i j a b c)
   | some G0=>rw [hg] at go;exact yz (go.1 i j a b c d) (B G0 hg)
  ·have p:=h.so
   cases hs:s with
   | none=>rw [hs] at p;exact absurd d (p i j a b c)
   | some S0=>rw [hs] at p;exact yz (D S0 hs) (p.1 i j a b c d)
 ·refine iI.mp λz=>?_
  exact absurd ((DY n sS (h.VL e).2 E).mpr ⟨i,v,A,z⟩) (iI.mpr (B G e))
 ·refine iI.mp λz=>?_
  exact absurd ((Lq n gG (h.Zr e).2 u).mpr ⟨i,v,A,z⟩) (iI.mpr (D S e))
def Fd:dB 2 [bN,aL] qv:=0#p
abbrev jj K mg c:=Cl K mg "Bend" c [aL,"twice","below","above",gD,gE]
def Er (F:pM K "__init__" "Bend.__init__" qv f fd) (aN:jj K mg aq) (gX:0#c 5 "plus" [aG,az] (kg (·+·) 1)):0#b 6 f fd [bN,aL] (yT aq):=-by
 refine F.dm Fd 0#a
 obtain ⟨p,D,u,β,n,rfl,hp,hb,hn,k⟩:=h
 have lp:∀(f:Str) (v:V) (fs:List (Str×V)),fs.length<=(av f v fs).length:=by
  intro f v fs
  induction fs with
  | nil=>exact lY _
  | cons x r ih=>
    obtain ⟨g,y⟩:=x
    unfold av
    split
    ·exact d8 _
    ·exact BP ih
 have M:∀{H H':Hp} {fs:List (Str×V)} {b:af} {xs:0#m},Kp (·=p) H H'->H p=some (.ins aq D fs)->H b=some (.tup xs)->H' b=some (.tup xs):=λh hp e=>h _ _ (λz=>by rw [z,hp] at e;cases e) e
 apply bx ⟨_,(ao (gT K 0#w 0#C) (ao (gT K 0#w (bA gX hr 0#C 0#C)) (ao (gT K 0#w (dU fZ)) (ao (gT K 0#w (dU fZ)) (ao (gT K 0#w gK) (aF (gT K 0#w gK))))))),?_⟩
 refine yO aN hp (by show 0<1000;decide) ?_
 have k1:Kp (·=p) H (upd H p (.ins aq D (av "bound" (.ref u) []))):=(Kp.of (ah.refl _)).upd rfl
 have N:=hb.tv (M k1 hp)
 have ai:upd H p (.ins aq D (av "bound" (.ref u) [])) p=some (.ins aq D (av "bound" (.ref u) [])):=au
 generalize upd H p (.ins aq D (av "bound" (.ref u) []))=H1 at *
 rw?
 refine ⟨u,u,β,β,n,n,rfl,N.qt,N.qt,by try?,λtw H2 s2 f2=>?_⟩
 have k2:=k1.sm s2
 have O:=s2 _ _ ai
 have ad:=N.up s2
 rw?
 have F6:=λB G=>(Fb.init u tw B G .bG .bG).len
 refine yO aN O (by have:=F6 u u;have:=lp "twice" (.ref tw) (av "bound" (.ref u) []);have:(av "bound" (.ref u) ([]:List (Str×V))).length=1:=rfl;try?) ?_
 have k3:Kp (·=p) H (upd H2 p (.ins aq D (av "twice" (.ref tw) (av "bound" (.ref u) [])))):=k2.upd rfl
 have ac:Kp (·=p) H2 (upd H2 p (.ins aq D (av "twice" (.ref tw) (av "bound" (.ref u) [])))):=(Kp.of (ah.refl _)).upd rfl
 have ae:=ad.tv (M ac O)
 have f3:=f2.tv (M ac O)
 have R:upd H2 p (.ins aq D (av "twice" (.ref tw) (av "bound" (.ref u) []))) p=some (.ins aq D (av "twice" (.ref tw) (av "bound" (.ref u) []))):=au
 generalize upd H2 p (.ins aq D (av "twice" (.ref tw) (av "bound" (.ref u) [])))=H3 at *
 rw?
 refine aC (mk:=.lst) 0#t λB H4 s4 Z e4=>?_
 have k4:=k3.sm s4
 have S:=s4 _ _ R
 have al:H B=none:=by
  cases g:H B with
  | none=>rfl
  | some o=>
    by_cases z:B=p
    ·rw [z,R] at Z;cases Z
    ·rw [k3 _ _ z g] at Z;cases Z
 have P7:B≠p:=λz=>by rw [z,R] at Z;cases Z
 rw?
 refine yO aN S (by have z1:=L8 "twice" (.ref tw) (av "bound" (.ref u) []);have z2:(av "bound" (.ref u) ([]:List (Str×V))).length=1:=rfl;try?) ?_
 have J:Kp (·=p) H4 (upd H4 p (.ins aq D (av "below" (.ref B) (av "twice" (.ref tw) (av "bound" (.ref u) []))))):=(Kp.of (ah.refl _)).upd rfl
 have ag:=(ae.up s4).tv (M J S)
 have f5:=(f3.up s4).tv (M J S)
 have e5:=J _ _ P7 e4
 have k5:=k4.trans J
 have U:upd H4 p (.ins aq D (av "below" (.ref B) (av "twice" (.ref tw) (av "bound" (.ref u) [])))) p=some (.ins aq D (av "below" (.ref B) (av "twice" (.ref tw) (av "bound" (.ref u) [])))):=au
 generalize upd H4 p (.ins aq D (av "below" (.ref B) (av "twice" (.ref tw) (av "bound" (.ref u) []))))=H5 at *
 rw?
 refine aC (mk:=.lst) 0#t λG H6 s6 L e6=>?_
 have k6:=k5.sm s6
 have Y:=s6 _ _ U
 have ak:H G=none:=by
  cases g:H G with
  | none=>rfl
  | some o=>
    by_cases z:G=p
    ·rw [z,U] at L;cases L
    ·rw [k5 _ _ z g] at L;cases L
 have aj:G≠p:=λz=>by rw [z,U] at L;cases L
 have ne:B≠G:=λz=>by rw [<- z,e5] at L;cases L
 have F:=Fb.init u tw B G .bG .bG
 have l0:=F.len
 have l1:=lp "steepest" .bG (av "gentlest" .bG (av "above" (.ref G) (av "below" (.ref B) (av "twice" (.ref tw) (av "bound" (.ref u) [])))))
 have l2:=lp "gentlest" .bG (av "above" (.ref G) (av "below" (.ref B) (av "twice" (.ref tw) (av "bound" (.ref u) []))))
 have l3:=lp "above" (.ref G) (av "below" (.ref B) (av "twice" (.ref tw) (av "bound" (.ref u) [])))
 rw?
 apply yO aN Y 0#q ?_
 apply yO aN au 0#q ?_
 apply yO aN au 0#q ?_
 rw [pC,pC]
 have I:Kp (·=p) H6 (upd H6 p (.ins aq D (av "steepest" .bG (av "gentlest" .bG (av "above" (.ref G) (av "below" (.ref B) (av "twice" (.ref tw) (av "bound" (.ref u) [])))))))):=(Kp.of (ah.refl _)).upd rfl
 have k7:=k6.trans I
 refine k B G _ 0 (λb o e=>?_) al ak ⟨D,u,tw,_,.bG,.bG,au,F,I _ _ P7 (s6 _ _ e5),I _ _ aj e6,ne,λx hx=>absurd hx 0#t,(ag.up s6).tv (M I Y),?_,rfl,rfl,⟨λx hx=>absurd hx 0#t,List.Pairwise.nil,d8 _,d8 _,λz=>absurd z 0#t,λq p _ _ _ z=>absurd z 0#t,λq p _ _ _ z=>absurd z 0#t,λ_ _ e=>(by cases e),λ_=>rfl⟩⟩
 ·by_cases hb':b=p
  ·rw [hb'] at e
   unfold rm at e
   rw [if_pos rfl] at e
   cases e
  ·rw [lH hb'] at e
   exact k7 _ _ hb' e
 ·have:=((f5.up s6).tv (M I Y)).qt
  have Yt:(2*β:Rat)=β+β:=by grind
  rw [Yt]
  exact this.mono 0#q
def in_of {rs:Qs} (hm:rs.map (·.2)=(fN N).map h):(∀i,i<N->∃x∈rs,x.2=h i)/\(∀x∈rs,∃i,i<N/\h i=x.2):=-by
 constructor
 ·intro i n
  have:h i∈rs.map (·.2):=by rw [hm];exact lV.mpr ⟨i,tP.mpr n,rfl⟩
  obtain ⟨x,p,e⟩:=lV.mp this
  exact ⟨x,p,e⟩
 ·intro x p
  have:x.2∈rs.map (·.2):=lV.mpr ⟨x,p,rfl⟩
  rw [hm] at this
  obtain ⟨i,n,e⟩:=lV.mp this
  exact ⟨i,tP.mp n,e⟩
def eE (h:jN es):jN (es.drop j):=λx hx=>h x (R9 hx)
def gn (h:Row H es n):Row H (es.drop j) n:=λx hx=>h x (R9 hx)
def Vw:Sz n 0:=Ss n
def kc:dB 2 [bN,dz,"told","lows"] lI:=0#p
def yd (F:pM K "line_of" "Bend.line_of" lI f fd) (aN:jj K mg aq) (bD:Gp P w K mg base) (cT:X3 P w K mg base) (aR:0#c 1 "loose_minus" [aG,az] (iO (·-·) 1)) (c5:Tj P w K mg base):0#b 5 f fd [bN,dz] (qJ aq):=-by
 refine F.dm kc 0#a
 obtain ⟨p,Lb,La,pt,I,B,ro,Z,T,n,nb,g,s',rfl,⟨dx,bd,tw,fs,gv,sv,J⟩,ht,h0,jZ,hn,hnb,k⟩:=h
 have hlt:=(J.P.lt h0).1
 have ld:(I.drop B).length=I.length-B:=kj ..
 apply bx ⟨_,(ao (lA (i:=2) kc.nd rfl (Or.inr rfl) (Jd.c1 bD hr 0#C) (hs:=fH)) (ao (Jd.kI (O:=[aV]) (N':=["told","self" ]) (cap:=[2,0]) (i:=3) kc.nd rfl (Or.inl rfl) rfl (j0 K (dD K 0#w)) (λ_ _ _ _ _=>(c8 (i:=0) (show jR [("sample":Str),("told":Str),("self":Str)] by decide +kernel) rfl (Or.inl rfl))) (λ_ _ _ _ _=>ly) (λ_ _ _ _ _=>(iX aR (hr.mono 0#s) rfl (eN (iX cT (hr.mono 0#s) rfl (eN 0#C (eN 0#w (eN aA fZ BG) bH) bH) (he:=bH) (hpl:=(cV bH (cV BG cD)))) (eN (dD K (aa 2)) fZ) FZ) (he:=FZ) (hpl:=(cV (by rfl) cD)))) rfl ⟨⟨rfl,rfl,rfl,rfl⟩,⟨⟨rfl,rfl,rfl,rfl⟩,trivial⟩⟩ rfl 0#u rfl 0#u (by rfl)) (aF (aS (bu (br (aa 2) (Jd.c1 bD hr (Jd.c1 c5 hr (aa 3))))))))),?_⟩
 apply ⟨pt,T,_,rfl,ht,by try?,λto H1 U f1=>?_⟩
 apply kJ ?_
 refine kq aN (U _ _ J.at_) J.F.bl ?_
 refine ⟨Lb,rfl,⟨_,bw.of (U _ _ J.eb)⟩,?_⟩
 refine di (xs:=vals (I.drop B)) cQ (λH3 M=>bw.of (M _ _ (U _ _ J.eb))) (by rw [aP];try?) (λi ys G'=>∃R:Qs,ys=cK R/\DM G' R (5*n+3*nb+7)/\R.map (·.2)=(fN i).map (λj=>cB (I.drop B) T j-Z)) ⟨[],rfl,λz hz=>absurd hz 0#t,rfl⟩ ?_ ?_
 ·rintro D i v ys H3 jT N N0 ac hD eD M hv hy ⟨R,rfl,L,G⟩ kY kN
  obtain ⟨e,he,rfl⟩:=ja hv
  have hi:i<(I.drop B).length:=(kM.mp he).1
  obtain ⟨xi,gi,fi⟩:=cC (gn (J.row.up (U.trans M))) (eE J.P.all) hi
  rw [he] at gi
  cases gi
  apply jx ac ?_
  apply bO ?_
  apply ⟨to,e.1,T,_,_,0,_,n,rfl,(f1.up M).qt,fi,Vw,by try?,by try?,λx H4 S f4=>?_⟩
  apply kq aN ((U.trans (M.trans S)) _ _ J.at_) J.F.bd ?_
  refine ⟨x,bd,_,Z,_,nb,rfl,f4,(J.S9.up (U.trans (M.trans S))).qt,by try?,λx5 H5 Y f5=>?_⟩
  refine kY _ H5 (S.trans Y) ⟨R++[(x5,cB (I.drop B) T i-Z)],by simp [cK],λy ad=>?_,?_⟩
  ·rcases iw.mp ad with w | w
   ·exact (L y w).up (rV (S.trans Y))
   ·obtain rfl:y=(x5,cB (I.drop B) T i-Z):=by simpa using w
    have e1:wo (I.drop B) i+T*((0-mo (I.drop B) i:Int):Rat)-Z=cB (I.drop B) T i-Z:=by
     unfold cB
     rw [rR]
     grind
    have f5:bI H5 x5 (wo (I.drop B) i+T*((0-mo (I.drop B) i:Int):Rat)-Z) _:=f5
    rw [e1] at f5
    obtain ⟨t,d,e',ff⟩:=f5.mono (show 3*n+(2*nb+1)+3+2*n+2+nb+1<=5*n+3*nb+7 by try?)
    exact ⟨t,d,eK ((S.trans Y) _ _ eD) e',ff⟩
  ·rw [gw,G,xD,gw]
   rfl
 rintro D ys H3 hD eD M hy ⟨R,rfl,L,G⟩
 rw [aP] at G
 have hlen:R.length=(I.drop B).length:=by
  have:=congrArg pL G
  simpa using this
 obtain ⟨ae,ZC⟩:=in_of G
 rw?
 apply ⟨D,R,5*n+3*nb+7,rfl,eD,λx hx=>(L x hx).up gM,by try?,by try?,λmx Oz pN=>?_⟩
 apply ⟨mx.1,mx.2,_,rfl,(L mx Oz).up gM,by try?,λr4 H4 S f4=>?_⟩
 refine aC (mk:=.tup) 0#t λy H5 Y n5 e5=>?_
 refine k y mx.2 H5 (U.trans (M.trans (S.trans Y))) ⟨to,r4,e5,(f1.up (M.trans (S.trans Y))).mono 0#q,f4.up Y⟩ (λi hi hl=>?_) ?_
 ·obtain ⟨x,hx,e⟩:=ae (i-B) 0#q
  have:=pN x hx
  rw [e,Hh,show B+(i-B)=i by try?] at this
  exact this
 ·obtain ⟨i,hi,e⟩:=ZC mx Oz
  exact ⟨B+i,by try?,by try?,by rw [<- Hh];exact e⟩
def dO:dB 2 [bN,aV,bX,cj,"mid"] gZ:=0#p
def ql (F:pM K "ended_in_cap" "Bend.ended_in_cap" gZ f fd) (aN:jj K mg aq) (bZ:Dm P w K mg base 5 aq "line_of" [bN,dz] (qJ aq)) (iJ:0#c 5 "touched" [aQ,bX,"lift"] rH) (jm:0#c 1 "opposite" [aG] Me) (cu:X7 P w K mg base):0#b 6 f fd [bN,aV] (Rk aq):=-by
 refine F.dm dO 0#a
 obtain ⟨p,Lb,La,x,B,L,ro,m,q,Y,G,n,nb,s',rfl,⟨J,bd,tw,fs,gv,sv,I⟩,hx,hm,jZ,h1,hn,aU,fX,ac,k⟩:=h
 have h0:0<B.length:=by obtain ⟨i,_,hi,_⟩:=ac;try?
 obtain ⟨hfl,yH⟩:=I.P.lt h0
 obtain ⟨pg,rfl,fg⟩:=id I.G
 obtain ⟨gG,hG⟩:=I.P.VL rfl
 have Dj:=I.P.Dj
 apply bx ⟨_,(ao (aM 2 dO.nd (Jd.uJ bZ aN.cl (hr.mono 0#s) 0#w (c9 (dD K 0#w)) (he:=(by rfl)) (hpl:=cD))) (ao (aM 3 dO.nd (Jd.iL K (Jd.c3 iJ hr (dD K 0#w) (aa 2) (Jd.c1 jm hr (dD K 0#w))))) (ao (lA (i:=4) dO.nd rfl (Or.inr rfl) (bV (iQ K) (Jd.c3 iJ hr (dD K 0#w) (aa 2) (dD K 0#w)) (jh fM aA) 0#z) (hs:=Rv)) (ao (gT K 0#w (pG (O:=[az]) (N':=["mid"]) (cap:=[4]) rfl (j0 K (dD K 0#w)) (λ_ _ _ _ _=>(c8 (i:=0) (show jR [("other":Str),("mid":Str)] by decide +kernel) rfl (Or.inl rfl))) (λ_ _ _ _ _=>(Jd.rE (bC HE (bV (PF K) 0#w aA 0#z) (bV (PF K) 0#C aA 0#z) (aD _)))) (λ_ _ _ _ _=>0#w) rfl ⟨⟨rfl,rfl,rfl,rfl⟩,trivial⟩ rfl 0#u rfl 0#u)) (ao (gT K 0#w (iX cu (hr.mono 0#s) rfl (Jd.a4 gK (dD K 0#w) 0#C (dD K 0#w)) (he:=BG) (hpl:=(cV (by rfl) (cV bH (cV (by rfl) cD)))))) (ao (gT K 0#w gK) (ao (gc (fB K (dD K 0#w) 0#C) (hs:=fH)) (ao (gT K 0#w (dU (c9 0#C))) (aF (aS (bu (br (aa 2) (bu (Jd.a3 (aB K (aa 3)) (aB K (aa 4)) (aB K 0#C))))))))))))))),?_⟩
 apply OE I.at_ (I.F.vG "line_of") ?_
 apply kq aN I.at_ I.F.g ?_
 refine ⟨p,Lb,La,pg,B,L,ro,Y,G,n,nb,some G,s',rfl,⟨J,bd,tw,fs,_,sv,I⟩,fg,h0,jZ,hn,aU,λln fo H1 s1 f1 lo ex=>?_⟩
 obtain ⟨hi,q0,p0,a1,a2,a3,a4,eq0,ep0⟩:=C1 fX Dj gG hG lo ex
 have zW:=I.up s1
 rw?
 apply kq aN zW.at_ I.F.ab ?_
 apply kq aN zW.at_ I.F.bd ?_
 refine ⟨bd,Y,nb,rfl,zW.S9.qt,λob H2 s2 f2=>?_⟩
 have ad:=zW.up s2
 rw?
 refine ⟨La,ln,ob,B.drop ro,G,fo,-Y,n,_,nb,rfl,ad.ea,gn ad.row,eE I.P.all,f1.Mj s2,f2,h1,by try?,by try?,by try?,by rw [kj];try?,λR3 H3 s3 n3 e3=>?_⟩
 have C7:=ad.up s3
 obtain ⟨a,xa,b1,b2,ga,g0,ea⟩:=xA (l:=-Y) (f:=fo) a1 0#q (show cB B G q0-fo=-Y by grind)
 obtain ⟨xa',aj,fa⟩:=cC (C7.row) I.P.all (show a<B.length by try?)
 rw [ga] at aj
 cases aj
 rw?
 apply dM e3 (yF g0) ?_
 apply kq aN C7.at_ I.F.bl ?_
 apply kq aN C7.at_ I.F.bd ?_
 refine ⟨Lb,ln,bd,B.drop L,G,fo,Y,n,_,nb,rfl,C7.eb,gn C7.row,eE I.P.all,f1.Mj (s2.trans s3),C7.S9.qt,h1,by try?,by try?,by try?,by rw [kj];try?,λR4 H4 s4 n4 e4=>?_⟩
 have Gi:=C7.up s4
 have Dp:=s1.trans (s2.trans (s3.trans s4))
 obtain ⟨b,xb,c1,c2,gb,g1,eb,fb⟩:=BK (l:=Y) (f:=fo) a3 a4 (show cB B G p0-fo=Y by grind)
 obtain ⟨xb',ak,ay⟩:=cC Gi.row I.P.all c2
 rw [gb] at ak
 cases ak
 obtain ⟨vb,ai,_⟩:=id ay
 obtain ⟨va,aw,_⟩:=id (fa.up s4)
 have mb:xb.2.1=mo B b:=by unfold mo;rw [gb];rfl
 have aH:(B.drop L)[b-L]?=some xb:=by rw [tN,show L+(b-L)=b by try?];exact gb
 have ar:(B.drop L).filter (λy=>decide (xb.2.1<=y.2.1))=B.drop b:=by
  rw [Ly (wW Dj) aH,Xn,show L+(b-L)=b by try?]
 rw?
 apply dM e4 (DV g1) ?_
 apply kJ ?_
 refine kq aN Gi.at_ I.F.bl ?_
 refine ⟨Lb,rfl,⟨_,bw.of Gi.eb⟩,?_⟩
 refine di (xs:=vals (B.drop L)) cQ (λR U=>bw.of (U _ _ Gi.eb)) (by rw [aP,kj];try?) (λi ys _=>ys=vals (((B.drop L).take i).filter (λy=>decide (xb.2.1<=y.2.1)))) rfl ?_ ?_
 ·rintro D i v ys R jT N N0 aR hD eD U hv hy rfl kY kN
  obtain ⟨e,he,rfl⟩:=ja hv
  have hi:i<(B.drop L).length:=(kM.mp he).1
  obtain ⟨xi,gi,⟨vi,ei,_⟩⟩:=cC (gn (Gi.row.up U)) (eE I.P.all) hi
  rw [he] at gi
  cases gi
  have me:mo (B.drop L) i=e.2.1:=by unfold mo;rw [he];rfl
  have ts:=Ms (λy:En=>decide (xb.2.1<=y.2.1)) (B.drop L) i e he
  have adi:=U _ _ ai
  apply jx aR ?_
  cases hs:decide (xb.2.1<=e.2.1) with
  | true=>
    rw [hs,if_pos rfl] at ts
    have ae:=dF hs
    rw [show decide (mo B b<=mo (B.drop L) i)=true from dY (by rw [me,<- mb];exact ae)]
    apply bO ?_
    exact kY _ R (ah.refl _) (by rw [ts,<- fK])
  | false=>
    rw [hs,if_neg nv,Io] at ts
    have ae:=kh hs
    rw [show decide (mo B b<=mo (B.drop L) i)=false from g9 (by rw [me,<- mb];exact ae)]
    refine bF ?_
    exact kN R (ah.refl _) (by rw [ts])
 rintro D ys R hD eD U hy rfl
 rw [aP,pP,ar] at eD
 have Nl:=Gi.up U
 have uN:=Dp.trans U
 have nD:H D=none:=by
  cases g:H D with
  | none=>rfl
  | some o=>rw [Dp _ _ g] at hD;cases hD
 have UG:D≠p:=λz=>by rw [z,I.at_] at nD;cases nD
 have fl0:=I.F.len
 rw?
 refine yO aN Nl.at_ 0#q ?_
 have kd:Kp (λb=>b=p) R (upd R p (.ins aq J (av "below" (.ref D) fs))):=(Kp.of (ah.refl _)).upd rfl
 have TY:upd R p (.ins aq J (av "below" (.ref D) fs)) p=some (.ins aq J (av "below" (.ref D) fs)):=au
 have k6:Kp (λb=>b=p\/b=D) H (upd R p (.ins aq J (av "below" (.ref D) fs))):=(Kp.of uN).upd (.inl rfl)
 have ag:=kd _ _ UG eD
 have tp:∀{b:af} {xs:0#m},R b=some (.tup xs)->upd R p (.ins aq J (av "below" (.ref D) fs)) b=some (.tup xs):=λe=>kd _ _ (λz=>by rw [z,Nl.at_] at e;cases e) e
 have QZ:=(Nl.row).tv tp
 have Ze:=((hx.up uN).en.tv tp).sa
 have Pb:=Nl.Pa.tv tp
 have YI:=Nl.S9.tv tp
 have YL:=(f1.Mj (s2.trans (s3.trans (s4.trans U)))).tv tp
 have YE:=tp (U _ _ aw)
 have YF:=tp (U _ _ ai)
 generalize upd R p (.ins aq J (av "below" (.ref D) fs))=H6 at *
 have F6:=I.F.Ri (y:=D)
 have l6:=F6.len
 rw?
 apply kq aN TY F6.bl ?_
 apply kq aN TY F6.tw ?_
 have ldb:(B.drop b).length=B.length-b:=kj ..
 refine ⟨.bG,D,x,tw,B.drop b,m,q,2*Y,n,2*nb+1,rfl,ag,gn QZ,eE I.P.all,Ze,Pb,by try?,by try?,by try?,λi hi=>by rw [rz];exact hm _ 0#q,.inl rfl,λz=>absurd z 0#q,λ_ ps S H7 s7 f7 _ al aT=>?_⟩
 have sS:SF (B++[(x,m,some q)]) (2*Y) b B.length S:=Rj (s:=none) (λ_ e=>by cases e) (λ_ i j _ _ z=>by try?) (d8 _) al (by
  rcases aT with z | ⟨pk,e,_⟩
  ·exact .inl z
  ·cases e)
 rw?
 have VH:=s7 _ _ TY
 apply yO aN VH 0#q ?_
 apply yO aN au (by rw [nW F6.s];try?) ?_
 apply kq aN au F6.Bp.Bo.bl ?_
 rw [pC]
 have k8:Kp (λb=>b=p\/b=D) H (upd H7 p (.ins aq J 0#y)):=(k6.sm s7).upd (.inl rfl)
 have as:upd H7 p (.ins aq J 0#y) p=some (.ins aq J 0#y):=au
 have Zi:Kp (λb=>b=p) H7 (upd H7 p (.ins aq J 0#y)):=(Kp.of (ah.refl _)).upd rfl
 have Yv:=Zi _ _ UG (s7 _ _ ag)
 have a9:∀{b:af} {xs:0#m},H6 b=some (.tup xs)->upd H7 p (.ins aq J 0#y) b=some (.tup xs):=λe=>Zi _ _ (λz=>by rw [z,TY] at e;cases e) (s7 _ _ e)
 have f8:bI (upd H7 p (.ins aq J 0#y)) ps S (3*n+(2*nb+1)+3):=f7.tv λ{b xs} e=>Zi _ _ (λz=>by rw [z,VH] at e;cases e) e
 generalize upd H7 p (.ins aq J 0#y)=H8 at *
 have F8:=F6.Bp (y:=.ref ps) |>.Bo (y:=.bG)
 apply ⟨.inl ⟨rfl,_,bw.of Yv⟩,?_⟩
 refine eG Yv (by rw [aP];exact aY 0#q) ?_
 have k9:Kp (λb=>b=p\/b=D) H (upd H8 D (.lst (vals (B.drop b)++[.ref x]))):=k8.upd (.inr rfl)
 have YB:upd H8 D (.lst (vals (B.drop b)++[.ref x])) p=some (.ins aq J 0#y):=by rw [aJ (jS UG)];exact as
 have Yw:upd H8 D (.lst (vals (B.drop b)++[.ref x])) D=some (.lst (vals ((B++[(x,m,some q)]).drop b))):=by
  rw [au,Oo 0#q,<- fK]
 have am:∀{b':af} {xs:0#m},H8 b'=some (.tup xs)->upd H8 D (.lst (vals (B.drop b)++[.ref x])) b'=some (.tup xs):=λe=>by rw [aJ (λz=>by rw [z,Yv] at e;cases e)];exact e
 generalize upd H8 D (.lst (vals (B.drop b)++[.ref x]))=H9 at *
 rw?
 refine aC (mk:=.lst) 0#t λM tT pH xh D3=>?_
 have nM:H M=none:=by
  cases g:H M with
  | none=>rfl
  | some o=>
    by_cases z:M=p
    ·rw [z,YB] at xh;cases xh
    ·by_cases z2:M=D
     ·rw [z2,Yw] at xh;cases xh
     ·rw [k9 _ _ (λu=>by rcases u with u | u;exact z u;exact z2 u) g] at xh;cases xh
 have a7:M≠p:=λz=>by rw [z,I.at_] at nM;cases nM
 have a6:D≠M:=λz=>by rw [<- z,Yw] at xh;cases xh
 rw?
 have l8:=F8.len
 refine yO aN (pH _ _ YB) 0#q ?_
 have an:=F8.Rh (y:=M)
 have a5:Kp (λb=>b=p\/b=D) H (upd tT p (.ins aq J (av "above" (.ref M) 0#y))):=(k9.sm pH).upd (.inl rfl)
 have YA:upd tT p (.ins aq J (av "above" (.ref M) 0#y)) p=some (.ins aq J (av "above" (.ref M) 0#y)):=au
 have Aj:Kp (λb=>b=p) tT (upd tT p (.ins aq J (av "above" (.ref M) 0#y))):=(Kp.of (ah.refl _)).upd rfl
 have Yu:=Aj _ _ UG (pH _ _ Yw)
 have Yx:=Aj _ _ a7 D3
 have RL:∀{b:af} {xs:0#m},H9 b=some (.tup xs)->upd tT p (.ins aq J (av "above" (.ref M) 0#y)) b=some (.tup xs):=λe=>Aj _ _ (λz=>by rw [z,YB] at e;cases e) (pH _ _ e)
 generalize upd tT p (.ins aq J (av "above" (.ref M) 0#y))=Gs at *
 have Z:∀{b:af} {xs:0#m},H6 b=some (.tup xs)->Gs b=some (.tup xs):=λe=>RL (am (a9 e))
 have aaH:=Z YE
 have aaI:=Z YF
 obtain ⟨vx,ax,_⟩:=id Ze
 have aaJ:=Z ax
 rw?
 apply aC (mk:=.tup) 0#t λth H12 a8 n12 Ys=>?_
 refine aC (mk:=.tup) 0#t λr ap EX n13 TU=>?_
 have Ko:=a8.trans EX
 refine k r ln th D M fo a b (some S) ap (λb' o e=>?_) ⟨gG,ac,lo,hi,b1,by grind,by try?,c2,by grind,λi hi hl z=>fb i hi hl (by grind),by try?⟩ TU ((YL.tv Z).Mj Ko) (EX _ _ Ys) ⟨J,bd,tw,_,.bG,.ref ps,Tg.up ⟨YA,an,Yu,?_,a6,?_,YI.tv Z,Pb.tv Z,rfl,⟨ps,rfl,(f8.tv λe=>RL (am e))⟩,?_⟩ Ko⟩ nD nM
 ·obtain ⟨n1,n2,n3,e⟩:=AU e
  refine Ko _ _ (a5 _ _ (λz=>?_) e)
  rcases z with z | z
  ·exact n1 z
  ·rw [z,nD] at e;cases e
 ·rw [Oo (d8 _),Xe]
  exact Yx
 ·exact (QZ.tv Z).snoc (Ze.en.tv Z)
 ·refine ⟨nE I.P.all,yP Dj hm,by rw [fS];try?,by rw [fS];try?,λ_=>by rw [fS];try?,λi j hi hij _ hj=>?_,sS,λ_ _ e=>(by cases e),λz=>absurd z 0#q⟩
  rw [fS] at hj
  try?
def dP:dB 2 [bN,aV,bX,cj,"mid"] g8:=0#p
def qm (F:pM K "ended_in_cup" "Bend.ended_in_cup" g8 f fd) (aN:jj K mg aq) (bZ:Dm P w K mg base 5 aq "line_of" [bN,dz] (qJ aq)) (iJ:0#c 5 "touched" [aQ,bX,"lift"] rH) (jm:0#c 1 "opposite" [aG] Me) (ck:X6 P w K mg base):0#b 6 f fd [bN,aV] (Rl aq):=-by
 refine F.dm dP 0#a
 obtain ⟨p,Lb,La,x,B,fl,L,m,q,Y,G,n,nb,s',rfl,⟨J,bd,tw,fs,gv,sv,I⟩,hx,hm,jZ,h1,hn,aU,fX,ac,k⟩:=h
 have h0:0<B.length:=by obtain ⟨i,_,hi,_⟩:=ac;try?
 obtain ⟨hfl,yH⟩:=I.P.lt h0
 obtain ⟨pg,rfl,fg⟩:=id I.S
 obtain ⟨gG,hG⟩:=I.P.Zr rfl
 have Dj:=I.P.Dj
 apply bx ⟨_,(ao (aM 2 dP.nd (Jd.uJ bZ aN.cl (hr.mono 0#s) 0#w (c9 (dD K 0#w)) (he:=(by rfl)) (hpl:=cD))) (ao (aM 3 dP.nd (Jd.iL K (Jd.c3 iJ hr (dD K 0#w) (aa 2) (dD K 0#w)))) (ao (lA (i:=4) dP.nd rfl (Or.inr rfl) (bV (iQ K) (Jd.c3 iJ hr (dD K 0#w) (aa 2) (Jd.c1 jm hr (dD K 0#w))) (jh fM aA) 0#z) (hs:=Rv)) (ao (gT K 0#w (pG (O:=[az]) (N':=["mid"]) (cap:=[4]) rfl (j0 K (dD K 0#w)) (λ_ _ _ _ _=>(c8 (i:=0) (show jR [("other":Str),("mid":Str)] by decide +kernel) rfl (Or.inl rfl))) (λ_ _ _ _ _=>(Jd.rE (bC HE (bV (PF K) 0#w aA 0#z) (bV (PF K) 0#C aA 0#z) (aD _)))) (λ_ _ _ _ _=>0#w) rfl ⟨⟨rfl,rfl,rfl,rfl⟩,trivial⟩ rfl 0#u rfl 0#u)) (ao (gT K 0#w (iX ck (hr.mono 0#s) rfl (Jd.a4 gK (dD K 0#w) 0#C (dD K 0#w)) (he:=BG) (hpl:=(cV (by rfl) (cV bH (cV (by rfl) cD)))))) (ao (gT K 0#w gK) (ao (gc (fB K (dD K 0#w) 0#C) (hs:=fH)) (ao (gT K 0#w (dU (c9 0#C))) (aF (aS (bu (br (aa 2) (bu (Jd.a3 (aB K (aa 3)) (aB K (aa 4)) (aB K 0#C))))))))))))))),?_⟩
 apply OE I.at_ (I.F.vG "line_of") ?_
 apply kq aN I.at_ I.F.s ?_
 refine ⟨p,Lb,La,pg,B,fl,L,Y,G,n,nb,s',some G,rfl,⟨J,bd,tw,fs,gv,_,I⟩,fg,h0,jZ,hn,aU,λln fo H1 s1 f1 lo ex=>?_⟩
 obtain ⟨hi,q0,p0,a1,a2,a3,a4,eq0,ep0⟩:=C4 fX Dj gG hG lo ex
 have zW:=I.up s1
 rw?
 apply kq aN zW.at_ I.F.bl ?_
 apply kq aN zW.at_ I.F.bd ?_
 refine ⟨Lb,ln,bd,B.drop fl,G,fo,Y,n,_,nb,rfl,zW.eb,gn zW.row,eE I.P.all,f1,zW.S9.qt,h1,by try?,by try?,by try?,by rw [kj];try?,λR3 H3 s3 n3 e3=>?_⟩
 have C7:=zW.up s3
 obtain ⟨a,xa,b1,b2,ga,g0,ea⟩:=xA (l:=Y) (f:=fo) a1 0#q (show cB B G q0-fo=Y by grind)
 obtain ⟨xa',aj,fa⟩:=cC (C7.row) I.P.all (show a<B.length by try?)
 rw [ga] at aj
 cases aj
 rw?
 apply dM e3 (yF g0) ?_
 apply kq aN C7.at_ I.F.ab ?_
 apply kq aN C7.at_ I.F.bd ?_
 refine ⟨bd,Y,nb,rfl,C7.S9.qt,λob H2 s2 f2=>?_⟩
 have ad:=C7.up s2
 rw?
 refine ⟨La,ln,ob,B.drop L,G,fo,-Y,n,_,nb,rfl,ad.ea,gn ad.row,eE I.P.all,f1.Mj (s3.trans s2),f2,h1,by try?,by try?,by try?,by rw [kj];try?,λR4 H4 s4 n4 e4=>?_⟩
 have Gi:=ad.up s4
 have Dp:=s1.trans (s3.trans (s2.trans s4))
 obtain ⟨b,xb,c1,c2,gb,g1,eb,fb⟩:=BK (l:=-Y) (f:=fo) a3 a4 (show cB B G p0-fo=-Y by grind)
 obtain ⟨xb',ak,ay⟩:=cC Gi.row I.P.all c2
 rw [gb] at ak
 cases ak
 obtain ⟨vb,ai,_⟩:=id ay
 obtain ⟨va,aw,_⟩:=id (fa.up (s2.trans s4))
 have mb:xb.2.1=mo B b:=by unfold mo;rw [gb];rfl
 have aH:(B.drop L)[b-L]?=some xb:=by rw [tN,show L+(b-L)=b by try?];exact gb
 have ar:(B.drop L).filter (λy=>decide (xb.2.1<=y.2.1))=B.drop b:=by
  rw [Ly (wW Dj) aH,Xn,show L+(b-L)=b by try?]
 rw?
 apply dM e4 (DV g1) ?_
 apply kJ ?_
 refine kq aN Gi.at_ I.F.ab ?_
 refine ⟨La,rfl,⟨_,bw.of Gi.ea⟩,?_⟩
 refine di (xs:=vals (B.drop L)) cQ (λR U=>bw.of (U _ _ Gi.ea)) (by rw [aP,kj];try?) (λi ys _=>ys=vals (((B.drop L).take i).filter (λy=>decide (xb.2.1<=y.2.1)))) rfl ?_ ?_
 ·rintro D i v ys R jT N N0 aR hD eD U hv hy rfl kY kN
  obtain ⟨e,he,rfl⟩:=ja hv
  have hi:i<(B.drop L).length:=(kM.mp he).1
  obtain ⟨xi,gi,⟨vi,ei,_⟩⟩:=cC (gn (Gi.row.up U)) (eE I.P.all) hi
  rw [he] at gi
  cases gi
  have me:mo (B.drop L) i=e.2.1:=by unfold mo;rw [he];rfl
  have ts:=Ms (λy:En=>decide (xb.2.1<=y.2.1)) (B.drop L) i e he
  have adi:=U _ _ ai
  apply jx aR ?_
  cases hs:decide (xb.2.1<=e.2.1) with
  | true=>
    rw [hs,if_pos rfl] at ts
    have ae:=dF hs
    rw [show decide (mo B b<=mo (B.drop L) i)=true from dY (by rw [me,<- mb];exact ae)]
    apply bO ?_
    exact kY _ R (ah.refl _) (by rw [ts,<- fK])
  | false=>
    rw [hs,if_neg nv,Io] at ts
    have ae:=kh hs
    rw [show decide (mo B b<=mo (B.drop L) i)=false from g9 (by rw [me,<- mb];exact ae)]
    refine bF ?_
    exact kN R (ah.refl _) (by rw [ts])
 rintro D ys R hD eD U hy rfl
 rw [aP,pP,ar] at eD
 have Nl:=Gi.up U
 have uN:=Dp.trans U
 have nD:H D=none:=by
  cases g:H D with
  | none=>rfl
  | some o=>rw [Dp _ _ g] at hD;cases hD
 have UG:D≠p:=λz=>by rw [z,I.at_] at nD;cases nD
 have fl0:=I.F.len
 rw?
 refine yO aN Nl.at_ 0#q ?_
 have kd:Kp (λb=>b=p) R (upd R p (.ins aq J (av "above" (.ref D) fs))):=(Kp.of (ah.refl _)).upd rfl
 have TY:upd R p (.ins aq J (av "above" (.ref D) fs)) p=some (.ins aq J (av "above" (.ref D) fs)):=au
 have k6:Kp (λb=>b=p\/b=D) H (upd R p (.ins aq J (av "above" (.ref D) fs))):=(Kp.of uN).upd (.inl rfl)
 have ag:=kd _ _ UG eD
 have tp:∀{b:af} {xs:0#m},R b=some (.tup xs)->upd R p (.ins aq J (av "above" (.ref D) fs)) b=some (.tup xs):=λe=>kd _ _ (λz=>by rw [z,Nl.at_] at e;cases e) e
 have QZ:=(Nl.row).tv tp
 have Ze:=((hx.up uN).en.tv tp).sa
 have Pb:=Nl.Pa.tv tp
 have YI:=Nl.S9.tv tp
 have YL:=(f1.Mj (s3.trans (s2.trans (s4.trans U)))).tv tp
 have YE:=tp (U _ _ aw)
 have YF:=tp (U _ _ ai)
 generalize upd R p (.ins aq J (av "above" (.ref D) fs))=H6 at *
 have F6:=I.F.Rh (y:=D)
 have l6:=F6.len
 rw?
 apply kq aN TY F6.ab ?_
 apply kq aN TY F6.tw ?_
 have ldb:(B.drop b).length=B.length-b:=kj ..
 refine ⟨.bG,D,x,tw,B.drop b,m,q,2*Y,n,2*nb+1,rfl,ag,gn QZ,eE I.P.all,Ze,Pb,by try?,by try?,by try?,λi hi=>by rw [rz];exact hm _ 0#q,.inl rfl,λz=>absurd z 0#q,λ_ ps S H7 s7 f7 _ al aT=>?_⟩
 have sS:GF (B++[(x,m,some q)]) (2*Y) B.length b S:=Pf (g:=none) (λ_ e=>by cases e) (λ_ i j _ _ z=>by try?) (d8 _) al (by
  rcases aT with z | ⟨pk,e,_⟩
  ·exact .inl z
  ·cases e)
 rw?
 have VH:=s7 _ _ TY
 apply yO aN VH 0#q ?_
 apply yO aN au (by rw [nW F6.g];try?) ?_
 apply kq aN au F6.Bo.Bp.ab ?_
 rw [pC]
 have k8:Kp (λb=>b=p\/b=D) H (upd H7 p (.ins aq J 0#x)):=(k6.sm s7).upd (.inl rfl)
 have as:upd H7 p (.ins aq J 0#x) p=some (.ins aq J 0#x):=au
 have Zi:Kp (λb=>b=p) H7 (upd H7 p (.ins aq J 0#x)):=(Kp.of (ah.refl _)).upd rfl
 have Yv:=Zi _ _ UG (s7 _ _ ag)
 have a9:∀{b:af} {xs:0#m},H6 b=some (.tup xs)->upd H7 p (.ins aq J 0#x) b=some (.tup xs):=λe=>Zi _ _ (λz=>by rw [z,TY] at e;cases e) (s7 _ _ e)
 have f8:bI (upd H7 p (.ins aq J 0#x)) ps S (3*n+(2*nb+1)+3):=f7.tv λ{b xs} e=>Zi _ _ (λz=>by rw [z,VH] at e;cases e) e
 generalize upd H7 p (.ins aq J 0#x)=H8 at *
 have F8:=F6.Bo (y:=.ref ps) |>.Bp (y:=.bG)
 apply ⟨.inl ⟨rfl,_,bw.of Yv⟩,?_⟩
 refine eG Yv (by rw [aP];exact aY 0#q) ?_
 have k9:Kp (λb=>b=p\/b=D) H (upd H8 D (.lst (vals (B.drop b)++[.ref x]))):=k8.upd (.inr rfl)
 have YB:upd H8 D (.lst (vals (B.drop b)++[.ref x])) p=some (.ins aq J 0#x):=by rw [aJ (jS UG)];exact as
 have Yw:upd H8 D (.lst (vals (B.drop b)++[.ref x])) D=some (.lst (vals ((B++[(x,m,some q)]).drop b))):=by
  rw [au,Oo 0#q,<- fK]
 have am:∀{b':af} {xs:0#m},H8 b'=some (.tup xs)->upd H8 D (.lst (vals (B.drop b)++[.ref x])) b'=some (.tup xs):=λe=>by rw [aJ (λz=>by rw [z,Yv] at e;cases e)];exact e
 generalize upd H8 D (.lst (vals (B.drop b)++[.ref x]))=H9 at *
 rw?
 refine aC (mk:=.lst) 0#t λM tT pH xh D3=>?_
 have nM:H M=none:=by
  cases g:H M with
  | none=>rfl
  | some o=>
    by_cases z:M=p
    ·rw [z,YB] at xh;cases xh
    ·by_cases z2:M=D
     ·rw [z2,Yw] at xh;cases xh
     ·rw [k9 _ _ (λu=>by rcases u with u | u;exact z u;exact z2 u) g] at xh;cases xh
 have a7:M≠p:=λz=>by rw [z,I.at_] at nM;cases nM
 have a6:D≠M:=λz=>by rw [<- z,Yw] at xh;cases xh
 rw?
 have l8:=F8.len
 refine yO aN (pH _ _ YB) 0#q ?_
 have an:=F8.Ri (y:=M)
 have a5:Kp (λb=>b=p\/b=D) H (upd tT p (.ins aq J (av "below" (.ref M) 0#x))):=(k9.sm pH).upd (.inl rfl)
 have YA:upd tT p (.ins aq J (av "below" (.ref M) 0#x)) p=some (.ins aq J (av "below" (.ref M) 0#x)):=au
 have Aj:Kp (λb=>b=p) tT (upd tT p (.ins aq J (av "below" (.ref M) 0#x))):=(Kp.of (ah.refl _)).upd rfl
 have Yu:=Aj _ _ UG (pH _ _ Yw)
 have Yx:=Aj _ _ a7 D3
 have RL:∀{b:af} {xs:0#m},H9 b=some (.tup xs)->upd tT p (.ins aq J (av "below" (.ref M) 0#x)) b=some (.tup xs):=λe=>Aj _ _ (λz=>by rw [z,YB] at e;cases e) (pH _ _ e)
 generalize upd tT p (.ins aq J (av "below" (.ref M) 0#x))=Gs at *
 have Z:∀{b:af} {xs:0#m},H6 b=some (.tup xs)->Gs b=some (.tup xs):=λe=>RL (am (a9 e))
 have aaH:=Z YE
 have aaI:=Z YF
 obtain ⟨vx,ax,_⟩:=id Ze
 have aaJ:=Z ax
 rw?
 apply aC (mk:=.tup) 0#t λth H12 a8 n12 Ys=>?_
 refine aC (mk:=.tup) 0#t λr ap EX n13 TU=>?_
 have Ko:=a8.trans EX
 refine k r ln th M D fo a b (some S) ap (λb' o e=>?_) ⟨gG,ac,lo,hi,b1,by grind,by try?,c2,by grind,λi hi hl z=>fb i hi hl (by grind),by try?⟩ TU ((YL.tv Z).Mj Ko) (EX _ _ Ys) ⟨J,bd,tw,_,.ref ps,.bG,Tg.up ⟨YA,an,?_,Yu,jS a6,?_,YI.tv Z,Pb.tv Z,⟨ps,rfl,(f8.tv λe=>RL (am e))⟩,rfl,?_⟩ Ko⟩ nM nD
 ·obtain ⟨n1,n2,n3,e⟩:=AU e
  refine Ko _ _ (a5 _ _ (λz=>?_) e)
  rcases z with z | z
  ·exact n1 z
  ·rw [z,nD] at e;cases e
 ·rw [Oo (d8 _),Xe]
  exact Yx
 ·exact (QZ.tv Z).snoc (Ze.en.tv Z)
 ·refine ⟨nE I.P.all,yP Dj hm,by rw [fS];try?,by rw [fS];try?,λ_=>by rw [fS];try?,sS,λi j hi hij _ hj=>?_,λ_ _ _ e=>(by cases e),λz=>absurd z 0#q⟩
  rw [fS] at hj
  try?
def xQ.abj (h:xQ ss fl ro β g s) (h0:ss.length=0):g=none/\s=none:=-by
 have go:=h.go
 have n:=h.so
 constructor
 ·cases g with
  | none=>rfl
  | some G=>
    obtain ⟨q,p,_,_,_,z,_⟩:=go.2
    simp?
 ·cases s with
  | none=>rfl
  | some S=>
    obtain ⟨q,p,_,_,_,z,_⟩:=n.2
    simp?
def Jh (ea:H La=some (.lst (vals (ss.drop ro)))) (row:Row H ss n) (hx:gH H x m q n) (Pa:bI H tw (2*β) (2*nb+1)) (h9:ss.length<=900) (hn:n<=1500) (hnb:2*nb+1<=3000) (hm:∀i,i<ss.length->mo ss i<m) (hG:OQ H gv (3*n+(2*nb+1)+3) g) (P:xQ ss fl ro β g s)
 (k:∀Ph g1 H1,ah H H1->OQ H1 Ph (3*n+(2*nb+1)+3) g1->(∀G,g1=some G->GF (ss++[(x,m,some q)]) (2*β) fl ro G)->(g1=none↔ss.length=0)->Q Ph H1):uT [gv,.ref La,.ref x,.ref tw] H Q E:=-by
 have ld:(ss.drop ro).length=ss.length-ro:=kj ..
 have lt:=P.lt
 refine ⟨gv,La,x,tw,ss.drop ro,m,q,2*β,n,2*nb+1,rfl,ea,gn row,eE P.all,hx,Pa,by try?,hn,hnb,λi hi=>by rw [rz];exact hm _ 0#q,?_,λz e H1 I=>k .bG none H1 I rfl (λ_ e=>(by cases e)) ⟨λ_=>Wz λR=>absurd (lt R).2 0#q,λ_=>rfl⟩,λz O L H1 I M N u D=>k _ (some L) H1 I ⟨O,rfl,M⟩ (λG e=>?_) ⟨λe=>(by cases e),λe=>absurd z 0#q⟩⟩
 ·cases g with
  | none=>exact .inl hG
  | some G=>
    obtain ⟨A,e,p⟩:=hG
    obtain ⟨⟨_,_,_,_,_,_,z,_⟩,_⟩:=P.VL rfl
    exact .inr ⟨by have:=(lt 0#q).2;try?,A,G,e,p⟩
 ·cases e
  refine Pf (g:=g) (λJ e=>?_) (λe=>?_) P.hfl u ?_
  ·rw [e] at hG
   obtain ⟨A,v,p⟩:=hG
   exact ⟨(P.VL e).1,N A J v p⟩
  ·have go:=P.go
   rw [e] at go
   exact go
  ·rcases D with z | ⟨A,e,p⟩
   ·exact .inl z
   ·refine .inr ?_
    cases g with
    | none=>rw [show gv=.bG from hG] at e;cases e
    | some J=>
      obtain ⟨pk',v,B⟩:=hG
      rw [e] at v
      cases v
      rw [Dh p B]
def Od (ea:H Lb=some (.lst (vals (ss.drop fl)))) (row:Row H ss n) (hx:gH H x m q n) (Pa:bI H tw (2*β) (2*nb+1)) (h9:ss.length<=900) (hn:n<=1500) (hnb:2*nb+1<=3000) (hm:∀i,i<ss.length->mo ss i<m) (hG:OQ H sv (3*n+(2*nb+1)+3) s) (P:xQ ss fl ro β g s)
 (k:∀Wa g1 H1,ah H H1->OQ H1 Wa (3*n+(2*nb+1)+3) g1->(∀G,g1=some G->SF (ss++[(x,m,some q)]) (2*β) fl ro G)->(g1=none↔ss.length=0)->Q Wa H1):yX [sv,.ref Lb,.ref x,.ref tw] H Q E:=-by
 have ld:(ss.drop fl).length=ss.length-fl:=kj ..
 have lt:=P.lt
 refine ⟨sv,Lb,x,tw,ss.drop fl,m,q,2*β,n,2*nb+1,rfl,ea,gn row,eE P.all,hx,Pa,by try?,hn,hnb,λi hi=>by rw [rz];exact hm _ 0#q,?_,λz e H1 I=>k .bG none H1 I rfl (λ_ e=>(by cases e)) ⟨λ_=>Wz λR=>absurd (lt R).1 0#q,λ_=>rfl⟩,λz O L H1 I M N u D=>k _ (some L) H1 I ⟨O,rfl,M⟩ (λG e=>?_) ⟨λe=>(by cases e),λe=>absurd z 0#q⟩⟩
 ·cases s with
  | none=>exact .inl hG
  | some G=>
    obtain ⟨A,e,p⟩:=hG
    obtain ⟨⟨_,_,_,_,_,_,z,_⟩,_⟩:=P.Zr rfl
    exact .inr ⟨by have:=(lt 0#q).1;try?,A,G,e,p⟩
 ·cases e
  refine Rj (s:=s) (λJ e=>?_) (λe=>?_) P.yH u ?_
  ·rw [e] at hG
   obtain ⟨A,v,p⟩:=hG
   exact ⟨(P.Zr e).1,N A J v p⟩
  ·have go:=P.so
   rw [e] at go
   exact go
  ·rcases D with z | ⟨A,e,p⟩
   ·exact .inl z
   ·refine .inr ?_
    cases s with
    | none=>rw [show sv=.bG from hG] at e;cases e
    | some J=>
      obtain ⟨pk',v,B⟩:=hG
      rw [e] at v
      cases v
      rw [Dh p B]
def o8:dB 2 [bN,aV,gD,gE] qw:=0#p
def Es (F:pM K "take" "Bend.take" qw f fd) (aN:jj K mg aq) (ck:X6 P w K mg base) (cu:X7 P w K mg base) (kB:0#c 2 "is_steeper" [aG,az] wL)
 (gV:Dm P w K mg base 6 aq "ended_in_cap" [bN,aV] (Rk aq)) (gW:Dm P w K mg base 6 aq "ended_in_cup" [bN,aV] (Rl aq)):0#b 7 f fd [bN,aV] (FW aq):=-by
 refine F.dm o8 0#a
 obtain ⟨p,O,U,x,B,L,N,m,q,β,n,nb,g,s',rfl,⟨M,bd,tw,fs,gv,sv,u⟩,hx,hm,jZ,h1,hn,ak,fX,kN,kC,kU⟩:=h
 have fl0:=u.F.len
 have aj:=u.P.hfl
 have yH:=u.P.yH
 have lda:(B.drop N).length=B.length-N:=kj ..
 have ldb:(B.drop L).length=B.length-L:=kj ..
 have R:O≠p:=λz=>by have:=u.eb;rw [z,u.at_] at this;cases this
 have ac:U≠p:=λz=>by have:=u.ea;rw [z,u.at_] at this;cases this
  -- the sample is taken
 have stay:∀(Z J:V) (g' s2:Option Rat) (D:Hp),ah H D->OQ D Z (3*n+(2*nb+1)+3) g'->OQ D J (3*n+(2*nb+1)+3) s2->xQ (B++[(x,m,some q)]) L N β g' s2->zF B β L N g s' m q ->
  Q .bG (upd (upd (upd (upd D p (.ins aq M (av "gentlest" Z fs))) p (.ins aq M (av "steepest" J (av "gentlest" Z fs)))) O (.lst (vals (B.drop L)++[.ref x]))) U (.lst (vals (B.drop N)++[.ref x]))):=by
  intro Z J g' s2 D I og os hP hN
  rw [pC]
  have v:=u.up I
  have kk:Kp (λb=>b=p\/b=O\/b=U) D (upd (upd (upd D p (.ins aq M (av "steepest" J (av "gentlest" Z fs)))) O (.lst (vals (B.drop L)++[.ref x]))) U (.lst (vals (B.drop N)++[.ref x]))):=((((Kp.of (ah.refl _)).upd (.inl rfl)).upd (.inr (.inl rfl))).upd (.inr (.inr rfl)))
  have tp:∀{b:af} {xs:0#m},D b=some (.tup xs)->upd (upd (upd D p (.ins aq M (av "steepest" J (av "gentlest" Z fs)))) O (.lst (vals (B.drop L)++[.ref x]))) U (.lst (vals (B.drop N)++[.ref x])) b=some (.tup xs):=λe=>kk _ _ (λz=>by
   rcases z with z | z | z
   ·rw [z,v.at_] at e;cases e
   ·rw [z,v.eb] at e;cases e
   ·rw [z,v.ea] at e;cases e) e
  refine kN g' s2 _ (λb o e=>?_) hN ⟨M,bd,tw,_,Z,J,?_,u.F.Bo.Bp,?_,?_,u.ne,?_,v.S9.tv tp,v.Pa.tv tp,og.tv tp,os.tv tp,hP⟩
  ·obtain ⟨n1,n2,n3,e⟩:=AU e
   exact kk _ _ (λz=>by rcases z with z | z | z;exact n1 z;exact n2 z;exact n3 z) (I _ _ e)
  ·rw [aJ (jS ac),aJ (jS R),au]
  ·rw [aJ u.ne,au,Oo aj,<- fK]
  ·rw [au,Oo yH,<- fK]
  ·exact (v.row.tv tp).snoc ((hx.up I).en.tv tp)
 apply bx ⟨_,(ao (aM 2 o8.nd (iX ck (hr.mono 0#s) rfl (Jd.a4 (dD K 0#w) (dD K 0#w) 0#C (dD K 0#w)) (he:=(by rfl)) (hpl:=(cV (by rfl) (cV bH (cV (by rfl) cD)))))) (ao (aM 3 o8.nd (iX cu (hr.mono 0#s) rfl (Jd.a4 (dD K 0#w) (dD K 0#w) 0#C (dD K 0#w)) (he:=(by rfl)) (hpl:=(cV (by rfl) (cV bH (cV (by rfl) cD)))))) (ao (bU (iW (bA kB hr (dD K 0#w) (aa 3))) (aF (aS (Jd.uJ gV aN.cl (hr.mono 0#s) 0#w (c9 0#C) (he:=bH) (hpl:=cD)))) bY) (ao (bU (iW (bA kB hr (aa 2) (dD K 0#w))) (aF (aS (Jd.uJ gW aN.cl (hr.mono 0#s) 0#w (c9 0#C) (he:=bH) (hpl:=cD)))) bY) (ao (gT K 0#w (aa 2)) (ao (gT K 0#w (aa 3)) (ao (gc (fB K (dD K 0#w) 0#C) (hs:=fH)) (ao (gc (fB K (dD K 0#w) 0#C) (hs:=fH)) (aF (aS gK)))))))))),?_⟩
 apply kq aN u.at_ u.F.g ?_
 apply kq aN u.at_ u.F.ab ?_
 apply kq aN u.at_ u.F.tw ?_
 refine Jh u.ea u.row hx u.Pa jZ hn 0#q hm u.G u.P λY g1 H1 s1 o1 gf z1=>?_
 have zW:=u.up s1
 rw?
 apply kq aN zW.at_ u.F.s ?_
 apply kq aN zW.at_ u.F.bl ?_
 apply kq aN zW.at_ u.F.tw ?_
 refine Od zW.eb zW.row (hx.up s1) zW.Pa jZ hn 0#q hm zW.S u.P λWa s3 D s2 o2 sf z2=>?_
 have I:=s1.trans s2
 have v:=u.up I
 have ad:OQ D Y _ g1:=o1.tv λe=>s2 _ _ e
 have fW:=yP (x:=x) (q:=q) u.P.Dj hm
 rw?
 apply kq aN v.at_ u.F.g ?_
 apply ⟨gv,Wa,g,s3,_,_,rfl,v.G,o2,by try?,λr al=>?_⟩
 refine c7 (λc=>?_) (λc=>?_)
 ·obtain ⟨G,S,rfl,e2,lt⟩:=al.mp c
  rw?
  apply OE v.at_ (u.F.vG "ended_in_cap") ?_
  refine ⟨p,O,U,x,B,L,N,m,q,β,G,n,nb,s',rfl,⟨M,bd,tw,fs,gv,sv,v⟩,hx.up I,hm,jZ,h1,hn,ak,fX,(DY fW (sf S e2) (u.P.VL rfl).2 yH).mp lt,λr ln th wU wR fo a b ae H' k1 k2 k3 k4 k5 k6 k7 k8=>?_⟩
  refine kC r ln th wU wR G fo a b ae H' (λb' o e=>k1 _ _ ?_) rfl k2 k3 k4 k5 k6 (I.free k7) (I.free k8)
  obtain ⟨n1,n2,n3,e⟩:=AU e
  rw [sU n1 n2 n3]
  exact I _ _ e
 have nc:¬ ∃G S,g=some G/\s3=some S/\S<G:=λz=>c (al.mpr z)
 rw?
 apply kq aN v.at_ u.F.s ?_
 apply ⟨Y,sv,g1,s',_,_,rfl,ad,v.S,by try?,λr2 am=>?_⟩
 refine c7 (λc2=>?_) (λc2=>?_)
 ·obtain ⟨G,S,e1,rfl,lt⟩:=am.mp c2
  have an:¬ ∃G,g=some G/\∃i,L<=i/\i<B.length/\q-G*(m:Rat)+2*β<cB B G i:=λ⟨G,e,i,z⟩=>by
   cases h3:s3 with
   | none=>
     have:=z2.mp h3
     try?
   | some S1=>exact nc ⟨G,S1,e,h3,(DY fW (sf S1 h3) (u.P.VL e).2 yH).mpr ⟨i,z⟩⟩
  rw?
  apply OE v.at_ (u.F.vG "ended_in_cup") ?_
  refine ⟨p,O,U,x,B,L,N,m,q,β,S,n,nb,g,rfl,⟨M,bd,tw,fs,gv,sv,v⟩,hx.up I,hm,jZ,h1,hn,ak,fX,(Lq fW (gf G e1) (u.P.Zr rfl).2 aj).mp lt,λr ln th wU wR fo a b ae H' k1 k2 k3 k4 k5 k6 k7 k8=>?_⟩
  refine kU r ln th wU wR S fo a b ae H' (λb' o e=>k1 _ _ ?_) rfl an k2 k3 k4 k5 k6 (I.free k7) (I.free k8)
  obtain ⟨n1,n2,n3,e⟩:=AU e
  rw [sU n1 n2 n3]
  exact I _ _ e
 rw?
 apply yO aN v.at_ 0#q ?_
 apply yO aN au (by rw [nW u.F.g];try?) ?_
 apply kq aN au u.F.Bo.Bp.bl ?_
 have ai:upd (upd D p (.ins aq M (av "gentlest" Y fs))) p (.ins aq M (av "steepest" Wa (av "gentlest" Y fs))) O=some (.lst (vals (B.drop L))):=by
  rw [aJ R,aJ R]
  exact v.eb
 apply ⟨.inl ⟨rfl,_,bw.of ai⟩,?_⟩
 apply eG ai (by rw [aP];exact aY 0#q) ?_
 apply kq aN (by rw [aJ (jS R)];exact au) u.F.Bo.Bp.ab ?_
 have ag:upd (upd (upd D p (.ins aq M (av "gentlest" Y fs))) p (.ins aq M (av "steepest" Wa (av "gentlest" Y fs)))) O (.lst (vals (B.drop L)++[.ref x])) U=some (.lst (vals (B.drop N))):=by
  rw [aJ (jS u.ne),aJ ac,aJ ac]
  exact v.ea
 apply ⟨.inl ⟨rfl,_,bw.of ag⟩,?_⟩
 apply eG ag (by rw [aP];exact aY 0#q) ?_
 cases g1 with
 | none=>
   have h0:=z1.mp rfl
   obtain ⟨rfl,rfl⟩:=u.P.abj h0
   obtain rfl:=z2.mpr h0
   refine stay Y Wa none none D I ad o2 ?_ ⟨λ_ e=>(by cases e),λ_ e=>(by cases e)⟩
   refine ⟨nE u.P.all,fW,by rw [fS];try?,by rw [fS];try?,λ_=>by rw [fS];try?,λi j _ ap _ hj=>?_,λi j _ ap _ hj=>?_,λ_ _ e=>(by cases e),u.P.df⟩
   ·rw [fS] at hj
    try?
   ·rw [fS] at hj
    try?
 | some G1=>
   cases s3 with
   | none=>cases z1.mpr (z2.mp rfl)
   | some S1=>
     obtain ⟨hP,hN⟩:=u.P.next fX hm (gf G1 rfl) (sf S1 rfl) nc λz=>c2 (am.mpr z)
     exact stay Y Wa (some G1) (some S1) D I ad o2 hP hN
def wA:dB 1 [bN] j3:=0#p
def vK (F:pM K "line_now" "Bend.line_now" j3 f fd) (T:Txt mg) (aN:jj K mg aq) (jk:0#c 5 "line_by" [dz,aV] uV) (bZ:Dm P w K mg base 5 aq "line_of" [bN,dz] (qJ aq)):0#b 6 f fd [bN] (Rn aq):=-by
 refine F.dm wA 0#a
 obtain ⟨p,Lb,La,v,B,ro,β,n,nb,g,s',rfl,⟨dx,bd,tw,fs,gv,sv,u⟩,jZ,h1,hn,L,k0,U⟩:=h
 have ld:(v.drop B).length=v.length-B:=kj ..
 apply bx ⟨_,(ao (bU (bC cX (ju K T.jv (dD K 0#w)) aA (aD _)) (aF (aS gK)) bY) (ao (bU (bC kG (dD K 0#w) gK (aD _)) (aF (aS (Jd.uJ bZ aN.cl (hr.mono 0#s) 0#w (c9 (dD K 0#w)) (he:=(by rfl)) (hpl:=cD)))) bY) (ao (bU (bC kG (dD K 0#w) gK (aD _)) (aF (aS (Jd.uJ bZ aN.cl (hr.mono 0#s) 0#w (c9 (dD K 0#w)) (he:=(by rfl)) (hpl:=cD)))) bY) (aF (aS (bA jk hr (bu (br aA aA)) (Jd.iL K (dD K 0#w)))))))),?_⟩
 apply kq aN u.at_ u.F.bl ?_
 refine dN (.inl (bw.of u.eb)) ?_
 rw [aP]
 rw?
 refine c7 (λc=>?_) (λc=>?_)
 ·have c':=dF c
  rw?
  refine k0 (RW.mp ?_)
  by_cases z:0<v.length
  ·have:=(u.P.lt z).1
   try?
  ·try?
 ·have c':=kh (ki.mpr c)
  have D:0<v.length:=by try?
  obtain ⟨R,yH⟩:=u.P.lt D
  rw?
  refine kq aN u.at_ u.F.g ?_
  cases g with
  | some G=>
    obtain ⟨pg,rfl,fg⟩:=id u.G
    rw?
    apply ⟨rfl,?_⟩
    apply bO ?_
    apply OE u.at_ (u.F.vG "line_of") ?_
    apply kq aN u.at_ u.F.g ?_
    refine ⟨p,Lb,La,pg,v,B,ro,β,G,n,nb,some G,s',rfl,⟨dx,bd,tw,fs,_,sv,u⟩,fg,D,jZ,hn,L,λY O J I N Z M=>?_⟩
    exact U D Y G O J I N (.inl ⟨.inl rfl,Z,M⟩)
  | none=>
    obtain rfl:gv=.bG:=u.G
    rw?
    apply ⟨rfl,?_⟩
    apply bF ?_
    refine kq aN u.at_ u.F.s ?_
    cases s' with
    | some S=>
      obtain ⟨pg,rfl,fg⟩:=id u.S
      rw?
      apply ⟨rfl,?_⟩
      apply bO ?_
      apply OE u.at_ (u.F.vG "line_of") ?_
      apply kq aN u.at_ u.F.s ?_
      refine ⟨p,Lb,La,pg,v,B,ro,β,S,n,nb,none,some S,rfl,⟨dx,bd,tw,fs,_,_,u⟩,fg,D,jZ,hn,L,λY O J I N Z M=>?_⟩
      exact U D Y S O J I N (.inl ⟨.inr ⟨rfl,rfl⟩,Z,M⟩)
    | none=>
      obtain rfl:sv=.bG:=u.S
      rw?
      apply ⟨rfl,?_⟩
      apply bF ?_
      refine aC (mk:=.tup) 0#t λz1 J I n1 e1=>?_
      have zW:=u.up I
      obtain ⟨xa,ga,fa⟩:=cC zW.row u.P.all R
      rw?
      apply kq aN zW.at_ u.F.bl ?_
      apply dM zW.eb (yF (x:=xa) (by rw [tN,XG];exact ga)) ?_
      have f0:bP J z1 0 1:=⟨0,1,e1,⟨by decide,by decide,by grind⟩,by decide,by decide⟩
      refine ⟨z1,xa.1,0,_,_,1,n,rfl,f0,fa,h1,by try?,λz r' H2 s2 e2 f2=>?_⟩
      refine U D z 0 (wo v B) H2 (I.trans s2) ⟨z1,r',e2,(f0.up s2).mono 0#q,?_⟩ (.inr ⟨rfl,rfl,rfl,rfl⟩)
      have e3:wo v B-0*(mo v B:Rat)=wo v B:=by grind
      rw [e3] at f2
      exact f2.mono 0#q
def ji.fresh (h:ji C H p Lb La [] 0 0 β n nb none none):ji C H p Lb La [] 0 0 β n' nb none none:=
 let ⟨dx,bd,tw,fs,gv,sv,h⟩:=h;⟨dx,bd,tw,fs,gv,sv,h.at_,h.F,h.eb,h.ea,h.ne,λx hx=>absurd hx 0#t,h.S9,h.Pa,h.G,h.S,h.P⟩
def abd (s:ah H0 H) (np:H0 p=none) (nb:H0 Lb=none) (na:H0 La=none) (k:ah (Km p Lb La H) H'):ah H0 H':=λb o e=>k _ _ (by
 rw [sU (bh e np) (bh e nb) (bh e na)]
 exact s _ _ e)
def xQ.two (h:xQ ss fl ro β g s):(ss.length<2↔g=none/\s=none):=-by
 constructor
 ·intro A
  have go:=h.go
  have n:=h.so
  constructor
  ·cases g with
   | none=>rfl
   | some G=>
     obtain ⟨q,p,_,_,_,z,_⟩:=go.2
     simp?
  ·cases s with
   | none=>rfl
   | some S=>
     obtain ⟨q,p,_,_,_,z,_⟩:=n.2
     simp?
 ·rintro ⟨rfl,rfl⟩
  refine Nat.lt_of_not_le λA=>?_
  obtain ⟨l1,l2⟩:=h.lt 0#r
  have u:=h.df
  have go:∀q p,ro<=q->q<p->fl<=p->¬p<ss.length:=h.go
  have n:∀q p,fl<=q->q<p->ro<=p->¬p<ss.length:=h.so
  have v:=go ro (ss.length-1) 0#r
  have B:=n fl (ss.length-1) 0#r
  by_cases e:ro<ss.length-1
  ·exact v e 0#r 0#r
  ·by_cases e2:fl<ss.length-1
   ·exact B e2 0#r 0#r
   ·have:=u 0#r
    simp?
def abV (hr:rising ss) (hab:a<b) (hbk:b<k) (hk:k<ss.length) (ea:cB ss T a+β=f) (eb:cB ss T b-β=f) (ek:cB ss T k+β<f):2*β<sd ss a b k:=-by
 have p:=iE hr hab 0#r
 have d2:=iE hr hbk hk
 have u:=iE hr (xH hab hbk) hk
 unfold cB at ea eb ek
 unfold sd cS
 refine oz.mp λz=>?_
 have n:wo ss b-2*β<=(wo ss a*((mo ss k:Rat)-(mo ss b:Rat))+wo ss k*((mo ss b:Rat)-(mo ss a:Rat)))/((mo ss k:Rat)-(mo ss a:Rat)):=by grind
 rw [oW u] at n
 have l:wo ss k<T*(mo ss k:Rat)+f-β:=by grind
 have:=Ld l p
 have e1:wo ss a=T*(mo ss a:Rat)+f-β:=by grind
 have e2:wo ss b=T*(mo ss b:Rat)+f+β:=by grind
 rw [e1,e2] at n
 grind
def abW (hr:rising ss) (hab:a<b) (hbk:b<k) (hk:k<ss.length) (ea:cB ss T a-β=f) (eb:cB ss T b+β=f) (ek:f<cB ss T k-β):sd ss a b k < -(2*β):=-by
 have p:=iE hr hab 0#r
 have d2:=iE hr hbk hk
 have u:=iE hr (xH hab hbk) hk
 unfold cB at ea eb ek
 unfold sd cS
 refine oz.mp λz=>?_
 have n:(wo ss a*((mo ss k:Rat)-(mo ss b:Rat))+wo ss k*((mo ss b:Rat)-(mo ss a:Rat)))/((mo ss k:Rat)-(mo ss a:Rat))<=wo ss b+2*β:=by grind
 rw [rF u] at n
 have l:T*(mo ss k:Rat)+f+β<wo ss k:=by grind
 have:=Ld l p
 have e1:wo ss a=T*(mo ss a:Rat)+f+β:=by grind
 have e2:wo ss b=T*(mo ss b:Rat)+f-β:=by grind
 rw [e1,e2] at n
 grind
inductive Tr (es:List En) (β:Rat):Nat->Nat->Nat->List (Rat×Rat)->List (Bool×Nat×Nat×Nat)->Prop where
 | nil:Tr es β 0 0 0 [] []
 | stay {k fl ro:Nat} {ls:List (Rat×Rat)} {ts:List (Bool×Nat×Nat×Nat)} {g s g' s':Option Rat} (h:Tr es β k fl ro ls ts) (hk:k<es.length) (hP:xQ (es.take k) fl ro β g s) (hP':xQ (es.take (k+1)) fl ro β g' s') (hN:zF (es.take k) β fl ro g s (mo es k) (wo es k)):Tr es β (k+1) fl ro ls ts
 | cap {k fl ro a b:Nat} {ls:List (Rat×Rat)} {ts:List (Bool×Nat×Nat×Nat)} {s:Option Rat} {G f:Rat} (h:Tr es β k fl ro ls ts) (hk:k<es.length) (hP:xQ (es.take k) fl ro β (some G) s) (hC:zf (es.take k) β fl ro (mo es k) (wo es k) G f a b):Tr es β (k+1) b k (ls++[(G,f)]) (ts++[(true,a,b,k)])
 | cup {k fl ro a b:Nat} {ls:List (Rat×Rat)} {ts:List (Bool×Nat×Nat×Nat)} {g:Option Rat} {S f:Rat} (h:Tr es β k fl ro ls ts) (hk:k<es.length) (hP:xQ (es.take k) fl ro β g (some S)) (hn:¬ ∃G,g=some G/\∃i,fl<=i/\i<(es.take k).length/\wo es k-G*(mo es k:Rat)+2*β<cB (es.take k) G i) (hC:zj (es.take k) β fl ro (mo es k) (wo es k) S f a b):Tr es β (k+1) k b (ls++[(S,f)]) (ts++[(false,a,b,k)])
abbrev Ln:=af×Rat×Rat
noncomputable def mq (ls:List Ln):0#m:=ls.map λx=>V.ref x.1
def se (H:Hp) (ls:List Ln) (n:Nat):Prop:=∀x∈ls,ic H x.1 x.2.1 x.2.2 n
abbrev Tt:=af×(Bool×Nat×Nat×Nat)
def OL (H:Hp) (es:0#f) (x:Tt):Prop:=H x.1=some (.tup [.int (mo es x.2.2.1),.int (mo es x.2.2.2.1),.int (mo es x.2.2.2.2)])
def se.tv (t:0#e) (h:se H ls n):se H' ls n:=λx hx=>(h x hx).tv t
def se.snoc (h:se H ls n) (hx:ic H x.1 x.2.1 x.2.2 n):se H (ls++[x]) n:=λy hy=>by
 rcases iw.mp hy with z | z
 ·exact h y z
 ·obtain rfl:y=x:=by simpa using z
  exact hx
def mG (e:H L=some (.lst ys))  (h:H b=some (.tup xs)):upd H L (.lst zs) b=some (.tup xs):=-by
 rw [aJ (λq=>by rw [q,e] at h;cases h)]
 exact h
def ji.app (h:ji C H p Lb La ss fl ro β n nb g s) (e:H L=some (.lst ys)) (n1:L≠Lb) (n2:L≠La):ji C (upd H L (.lst zs)) p Lb La ss fl ro β n nb g s:=-by
 obtain ⟨u,bd,tw,fs,v,A,h⟩:=h
 exact ⟨u,bd,tw,fs,v,A,h.mv (λ{b xs} z=>mG e z) (aJ (λq=>by have:=h.at_;rw [q,e] at this;cases this)) (aJ (jS n1)) (aJ (jS n2))⟩
def ji.ats (h:ji C H p Lb La ss fl ro β n nb g s):(∃dx fs,H p=some (.ins C dx fs)/\(fs.lookup ("take":Str)=none/\fs.lookup ("line_now":Str)=none))/\(∃ys,H Lb=some (.lst ys))/\(∃ys,H La=some (.lst ys))/\xQ ss fl ro β g s:=
 let ⟨_,_,_,_,_,_,h⟩:=h;⟨⟨_,_,h.at_,h.F.vG "take",h.F.vG "line_now"⟩,⟨_,h.eb⟩,⟨_,h.ea⟩,h.P⟩
def take_snoc (hS:jN es) (gx:es[j]?=some x):es.take (j+1)=es.take j++[(x.1,mo es j,some (wo es j))]:=-by
 have p:x=(x.1,mo es j,some (wo es j)):=by
  have:=hS x (nk gx)
  obtain ⟨ax,mx,n⟩:=x
  unfold mo wo
  rw [gx]
  cases n with
  | none=>cases this
  | some q=>rfl
 rw [<- p,Iv,gx]
 rfl
def oO (h:i<j):mo (es.take j) i=mo es i:=by unfold mo;rw [MB,if_pos h]
def yZ (h:i<j):wo (es.take j) i=wo es i:=by unfold wo;rw [MB,if_pos h]
def fE (h:i<j):cB (es.take j) T i=cB es T i:=by unfold cB;rw [oO h,yZ h]
inductive FH (C:af) (vs:List V) (H:Hp) (Q:VK) (E_:XK):Prop where
 | mk (l pb:af) (es:0#f) (β:Rat) (n nb:Nat):vs=[.ref l,.ref pb]->H l=some 0#D->Row H es n->jN es->rising es->0<es.length->es.length<=800->bP H pb β nb->0<=β->1<=n->n<=1500->(5*n+4*nb<=7900/\nb<=1000)->(∀(y Ll Lt:af) (ls:List Ln) (wN:List Tt) (ks:List (Rat×Rat)) (fl ro:Nat) (g s:Option Rat) (T f:Rat) (H':Hp),ah H H'->H' y=some (.tup [.ref Ll,.ref Lt])->H Ll=none->H Lt=none->H' Ll=some (.lst (mq ls))->se H' ls (5*n+3*nb+7)->ls.map (·.2)=ks++[(T,f)]->H' Lt=some (.lst (wN.map λx=>V.ref x.1))->(∀x∈wN,OL H' es x)->Tr es β es.length fl ro ks (wN.map (·.2))->xQ es fl ro β g s->Gv es β fl g s T f->ks.length<=es.length->wN.length<=es.length->Q (.ref y) H')->FH C vs H Q E_
def Yh (ss:0#f) (β:Rat) (fl ro:Nat) (g s:Option Rat) (m:Int) (q G f:Rat) (a b:Nat) (c:Bool) (VI V6:Nat):Prop:=(c=true/\g=some G/\zf ss β fl ro m q G f a b/\VI=b/\V6=ss.length)\/(c=false/\s=some G/\(¬ ∃G,g=some G/\∃i,fl<=i/\i<ss.length/\q-G*(m:Rat)+2*β<cB ss G i)/\zj ss β fl ro m q G f a b/\VI=ss.length/\V6=b)
def Vn (hB:ji C H p Lb La ss fl ro β n nb g s) (fx:gH H x m q n) (hm:∀i,i<ss.length->mo ss i<m) (h9:ss.length<=900) (h1:1<=n) (hn:n<=1500) (hnb:5*n+4*nb<=7900/\nb<=1000) (fX:0<=β)
 (k0:∀(g' s':Option Rat) (H':Hp),ah (Km p Lb La H) H'->zF ss β fl ro g s m q->ji C H' p Lb La (ss++[(x,m,some q)]) fl ro β n nb g' s'->Q .bG H')
 (k1:∀(r ln th wU wR:af) (G f:Rat) (a b:Nat) (c:Bool) (VI V6:Nat) (g' s':Option Rat) (H':Hp),ah (Km p Lb La H) H'->Yh ss β fl ro g s m q G f a b c VI V6->H' r=some (.tup [.ref ln,.ref th])->ic H' ln G f (5*n+3*nb+7)->H' th=some (.tup [.int (mo ss a),.int (mo ss b),.int m])->ji C H' p wU wR (ss++[(x,m,some q)]) VI V6 β n nb g' s'->H wU=none->H wR=none->Q (.ref r) H'):FW C [.ref p,.ref x] H Q E0:=
 ⟨p,Lb,La,x,ss,fl,ro,m,q,β,n,nb,g,s,rfl,hB,fx,hm,h9,h1,hn,hnb,fX,k0,λr ln th wU wR G f a b s' H' ks e hC=>k1 r ln th wU wR G f a b true b ss.length none s' H' ks (.inl ⟨rfl,e,hC,rfl,rfl⟩),λr ln th wU wR S f a b g' H' ks e hn hC=>k1 r ln th wU wR S f a b false ss.length b g' none H' ks (.inr ⟨rfl,e,hn,hC,rfl,rfl⟩)⟩
def iN:dB 2 ["run",aL,"bend","links","threes",aV,"ended"] tu:=0#p
def Hy (F:dS K "links_of" tu f fd) (T:Txt mg) (aN:jj K mg aq) (IL:Dk P w K mg base 6 "Bend" aq [bN,aL] (yT aq)) (pS:Dm P w K mg base 7 aq "take" [bN,aV] (FW aq)) (jU:Dm P w K mg base 6 aq "line_now" [bN] (Rn aq)):0#b 8 f fd ["run",aL] (FH aq):=-by
 refine F.dm iN 0#a
 obtain ⟨l,pb,es,β,n,nb,rfl,hl,hR,hS,fW,h0,aeu,hb,fX,h1,hn,aw,k⟩:=h
 apply bx ⟨_,(ao (aM 2 iN.nd (Jd.QB IL (hr.mono 0#s) rfl (c9 0#C) (he:=bH) (hpl:=cD))) (ao (aM 3 iN.nd (dU fZ)) (ao (aM 4 iN.nd (dU fZ)) (ao (gQ jd rfl (j0 K 0#w) (c8 (i:=5) iN.nd rfl (Or.inl rfl)) (ao (aM 6 iN.nd (Jd.uJ pS aN.cl (hr.mono 0#s) (aa 2) (c9 (aa 5)) (he:=bH) (hpl:=cD))) (aF (bU (bC kG (aa 6) gK (aD _)) (ao (gc (fB K (aa 3) (aB K (aa 6))) (hs:=fH)) (aF (gc (fB K (aa 4) (aB K (aa 6))) (hs:=fH)))) bY)))) (ao (gc (fB K (aa 3) (Jd.JY jU aN.cl (hr.mono 0#s) (aa 2))) (hs:=fH)) (aF (aS (bu (br (aa 3) (aa 4)))))))))),?_⟩
 intro p dx np bv aeD
 have bj:upd (upd H dx (.own p)) p (.ins aq dx []) p=some (.ins aq dx []):=au
 have s7:ah H (upd (upd H dx (.own p)) p (.ins aq dx [])):=λb' o e=>by
  rw [aJ (bh e np),aJ (bh e bv)]
  exact e
 generalize upd (upd H dx (.own p)) p (.ins aq dx [])=H7 at *
 refine ⟨p,dx,pb,β,nb,rfl,bj,hb.up s7,by try?,λN L H8 kk s8 bt bp bc=>⟨rfl,?_⟩⟩
 have al:ah H H8:=λb' o e=>s8 _ _ (by rw [lH (bh e np)];exact s7 _ _ e)
 have bq:H N=none:=s7.free bt
 have bo:H L=none:=s7.free bp
 have as:ji aq H8 p N L [] 0 0 β n nb none none:=bc.fresh
 rw?
 apply aC (mk:=.lst) 0#t λI H9 s9 n9 e9=>?_
 refine aC (mk:=.lst) 0#t λR tT pH xh D3=>?_
 have CJ:=s9.trans pH
 have HJ:=al.trans CJ
 have aj:H I=none:=al.free n9
 have aH:H R=none:=(al.trans s9).free xh
 have ak:I≠R:=λz=>by rw [<- z,e9] at xh;cases xh
 obtain ⟨_,⟨_,ap⟩,⟨_,an⟩,_⟩:=as.ats
 rw?
 apply iZ (kJ ?_)
 refine ⟨l,rfl,⟨_,bw.of (HJ _ _ hl)⟩,fu (xs:=vals es) (λi σ U=>aaB λ(v5 v6:Option V) (N L:af) (fl ro:Nat) (g s:Option Rat) (u:List Ln) (O:List Tt)=>σ=[some (.ref l),some (.ref pb),some (.ref p),some (.ref I),some (.ref R),v5,v6]/\ah H U/\H N=none/\H L=none/\I≠N/\I≠L/\R≠N/\R≠L/\ji aq U p N L (es.take i) fl ro β n nb g s/\U I=some (.lst (mq u))/\U R=some (.lst (O.map λx=>V.ref x.1))/\se U u (5*n+3*nb+7)/\(∀x∈O,OL U es x)/\Tr es β i fl ro (u.map (·.2)) (O.map (·.2))/\u.length<=i/\O.length<=i) ?_ ?_ ?_ ?_⟩
 ·refine ⟨none,none,N,L,0,0,none,none,[],[],rfl,HJ,bq,bo,λz=>?_,λz=>?_,λz=>?_,λz=>?_,as.up CJ,pH _ _ e9,D3,λx hx=>absurd hx 0#t,λx hx=>absurd hx 0#t,.nil,d8 _,d8 _⟩
  ·rw [z,ap] at n9;cases n9
  ·rw [z,an] at n9;cases n9
  ·rw [z,s9 _ _ ap] at xh;cases xh
  ·rw [z,s9 _ _ an] at xh;cases xh
 ·rintro i σ U _ ⟨v5,v6,N,L,fl,ro,g,s,u,O,rfl,s3,_⟩
  exact bw.of (s3 _ _ hl)
 ·rintro i v σ U hv ⟨v5,v6,N,L,fl,ro,g,s,u,O,rfl,s3,ai,ag,q1,q2,q3,q4,C7,VG,YD,ad,ae,Pn,ll,lt⟩
  obtain ⟨x,gx,rfl⟩:=ja hv
  have hi:i<es.length:=(kM.mp gx).1
  obtain ⟨x',T7,fx⟩:=cC (hR.up s3) hS hi
  rw [gx] at T7
  cases T7
  have tl:(es.take i).length=i:=by rw [yw];try?
  have tk:=take_snoc hS gx
  obtain ⟨⟨a6,bb,S,bn,_⟩,⟨_,a9⟩,⟨_,a8⟩,Y⟩:=C7.ats
  have bD:I≠p:=λz=>by rw [z,S] at VG;cases VG
  have bG:R≠p:=λz=>by rw [z,S] at YD;cases YD
  have hm:∀c,c<(es.take i).length->mo (es.take i) c<mo es i:=λc hc=>by
   rw [tl] at hc
   rw [oO hc]
   exact gh fW hc hi
  apply ig λM B RR hM hB hR'=>?_
  apply OE S bn ?_
  have aU:∀{D:Hp},ah (Km p N L U) D->(∀{b:af} {xs:0#m},U b=some (.tup xs)->D b=some (.tup xs))/\ah H D/\D I=some (.lst (mq u))/\D R=some (.lst (O.map λx=>V.ref x.1)):=λ{D} ks=>by
   refine ⟨λ{b xs} e=>ks _ _ ?_,abd s3 np ai ag ks,ks _ _ ?_,ks _ _ ?_⟩
   ·rw [sU (λz=>by rw [z,S] at e;cases e) (λz=>by rw [z,a9] at e;cases e) (λz=>by rw [z,a8] at e;cases e)]
    exact e
   ·rw [sU bD q1 q2]
    exact VG
   ·rw [sU bG q3 q4]
    exact YD
  refine Vn C7 fx hm 0#q h1 hn aw fX (λg' s' D ks hN Gi=>?_) λr Z th wU wR G fo a b c VI V6 g' s' D ks hC er ba a' Gi n1 n2=>?_
  ·obtain ⟨tp,sH,LA,TX⟩:=aU ks
   rw?
   apply ⟨rfl,?_⟩
   apply bF ?_
   exact hM _ _ ⟨_,_,N,L,fl,ro,g',s',u,O,rfl,sH,ai,ag,q1,q2,q3,q4,by rw [tk];exact Gi,LA,TX,ad.tv tp,λx hx=>tp (ae x hx),.stay Pn hi Y (by rw [tk];exact Gi.ats.2.2.2) hN,by try?,by try?⟩
  ·obtain ⟨tp,sH,LA,TX⟩:=aU ks
   obtain ⟨hab,be,a5⟩:a<b/\b<i/\Tr es β (i+1) VI V6 (u.map (·.2)++[(G,fo)]) (O.map (·.2)++[(c,a,b,i)]):=by
    rcases hC with ⟨rfl,rfl,hC,rfl,rfl⟩ | ⟨rfl,rfl,bi,hC,rfl,rfl⟩
    all_goals have hl:=hC.lb;rw [tl] at hl ⊢;refine ⟨hC.hab,hl,?_⟩
    ·exact .cap Pn hi Y hC
    ·exact .cup Pn hi Y bi hC
   rw?
   apply ⟨rfl,?_⟩
   apply bO ?_
   apply ⟨.inl ⟨rfl,_,bw.of LA⟩,?_⟩
   refine eG LA (by unfold mq;rw [iR];exact aY 0#q) ?_
   have ax:I≠wU:=λz=>by rw [<- z,VG] at n1;cases n1
   have ay:I≠wR:=λz=>by rw [<- z,VG] at n2;cases n2
   have aR:R≠wU:=λz=>by rw [<- z,YD] at n1;cases n1
   have aT:R≠wR:=λz=>by rw [<- z,YD] at n2;cases n2
   have Nl:=Gi.app (zs:=mq u++[.ref Z]) LA ax ay
   have J:∀{b:af} {xs:0#m},D b=some (.tup xs)->upd D I (.lst (mq u++[.ref Z])) b=some (.tup xs):=λe=>mG LA e
   have a7:upd D I (.lst (mq u++[.ref Z])) I=some (.lst (mq (u++[(Z,G,fo)]))):=by rw [au];simp [mq]
   have ac:upd D I (.lst (mq u++[.ref Z])) R=some (.lst (O.map λx=>V.ref x.1)):=by rw [aJ (jS ak)];exact TX
   have bM:ah H (upd D I (.lst (mq u++[.ref Z]))):=bB sH aj
   have er5:=J er
   generalize upd D I (.lst (mq u++[.ref Z]))=H5 at *
   rw?
   apply ⟨.inl ⟨rfl,_,bw.of ac⟩,?_⟩
   refine eG ac (by rw [iR];exact aY 0#q) ?_
   have am:∀{b:af} {xs:0#m},H5 b=some (.tup xs)->upd H5 R (.lst ((O.map λx=>V.ref x.1)++[.ref th])) b=some (.tup xs):=λe=>mG ac e
   refine hM _ _ ⟨_,_,wU,wR,VI,V6,g',s',u++[(Z,G,fo)],O++[(th,(c,a,b,i))],rfl,bB bM aH,s3.free n1,s3.free n2,ax,ay,aR,aT,by rw [tk];exact Nl.app ac aR aT,by rw [aJ ak];exact a7,by rw [au];simp,?_,λz hz=>?_,?_,by rw [gA];show _+1<=i+1;try?,by rw [gA];show _+1<=i+1;try?⟩
   ·exact (((ad.tv tp).snoc ba).tv J).tv am
   ·rcases iw.mp hz with z | z
    ·exact am (J (tp (ae _ z)))
    ·obtain rfl:_=(th,(c,a,b,i)):=by simpa using z
     refine am (J ?_)
     show D th=_
     rw [a',oO (show a<i by try?),oO be]
   ·rw [gw,gw]
    exact a5
 ·rintro σ U ⟨v5,v6,N,L,fl,ro,g,s,u,O,rfl,s3,ai,ag,q1,q2,q3,q4,C7,VG,YD,ad,ae,Pn,ll,lt⟩
  rw [aP] at *
  rw [pP] at C7
  obtain ⟨⟨a6,bb,S,_,bm⟩,_,_,Y⟩:=C7.ats
  rw?
  apply ⟨.inl ⟨rfl,_,bw.of VG⟩,?_⟩
  apply OE S bm ?_
  refine ⟨p,N,L,es,fl,ro,β,n,nb,g,s,rfl,C7,by try?,h1,hn,aw,λz=>absurd h0 (by rw [z];decide),λ_ Z TT fo D s4 f4 T8=>?_⟩
  have ar:=s4 _ _ VG
  rw?
  apply eG ar (by unfold mq;rw [iR];exact aY 0#q) ?_
  have J:∀{b:af} {xs:0#m},D b=some (.tup xs)->upd D I (.lst (mq u++[.ref Z])) b=some (.tup xs):=λe=>mG ar e
  refine aC (mk:=.tup) 0#t λy H6 s6 n6 e6=>?_
  refine k y I R (u++[(Z,TT,fo)]) O (u.map (·.2)) fl ro g s TT fo H6 (λb o e=>s6 _ _ (bB (s3.trans s4) aj _ _ e)) e6 aj aH (s6 _ _ ?_) (se.tv (λ{b xs} e=>s6 _ _ e) (((ad.tv λ{b xs} e=>s4 _ _ e).snoc f4).tv J)) 0#t (s6 _ _ ?_) (λx hx=>s6 _ _ (J (s4 _ _ (ae x hx)))) Pn Y T8 (by rw [iR];exact ll) lt
  ·rw [au];simp [mq]
  ·rw [aJ (jS ak)];exact s4 _ _ YD
noncomputable def Gj (ks:List (Rat×Rat)) (i:Nat):Rat:=((ks[i]?).map (·.1)).getD 0
noncomputable def NO (ks:List (Rat×Rat)) (i:Nat):Rat:=((ks[i]?).map (·.2)).getD 0
noncomputable def xAt (ks:List (Rat×Rat)) (i:Nat):Rat:=(NO ks (i+1)-NO ks i)/(Gj ks i-Gj ks (i+1))
noncomputable def iP (ks:List (Rat×Rat)) (t0 t1:Int) (i:Nat):Rat×Rat:=
 if i=0 then ((t0:Rat),Gj ks 0*(t0:Rat)+NO ks 0) else if i<ks.length then (xAt ks (i-1),Gj ks (i-1)*xAt ks (i-1)+NO ks (i-1)) else ((t1:Rat),Gj ks (ks.length-1)*(t1:Rat)+NO ks (ks.length-1))
noncomputable def JX (ks:List (Rat×Rat)) (t0 t1:Int) (i:Nat):Rat×Rat×Rat×Rat:=((iP ks t0 t1 i).1,(iP ks t0 t1 i).2,(iP ks t0 t1 (i+1)).1,(iP ks t0 t1 (i+1)).2)
def kF (ls:List Ln):(mq ls).length=ls.length:=iR ..
def Ek {i:Nat} (h:(mq ls)[i]?=some v):∃x,ls[i]?=some x/\v=.ref x.1:=-by
 unfold mq at h
 rw [lZ] at h
 cases e:ls[i]? with
 | none=>rw [e] at h;cases h
 | some x=>rw [e] at h;cases h;exact ⟨x,rfl,rfl⟩
def LV {i:Nat} (h:ls[i]?=some x):(mq ls)[i]?=some (.ref x.1):=-by
 unfold mq
 rw [lZ,h]
 rfl
def abe {ls:List Ln} (h:ls[i]?=some x):Gj (ls.map (·.2)) i=x.2.1/\NO (ls.map (·.2)) i=x.2.2:=-by
 unfold Gj NO
 rw [lZ,h]
 exact ⟨rfl,rfl⟩
def O0 (xs:0#m):rK xs (some 1) none=xs.drop 1:=-by
 unfold rK
 rw [show (1:Int)=((1:Nat):Int) from rfl,HT.U8,show HT.Gm xs.length xs.length none=xs.length from rfl]
 rcases Nat.le_total 1 xs.length with z | z
 ·rw [Nat.min_eq_left z]
  exact RY (by rw [kj];exact d8 _)
 ·rw [Nat.min_eq_right z,WA z,WA (d8 _)]
  simp
inductive FL (vs:List V) (H:Hp) (Q:VK) (E_:XK):Prop where
 | mk (p:af) (T f:Rat) (t:Int) (n:Nat):vs=[.ref p,.int t]->ic H p T f n->Sz n t->1<=n->n<=1795->(∀(y:af) (H':Hp),ah H H'->ic H' y (t:Rat) (T*(t:Rat)+f) (5*n+3)->Q (.ref y) H')->FL vs H Q E_
inductive Fw (vs:List V) (H:Hp) (Q:VK) (E_:XK):Prop where
 | mk (l:af) (ls:List Ln) (t0 t1:Int) (n:Nat):vs=[.ref l,.int t0,.int t1]->H l=some (.lst (mq ls))->se H ls n->0<ls.length->ls.length<=900->Sz n t0->Sz n t1->1<=n->n<=1795->(∀i,i+1<ls.length->Gj (ls.map (·.2)) i≠Gj (ls.map (·.2)) (i+1))->(∀(R:af) (ps:List Pc) (H':Hp),ah H H'->H R=none->H' R=some (.lst (ps.map λx=>V.ref x.1))->AllP H' ps (5*n+3)->ps.map (·.2)=(fN ls.length).map (JX (ls.map (·.2)) t0 t1)->Q (.ref R) H')->Fw vs H Q E_
def HM:dB 2 [bX,"moment"] tD:=0#p
def HA (F:dS K "point_on" tD f fd) (ia:X4 P w K mg base):0#b 6 f fd [bX,"moment"] FL:=-by
 refine F.dm HM 0#a
 obtain ⟨p,TT,O,t,n,rfl,R,I,B,hn,k⟩:=h
 apply bx ⟨_,(aF (aS (bu (br (bu (br 0#C aA)) (bA ia hr 0#w (bu (br 0#C aA))))))),?_⟩
 refine aC (mk:=.tup) 0#t λa J D n1 e1=>?_
 have N:bP J a (t:Rat) n:=⟨t,1,e1,⟨by decide,by simp,by grind⟩,I,oQ B⟩
 rw?
 apply aC (mk:=.tup) 0#t λb H2 u n2 e2=>?_
 apply ⟨p,b,TT,O,(t:Rat),n,n,rfl,R.Mj (D.trans u),qO e2 I B,by try?,λz H3 G M=>?_⟩
 refine aC (mk:=.tup) 0#t λy L v n4 e4=>?_
 exact k y L (D.trans (u.trans (G.trans v))) ⟨a,z,e4,(N.up (u.trans (G.trans v))).mono 0#q,(M.up v).mono 0#q⟩
def pK:dB 3 ["links",cj,cy,"points"] lP:=0#p
def yo (F:dS K "pieces_along" lP f fd) (T:Txt mg) (oG:0#c 6 "point_on" [bX,"moment"] FL) (IP:0#c 6 "meet" [bX,az] KU):0#b 7 f fd ["links",cj,cy] Fw:=-by
 refine F.dm pK 0#a
 obtain ⟨l,J,B,I,n,rfl,hl,hL,h0,jZ,z0,z1,h1,hn,a6,k⟩:=h
 generalize an:J.map (·.2)=p at *
 have Jy:p.length=J.length:=by rw [<- an,iR]
 have R:∀{i:Nat} {x:Ln},J[i]?=some x->Gj p i=x.2.1/\NO p i=x.2.2:=λ{i x} h=>by rw [<- an];exact abe h
 obtain ⟨x0,g0⟩:∃x,J[0]?=some x:=⟨J[0],lW h0⟩
 obtain ⟨xl,gl⟩:∃x,J[J.length-1]?=some x:=⟨J[J.length-1],lW 0#q⟩
 apply bx ⟨_,(ao (aM 3 pK.nd (dU (c9 (bA oG hr (Jd.iL K 0#w) 0#C)))) (ao (gc (Jd.GI K (aa 3) (pG (O:=[bX,"behind"]) (N':=[]) (cap:=[]) rfl (Jd.AH K rfl T.aat (br 0#w (Jd.nU (slL K) 0#w (Jd.rD aA) Jd.rC))) (λ_ _ _ _ _=>(Jd.UW K (n:=2) rfl (lz (c8 (i:=0) (show jR [("line":Str),("behind":Str)] by decide +kernel) rfl (Or.inl rfl)) (lz (c8 (i:=1) (show jR [("line":Str),("behind":Str)] by decide +kernel) rfl (Or.inl rfl)) Jd.kH)))) (λ_ _ _ _ _=>ly) (λ_ _ _ _ _=>(iX IP (hr.mono 0#s) rfl (eN 0#w (eN 0#C fZ bH) bH) (he:=bH) (hpl:=(cV bH cD)))) rfl trivial rfl 0#u rfl 0#u)) (hs:=fH)) (ao (gc (fB K (aa 3) (bA oG hr (bV (iQ K) 0#w (jh fM aA) 0#z) (aa 2))) (hs:=fH)) (aF (aS (pG (O:=["start","end"]) (N':=[]) (cap:=[]) rfl (Jd.AH K rfl T.aat (br (aa 3) (Jd.nU (slL K) (aa 3) (Jd.rD aA) Jd.rC))) (λ_ _ _ _ _=>(Jd.UW K (n:=2) rfl (lz (c8 (i:=0) (show jR [("start":Str),("end":Str)] by decide +kernel) rfl (Or.inl rfl)) (lz (c8 (i:=1) (show jR [("start":Str),("end":Str)] by decide +kernel) rfl (Or.inl rfl)) Jd.kH)))) (λ_ _ _ _ _=>ly) (λ_ _ _ _ _=>(aI (aaE K) 0#w 0#C)) rfl trivial rfl 0#u rfl 0#u)))))),?_⟩
 apply dM hl (gI (j:=0) (LV g0)) ?_
 apply ⟨x0.1,x0.2.1,x0.2.2,B,n,rfl,hL x0 (nk g0),z0,h1,hn,λM H1 s1 f1=>?_⟩
 refine aC (mk:=.lst) 0#t λPT H2 s2 n2 e2=>?_
 have gO:=s1.trans s2
 have ar:H PT=none:=s1.free n2
 rw?
 apply ⟨.inl ⟨rfl,_,bw.of e2⟩,?_⟩
 apply QX ?_
 refine ⟨_,rfl,1,rfl,l,_,rfl,bw.of (gO _ _ hl),λP1 a7=>?_⟩
 rw [O0]
 have s3:ah H2 (upd H2 P1 (.lst ((mq J).drop 1))):=bB (ah.refl _) a7
 have e3:upd H2 P1 (.lst ((mq J).drop 1)) P1=some (.lst ((mq J).drop 1)):=au
 generalize upd H2 P1 (.lst ((mq J).drop 1))=H3 at *
 have pR:=gO.trans s3
 rw?
 refine ⟨l,P1,_,_,rfl,bw.of (pR _ _ hl),bw.of e3,?_⟩
 refine vz (Gu:=J.length-1) (by rw [kF];try?) (by rw [kj,kF];try?) (.inr (by rw [kj,kF];try?)) (λH9 s9=>⟨bw.of ((pR.trans s9) _ _ hl),bw.of (s9 _ _ e3)⟩) 0#q (λc ys G=>∃L:List Ln,ys=mq L/\se G L (5*n+3)/\L.map (·.2)=(fN c).map λi=>iP p B I (i+1)) ⟨[],rfl,λx hx=>absurd hx 0#t,rfl⟩ ?_ ?_
 ·rintro D c v v' ys H9 tT pp jT NN N0 ae hD eD s9 pH ad hc hv Z hy ⟨L,rfl,aj,N⟩ kY kN
  obtain ⟨x,gx,rfl⟩:=Ek hv
  rw [tN,DK] at Z
  obtain ⟨S,T7,rfl⟩:=Ek Z
  have HJ:=pR.trans (s9.trans pH)
  obtain ⟨l1,l2⟩:=R gx
  obtain ⟨l3,l4⟩:=R T7
  have a5:c+1<J.length:=(kM.mp T7).1
  have ne:x.2.1≠S.2.1:=by rw [<- l1,<- l3];exact a6 c a5
  apply AN ae ad ?_
  apply bO ?_
  refine ⟨x.1,S.1,_,_,_,_,n,rfl,(hL x (nk gx)).Mj HJ,(hL S (nk T7)).Mj HJ,h1,hn,λz=>absurd z ne,λ_ z a b Gs Y Yr fa fb=>?_⟩
  have pe:iP p B I (c+1)=((S.2.2-x.2.2)/(x.2.1-S.2.1),x.2.1*((S.2.2-x.2.2)/(x.2.1-S.2.1))+x.2.2):=by
   unfold iP xAt
   rw [if_neg 0#r,if_pos 0#r,Mz,l1,l2,l3,l4]
  refine kY _ Gs Y ⟨L++[(z,iP p B I (c+1))],by simp [mq],λy ac=>?_,?_⟩
  ·rcases iw.mp ac with w | w
   ·exact (aj y w).tv λ{b U} e=>(rV (pH.trans Y)) _ _ e
   ·obtain rfl:y=(z,iP p B I (c+1)):=by simpa using w
    rw [pe]
    have ln:ic Gs z ((S.2.2-x.2.2)/(x.2.1-S.2.1)) (x.2.1*((S.2.2-x.2.2)/(x.2.1-S.2.1))+x.2.2) (5*n+3):=⟨a,b,Yr,fa.mono 0#q,fb⟩
    exact ln.tv λ{b U} e=>eK ((pH.trans Y) _ _ eD) e
  ·rw [gw,N,xD,gw]
   rfl
 rintro D ys H4 hD eD s4 hy ⟨L,rfl,aj,N⟩
 have Dp:=pR.trans s4
 have ak:=(s3.trans s4) _ _ e2
 have ay:=f1.Mj (s2.trans (s3.trans s4))
 have aw:se H4 L (5*n+3):=aj.tv λ{b U} e=>gM _ _ e
 have hql:L.length=J.length-1:=by
  have:=congrArg pL N
  simpa using this
 rw?
 refine Di ak eD (by rw [kF];exact tR (aY (by show 1+L.length<=1000;try?))) ?_
 have t5:∀{b:af} {U:0#m},H4 b=some (.tup U)->upd H4 PT (.lst ([.ref M]++mq L)) b=some (.tup U):=λe=>mG ak e
 have e5:upd H4 PT (.lst ([.ref M]++mq L)) PT=some (.lst (mq ((M,iP p B I 0)::L))):=by rw [au];rfl
 have s5:ah H (upd H4 PT (.lst ([.ref M]++mq L))):=bB Dp ar
 have p0:iP p B I 0=((B:Rat),x0.2.1*(B:Rat)+x0.2.2):=by
  unfold iP
  rw [if_pos rfl,(R g0).1,(R g0).2]
 have aU:se (upd H4 PT (.lst ([.ref M]++mq L))) ((M,iP p B I 0)::L) (5*n+3):=λy ac=>by
  rcases jG.mp ac with w | w
  ·subst w
   rw [p0]
   exact ay.tv t5
  ·exact (aw y w).tv t5
 generalize upd H4 PT (.lst ([.ref M]++mq L))=H5 at *
 rw?
 apply ⟨.inl ⟨rfl,_,bw.of e5⟩,?_⟩
 refine dM (s5 _ _ hl) (v:=.ref xl.1) ?_ ?_
 ·unfold tU
  rw [Eg (m:=J.length-1) (by rw [kF];try?)]
  exact LV gl
 rw?
 refine ⟨xl.1,xl.2.1,xl.2.2,I,n,rfl,(hL xl (nk gl)).Mj s5,z1,h1,hn,λyl H6 s6 f6=>?_⟩
 have e6:=s6 _ _ e5
 rw?
 refine eG e6 (by rw [kF];exact aY (by show L.length+1<=1000;try?)) ?_
 have pn:iP p B I J.length=((I:Rat),xl.2.1*(I:Rat)+xl.2.2):=by
  unfold iP
  rw [if_neg 0#r,if_neg 0#r,Jy,(R gl).1,(R gl).2]
 have t7:∀{b:af} {U:0#m},H6 b=some (.tup U)->upd H6 PT (.lst (mq ((M,iP p B I 0)::L)++[.ref yl])) b=some (.tup U):=λe=>mG e6 e
 have e7:upd H6 PT (.lst (mq ((M,iP p B I 0)::L)++[.ref yl])) PT=some (.lst (mq ((M,iP p B I 0)::L++[(yl,iP p B I J.length)]))):=by rw [au];simp [mq]
 have s7:ah H (upd H6 PT (.lst (mq ((M,iP p B I 0)::L)++[.ref yl]))):=bB (s5.trans s6) ar
 have al:se (upd H6 PT (.lst (mq ((M,iP p B I 0)::L)++[.ref yl]))) ((M,iP p B I 0)::L++[(yl,iP p B I J.length)]) (5*n+3):=by
  refine se.snoc ((aU.tv λ{b U} e=>s6 _ _ e).tv t7) ?_
  show ic _ yl _ _ _
  rw [pn]
  exact f6.tv t7
 have ap:((M,iP p B I 0)::L++[(yl,iP p B I J.length)]).map (·.2)=(fN (J.length+1)).map (iP p B I):=by
  rw [gw,xF,N,xD,gw]
  congr 1
  rw [show J.length=(J.length-1)+1 by try?,List.range_succ_eq_map,xF,SK,Mz]
  rfl
 generalize aeB:(M,iP p B I 0)::L++[(yl,iP p B I J.length)]=V0 at *
 generalize upd H6 PT (.lst (mq ((M,iP p B I 0)::L)++[.ref yl]))=H7 at *
 have hpl:V0.length=J.length+1:=by
  have:=congrArg pL ap
  simpa using this
 have as:∀{i:Nat} {x:Ln},V0[i]?=some x->x.2=iP p B I i:=λ{i x} h=>by
  have hi:i<V0.length:=(kM.mp h).1
  have e1:(V0.map (·.2))[i]?=some x.2:=by rw [lZ,h];rfl
  rw [ap,lZ,CS 0#q] at e1
  exact (tO e1).symm
 rw?
 apply QX ?_
 refine ⟨_,rfl,1,rfl,PT,_,rfl,bw.of e7,λP8 a8=>?_⟩
 rw [O0]
 have s8:ah H7 (upd H7 P8 (.lst ((mq V0).drop 1))):=bB (ah.refl _) a8
 have e8:upd H7 P8 (.lst ((mq V0).drop 1)) P8=some (.lst ((mq V0).drop 1)):=au
 generalize upd H7 P8 (.lst ((mq V0).drop 1))=H8 at *
 rw?
 refine ⟨PT,P8,_,_,rfl,bw.of (s8 _ _ e7),bw.of e8,?_⟩
 refine vz (Gu:=J.length) (by rw [kF];try?) (by rw [kj,kF];try?) (.inr (by rw [kj,kF];try?)) (λH9 s9=>⟨bw.of ((s8.trans s9) _ _ e7),bw.of (s9 _ _ e8)⟩) 0#q (λc ys G=>∃ps:List Pc,ys=(ps.map λx=>V.ref x.1)/\AllP G ps (5*n+3)/\ps.map (·.2)=(fN c).map (JX p B I)) ⟨[],rfl,λx hx=>absurd hx 0#t,rfl⟩ ?_ ?_
 ·rintro D' c v v' ys H9 tT pp jT NN N0 ae am Lz s9 pH ad hc hv Z hy ⟨ps,rfl,ai,ag⟩ kY kN
  obtain ⟨x,gx,rfl⟩:=Ek hv
  rw [tN,DK] at Z
  obtain ⟨S,T7,rfl⟩:=Ek Z
  have Q2:=s8.trans (s9.trans pH)
  obtain ⟨a1,b1,ex,aH,aR⟩:=(al x (nk gx)).Mj Q2
  obtain ⟨a2,b2,ax,aN,aT⟩:=(al S (nk T7)).Mj Q2
  apply AN ae ad ?_
  apply bO ?_
  refine QN ex ax ?_
  refine aC (mk:=.tup) 0#t λz Gs Y n11 Yr=>?_
  refine kY _ Gs Y ⟨ps++[(z,JX p B I c)],by simp,λy ac=>?_,?_⟩
  ·rcases iw.mp ac with w | w
   ·exact (ai y w).mv λ{b U} e=>(rV (pH.trans Y)) _ _ e
   ·obtain rfl:y=(z,JX p B I c):=by simpa using w
    have q1:=as gx
    have q2:=as T7
    have pc:zG Gs (z,JX p B I c) (5*n+3):=by
     unfold JX
     rw [<- q1,<- q2]
     exact ⟨a1,b1,a2,b2,Yr,(aH.up Y).mono 0#q,aR.up Y,(aN.up Y).mono 0#q,aT.up Y⟩
    exact pc.mv λ{b U} e=>eK ((pH.trans Y) _ _ Lz) e
  ·rw [gw,ag,xD,gw]
   rfl
 rintro D' ys H9 am Lz s9 hy ⟨ps,rfl,ai,ag⟩
 rw?
 exact k D' ps H9 (s7.trans (s8.trans s9)) ((s7.trans s8).free am) Lz (λx hx=>(ai x hx).mv λ{b U} e=>gM _ _ e) ag
def zA (es:0#f) (β:Rat) (k fl ro:Nat) (L:Rat×Rat):Prop:=(∀i,fl<=i->i<k->cB es L.1 i-β<=L.2)/\∀i,ro<=i->i<k->L.2<=cB es L.1 i+β
def zf.Jb (hk:k<=es.length) (h:zf (es.take k) β fl ro m q G f a b):zA es β k fl ro (G,f):=-by
 have u:(es.take k).length=k:=by rw [yw];simp?
 refine ⟨λi p n=>?_,λi p n=>?_⟩
 ·have:=h.lo i p (by rw [u];exact n)
  rw [fE n] at this
  exact this
 ·have:=h.hi i p (by rw [u];exact n)
  rw [fE n] at this
  exact this
def zj.Jb (hk:k<=es.length) (h:zj (es.take k) β fl ro m q S f a b):zA es β k fl ro (S,f):=-by
 have u:(es.take k).length=k:=by rw [yw];simp?
 refine ⟨λi p n=>?_,λi p n=>?_⟩
 ·have:=h.lo i p (by rw [u];exact n)
  rw [fE n] at this
  exact this
 ·have:=h.hi i p (by rw [u];exact n)
  rw [fE n] at this
  exact this
def Gv.Jb (h:xQ es fl ro β g s) (fX:0<=β) (hN:Gv es β fl g s T f):zA es β es.length fl ro (T,f):=-by
 rcases hN with ⟨G,z,D⟩ | ⟨p,n,A,B⟩
 ·refine ⟨z,?_⟩
  rcases G with p | ⟨p,n⟩
  ·obtain ⟨u,v⟩:=h.VL p
   exact (C1 fX h.Dj u v z D).1
  ·obtain ⟨u,v⟩:=h.Zr n
   exact (C4 fX h.Dj u v z D).1
 ·have h2:=h.two.mpr ⟨p,n⟩
  refine ⟨λi E H=>?_,λi E H=>?_⟩
  ·obtain rfl:i=fl:=by have:=h.lt 0#r;simp?
   show cB es T i-β<=f
   unfold cB
   rw [A,B]
   grind
  ·have:=h.lt 0#r
   obtain rfl:i=fl:=by simp?
   show f<=cB es T i+β
   unfold cB
   rw [A,B]
   grind
def Rel (es:0#f) (z:Bool×Nat×Nat×Nat) (L0 L1:Rat×Rat):Prop:=z.2.2.1<z.2.2.2/\z.2.2.2<es.length /\
 if z.1=true then L0.1*(mo es z.2.2.1:Rat)+L0.2<=L1.1*(mo es z.2.2.1:Rat)+L1.2/\L1.1*(mo es z.2.2.2:Rat)+L1.2<L0.1*(mo es z.2.2.2:Rat)+L0.2
 else L1.1*(mo es z.2.2.1:Rat)+L1.2<=L0.1*(mo es z.2.2.1:Rat)+L0.2/\L0.1*(mo es z.2.2.2:Rat)+L0.2<L1.1*(mo es z.2.2.2:Rat)+L1.2
inductive Ch (es:List En):List (Rat×Rat)->List (Bool×Nat×Nat×Nat)->Rat×Rat->Prop where
 | one {L:Rat×Rat}:Ch es [] [] L
 | more {ks:List (Rat×Rat)} {ts:List (Bool×Nat×Nat×Nat)} {L0 L1:Rat×Rat} {z:Bool×Nat×Nat×Nat} (h:Ch es ks ts L0) (hR:Rel es z L0 L1):Ch es (ks++[L0]) (ts++[z]) L1
def TJ (hk:k<es.length) (h:zf (es.take k) β fl ro (mo es k) (wo es k) G f a b) (hF:zA es β (k+1) b k L):Rel es (true,a,b,k) (G,f) L:=-by
 have B:(es.take k).length=k:=by rw [yw];simp?
 have n:=h.lb
 rw [B] at n
 have p:=h.eb
 rw [fE n] at p
 obtain ⟨i,z,A,ei⟩:=h.off
 have li:=h.lo i z A
 have u:=hF.1 b (d8 _) 0#r
 have v:=hF.2 k (d8 _) 0#r
 unfold cB at p u v
 refine ⟨n,hk,?_⟩
 rw [if_pos rfl]
 refine ⟨by show G*(mo es b:Rat)+f<=L.1*(mo es b:Rat)+L.2;grind,?_⟩
 show L.1*(mo es k:Rat)+L.2<G*(mo es k:Rat)+f
 grind
def TQ (hk:k<es.length) (h:zj (es.take k) β fl ro (mo es k) (wo es k) S f a b) (hF:zA es β (k+1) k b L):Rel es (false,a,b,k) (S,f) L:=-by
 have B:(es.take k).length=k:=by rw [yw];simp?
 have n:=h.lb
 rw [B] at n
 have p:=h.eb
 rw [fE n] at p
 obtain ⟨i,z,A,ei⟩:=h.off
 have li:=h.hi i z A
 have u:=hF.2 b (d8 _) 0#r
 have v:=hF.1 k (d8 _) 0#r
 unfold cB at p u v
 refine ⟨n,hk,?_⟩
 rw [if_neg nv]
 refine ⟨by show L.1*(mo es b:Rat)+L.2<=S*(mo es b:Rat)+f;grind,?_⟩
 show S*(mo es k:Rat)+f<L.1*(mo es k:Rat)+L.2
 grind
def Tr.ch (h:Tr es β k fl ro ks ts):∀L,zA es β k fl ro L->Ch es ks ts L:=-by
 induction h with
 | nil=>exact λL _=>.one
 | stay h hk hP hP' hN ih=>exact λL n=>ih L ⟨λi a b=>n.1 i a 0#r,λi a b=>n.2 i a 0#r⟩
 | cap h hk hP hC ih=>exact λL n=>.more (ih _ (hC.Jb (tR hk))) (TJ hk hC n)
 | cup h hk hP hn hC ih=>exact λL n=>.more (ih _ (hC.Jb (tR hk))) (TQ hk hC n)
def Tr.len (h:Tr es β k fl ro ks ts):ks.length=ts.length/\ks.length<=k:=-by
 induction h with
 | nil=>exact ⟨rfl,d8 _⟩
 | stay h hk hP hP' hN ih=>exact ⟨ih.1,by simp?⟩
 | cap h hk hP hC ih=>exact ⟨by rw [gA,gA,ih.1];rfl,by rw [gA];show _+1<=_;simp?⟩
 | cup h hk hP hn hC ih=>exact ⟨by rw [gA,gA,ih.1];rfl,by rw [gA];show _+1<=_;simp?⟩
def Rel.ne (hr:rising es)  (h:Rel es z L0 L1):L0.1≠L1.1:=-by
 obtain ⟨h1,h2,n⟩:=h
 intro e
 split at n
 ·rw [e] at n
  grind
 ·rw [e] at n
  grind
def Al (h:i<ks.length):Gj (ks++[L]) i=Gj ks i/\NO (ks++[L]) i=NO ks i:=-by
 unfold Gj NO
 rw [B4 h]
 exact ⟨rfl,rfl⟩
def Hl:Gj (ks++[L]) ks.length=L.1/\NO (ks++[L]) ks.length=L.2:=-by
 unfold Gj NO
 simp
def Ch.sep (hr:rising es)  (h:Ch es ks ts L):∀i,i<ks.length->Gj (ks++[L]) i≠Gj (ks++[L]) (i+1):=-by
 induction h with
 | one=>exact λi n=>absurd n (xC _)
 | @more ks ts L0 L1 z h hR ih=>
   intro i n
   rw [gA] at n
   have p:i<ks.length+1:=n
   by_cases e:i=ks.length
   ·subst e
    have e1:Gj (ks++[L0]++[L1]) (ks.length+1)=L1.1:=by
     have:=(Hl (ks:=ks++[L0]) (L:=L1)).1
     rw [gA] at this
     exact this
    rw [e1,(Al (by rw [gA];show ks.length<ks.length+1;simp?)).1,(Hl).1]
    exact hR.ne hr
   ·have u:=(Al (ks:=ks++[L0]) (L:=L1) (i:=i) (by rw [gA];exact p)).1
    have v:=(Al (ks:=ks++[L0]) (L:=L1) (i:=i+1) (by rw [gA];show i+1<ks.length+1;simp?)).1
    rw [u,v]
    exact ih i 0#r
def M8 (H:Hp) (β:Rat) (N:Nat) (r:0#f) (z:List Pc×List Tt):Prop:=AllP H z.1 N/\(∀x∈z.2,OL H r x)/\∃(ks:List (Rat×Rat)) (L:Rat×Rat) (fl ro:Nat) (g s:Option Rat),Tr r β r.length fl ro ks (z.2.map (·.2))/\xQ r fl ro β g s/\Gv r β fl g s L.1 L.2/\z.1.map (·.2)=(fN (ks.length+1)).map (JX (ks++[L]) (mo r 0) (mo r (r.length-1)))
def M8.tv (t:0#e) (h:M8 H β N r z):M8 H' β N r z:=⟨λx hx=>(h.1 x hx).mv t,λx hx=>t (h.2.1 x hx),h.2.2⟩
noncomputable def mV (zs:List (List Pc×List Tt)):0#m:=(zs.map λz=>z.1.map λx=>V.ref x.1).flatten
noncomputable def Eh (zs:List (List Pc×List Tt)):0#m:=(zs.map λz=>z.2.map λx=>V.ref x.1).flatten
inductive uU (C:af) (vs:List V) (H:Hp) (Q:VK) (E_:XK):Prop where
 | mk (l pb:af) (es:0#f) (β:Rat) (n nb:Nat):vs=[.ref l,.ref pb]->H l=some 0#D->Row H es n->rising es->es.length<=40->bP H pb β nb->0<=β->1<=n->n<=1500->(5*n+4*nb<=7900/\nb<=1000)->5*n+3*nb+7<=1795->(∀(y X Z:af) (zs:List (List Pc×List Tt)) (H':Hp),ah H H'->H' y=some (.tup [.ref X,.ref Z])->H X=none->H Z=none->X≠Z->H' X=some (.lst (mV zs))->H' Z=some (.lst (Eh zs))->qb (M8 H' β (5*(5*n+3*nb+7)+3)) (parts jL es es.length) zs->Q (.ref y) H')->uU C vs H Q E_
section
variable {P:fP} {w:dh} {K:bJ} {mg:0#h} {base:cA} {f aq:af} {fd:fU}
def xq:∀i:Nat,(parts s es i).flatten=(es.take i).filter s
 | 0=>by simp [parts]
 | i+1=>by
   have ih:=xq (s:=s) (es:=es) i
   unfold parts
   cases e:es[i]? with
   | none=>
     dsimp only
     rw [ih,qT,e]
     simp
   | some x=>
     have tk:es.take (i+1)=es.take i++[x]:=by rw [qT,e];rfl
     rw [tk,Ie]
     dsimp only
     split
     ·rename_i hs
      split
      ·rename_i hr
       obtain ⟨t,r,hp⟩:=AD hr
       rw [<- ih,hp]
       simp [hs]
      ·rw [Dz,ih]
       simp [hs]
     ·rename_i hs
      rw [ih]
      simp [hs]
def Jc {α:Type} {l:List (List α)} (i:Nat):(l.take i).flatten.length<=l.flatten.length:=-by
 conv=>rhs;rw [<- R8 i l]
 rw [Dz,gA]
 simp?
def nY:dB 2 [bE,aL,"telling","paper","run",cI] AZ:=0#p
def NX (F:dS K "joined" AZ f fd) (T:Txt mg) (oH:0#c 1 "runs" [bE] BC) (su:0#c 8 "links_of" ["run",aL] (FH aq)) (kZ:0#c 7 "pieces_along" ["links",cj,cy] Fw):0#b 9 f fd [bE,aL] (uU aq):=-by
 refine F.dm nY 0#a
 obtain ⟨l,pb,es,β,n,nb,rfl,hl,hR,fW,Cf,hb,fX,h1,hn,a8,hM,k⟩:=h
 apply bx ⟨_,(ao (aM 2 nY.nd (dU fZ)) (ao (aM 3 nY.nd (dU fZ)) (ao (gQ jd rfl (j0 K (Jd.c1 oH hr 0#w)) (c8 (i:=4) nY.nd rfl (Or.inl rfl)) (ao (aM 5 nY.nd (bA su hr (aa 4) 0#C)) (ao (gc (Jd.GI K (aa 2) (Jd.c3 kZ hr (aB K (aa 5)) (aB K (Jd.iL K (aa 4))) (aB K (bV (iQ K) (aa 4) (jh fM aA) 0#z)))) (hs:=fH)) (aF (gc (Jd.GI K (aa 3) (aB K (aa 5))) (hs:=fH)))))) (aF (aS (bu (br (aa 2) (aa 3)))))))),?_⟩
 apply aC (mk:=.lst) 0#t λX H1 s1 n1 e1=>?_
 refine aC (mk:=.lst) 0#t λZ H2 s2 n2 e2=>?_
 have gO:=s1.trans s2
 have OD:X≠Z:=λz=>by rw [<- z,e1] at n2;cases n2
 have aj:H Z=none:=s1.free n2
 rw?
 apply iZ (kJ ?_)
 refine ⟨l,es,n,rfl,gO _ _ hl,hR.up gO,Cf,λTT ls H3 s3 Cb ae adv _=>?_⟩
 have a7:ls.length=(parts jL es es.length).length:=by rw [<- ae,iR]
 obtain ⟨a1,a2⟩:=Cb.own (s2 _ _ e1)
 obtain ⟨b1,b2⟩:=Cb.own e2
 have hF:∀i,((parts jL es es.length).take i).flatten.length<=40:=λi=>by
  have q1:=Jc (l:=parts jL es es.length) i
  rw [xq,pP] at q1
  have q2:(es.filter jL).length<=es.length:=WD ..
  try?
 refine ⟨TT,rfl,⟨_,bw.of Cb.at_⟩,fu (xs:=lrefs ls) (λi σ G=>VB λ(p:List (List Pc×List Tt)) (v5 v6:Option V)=>σ=[some (.ref l),some (.ref pb),some (.ref X),some (.ref Z),v5,v6]/\ah H G/\LL H2 G TT ls/\G X=some (.lst (mV p))/\G Z=some (.lst (Eh p))/\(mV p).length<=2*((parts jL es es.length).take i).flatten.length/\(Eh p).length<=((parts jL es es.length).take i).flatten.length/\qb (M8 G β (5*(5*n+3*nb+7)+3)) ((parts jL es es.length).take i) p) ?_ ?_ ?_ ?_⟩
 ·exact ⟨[],none,none,rfl,gO.trans s3,Cb,(s2.trans s3) _ _ e1,s3 _ _ e2,lY _,d8 _,trivial⟩
 ·rintro i σ G _ ⟨p,v5,v6,rfl,O,U,_⟩
  exact bw.of U.at_
 ·rintro i x σ G hx ⟨p,v5,v6,rfl,O,U,Y,eZ,hz1,hz2,hJ⟩
  refine ig λM B RR aT _ _=>?_
  obtain ⟨x,gx,rfl⟩:=nO hx
  have hi:i<ls.length:=(kM.mp gx).1
  have Oz:=nk gx
  have hp:(parts jL es es.length)[i]?=some x.2:=by rw [<- ae,lZ,gx];rfl
  obtain ⟨o1,o2,o3⟩:=rA es.length x.2 (nk hp)
  rw [pP] at o3
  obtain ⟨_,ex,_⟩:=U.each x Oz
  have a9:1<=x.2.length:=Dy.mpr o1
  have aa8:x.2.length<=40:=iy o3.length_le Cf
  have Y0:Row G x.2 n:=λz hz=>hR.up O z (o3.subset hz)
  have ag:rising x.2:=fW.sublist o3
  have al:((parts jL es es.length).take (i+1)).flatten.length=((parts jL es es.length).take i).flatten.length+x.2.length:=by
   rw [Iv,hp,Dz,gA]
   simp
  have hF1:=hF (i+1)
  rw?
  refine ⟨x.1,pb,x.2,β,n,nb,rfl,ex,Y0,o2,ag,a9,by try?,hb.up O,fX,h1,hn,a8,λy5 Ll Lt ln S ks fl ro g s T5 f5 H5 v e5 nl5 ak ar aH u aw a5 Pn hP T8 hk5 ht5=>?_⟩
  have a6:=Pn.ch (T5,f5) (T8.Jb hP fX)
  have ai:=a6.sep ag
  have an:ln.length=ks.length+1:=by
   have:=congrArg pL u
   simpa using this
  have uN:=O.trans v
  have aN:=U.up v
  obtain ⟨_,ad,_⟩:=aN.each x Oz
  obtain ⟨xa,ga,fa⟩:=cC (Y0.up v) o2 (show 0<x.2.length by try?)
  obtain ⟨xb,gb,fb⟩:=cC (Y0.up v) o2 (show x.2.length-1<x.2.length by try?)
  obtain ⟨va,ea,_,ba⟩:=id fa
  obtain ⟨vb,eb,_,bb⟩:=id fb
  rw?
  apply ⟨.inl ⟨rfl,_,bw.of (v _ _ Y)⟩,?_⟩
  apply dM ad (yF ga) ?_
  apply dM ad (DV gb) ?_
  refine ⟨Ll,ln,mo x.2 0,mo x.2 (x.2.length-1),5*n+3*nb+7,rfl,ar,aH,by try?,by try?,ba.mono 0#q,bb.mono 0#q,by try?,hM,?_,λR6 ps J s6 nR6 as aU N=>?_⟩
  ·intro j hj
   rw [u]
   exact ai j 0#q
  rw [u,an] at N
  have D:=v.trans s6
  have ac:=D _ _ Y
  have aeA:ps.length=ks.length+1:=by
   have:=congrArg pL N
   simpa using this
  have ap:=s6 _ _ e5
  rw?
  refine Di ac as (by rw [iR];exact tR (aY 0#q)) ?_
  have I:∀{b:af} {xs:0#m},J b=some (.tup xs)->upd J X (.lst (mV p++ps.map λx=>V.ref x.1)) b=some (.tup xs):=λe=>mG ac e
  have ay:upd J X (.lst (mV p++ps.map λx=>V.ref x.1)) X=some (.lst (mV (p++[(ps,S)]))):=by rw [au];simp [mV]
  have a':Z≠X:=jS OD
  have L:upd J X (.lst (mV p++ps.map λx=>V.ref x.1)) Z=some (.lst (Eh p)):=by rw [aJ a'];exact D _ _ eZ
  have am:Lt≠X:=λz=>by rw [z,Y] at ak;cases ak
  have ax:upd J X (.lst (mV p++ps.map λx=>V.ref x.1)) Lt=some (.lst (S.map λx=>V.ref x.1)):=by rw [aJ am];exact s6 _ _ aw
  have aR:LL H2 (upd J X (.lst (mV p++ps.map λx=>V.ref x.1))) TT ls:=(U.up D).other a1 a2
  have V7:ah H (upd J X (.lst (mV p++ps.map λx=>V.ref x.1))):=bB (O.trans D) n1
  have e57:=I ap
  generalize upd J X (.lst (mV p++ps.map λx=>V.ref x.1))=H7 at *
  rw?
  apply ⟨.inl ⟨rfl,_,bw.of L⟩,?_⟩
  refine Di L ax (by rw [iR];exact tR (aY 0#q)) ?_
  have R:∀{b:af} {xs:0#m},H7 b=some (.tup xs)->upd H7 Z (.lst (Eh p++S.map λx=>V.ref x.1)) b=some (.tup xs):=λe=>mG L e
  have l1:(mV (p++[(ps,S)])).length=(mV p).length+ps.length:=by simp [mV]
  have l2:(Eh (p++[(ps,S)])).length=(Eh p).length+S.length:=by simp [Eh]
  refine aT _ _ ⟨p++[(ps,S)],_,_,rfl,bB V7 aj,aR.other b1 b2,by rw [aJ OD];exact ay,by rw [au];simp [Eh],by rw [l1,al];try?,by rw [l2,al];try?,?_⟩
  rw [Iv,hp]
  refine oK (rf (λa b _ h=>h.tv λ{b xs} e=>R (I (D _ _ e))) hJ) ⟨λz hz=>((aU z hz).mv I).mv R,λz hz=>R (I (s6 _ _ (a5 z hz))),ks,(T5,f5),fl,ro,g,s,Pn,hP,T8,N⟩
 ·rintro σ G ⟨p,v5,v6,rfl,O,U,Y,eZ,_,_,hJ⟩
  rw [dG,a7,pP] at hJ
  rw?
  refine aC (mk:=.tup) 0#t λy H5 v n5 e5=>?_
  exact k y X Z p H5 (O.trans v) e5 n1 aj OD (v _ _ Y) (v _ _ eZ) (rf (λa b _ h=>h.tv λ{b xs} e=>v _ _ e) hJ)
end
def nC (t w:Nat->Rat) (β:Rat) (k fl ro:Nat) (T f:Rat):Prop:=(∀i,fl<=i->i<k->w i-T*t i-β<=f)/\∀i,ro<=i->i<k->f<=w i-T*t i+β
structure zB (t w:Nat->Rat) (β:Rat) (k fl ro F:Nat):Prop where
 le:F<=ro
 below:∀T f,nC t w β k fl ro T f->∀i,F<=i->i<k->f<=w i-T*t i+β
 Yo:∀T f,nC t w β k fl ro T f->∀i j,F<=i->i<j->j<k->∀x v:Rat,(∀m,m<k->t m<x)->T*x+f<=v->(w j-β)*(x-t i)<=(w i+β)*(x-t j)+v*(t j-t i)
def abb:zB t w β 0 0 0 0:=⟨d8 _,λ_ _ _ i _ h=>absurd h (xC _),λ_ _ _ i j _ _ h=>absurd h (xC _)⟩
def PZ {T:Rat} (h1:ti<tk) (h2:tk<x) (hb:f<=wi-T*ti+β) (hl:wk-T*tk-β<=f) (hv:T*x+f<=v):(wk-β)*(x-ti)<=(wi+β)*(x-tk)+v*(tk-ti):=-by
 have a1:0<=x-tk:=by grind
 have a2:0<=tk-ti:=by grind
 have a3:0<=x-ti:=by grind
 have m1:=wO (show T*ti+f<=wi+β by grind) a1
 have m2:=wO hv a2
 have m3:=wO (show wk-β<=T*tk+f by grind) a3
 grind
def Hg (hr:∀i j,i<j->j<k+1->t i<t j) (hfl:fl<=k) (yH:ro<=k) (h:zB t w β k fl ro F):zB t w β (k+1) fl ro F:=-by
 have p:∀{T f:Rat},nC t w β (k+1) fl ro T f->nC t w β k fl ro T f:=λn=>⟨λi a b=>n.1 i a 0#r,λi a b=>n.2 i a 0#r⟩
 have bl:∀T f,nC t w β (k+1) fl ro T f->∀i,F<=i->i<k+1->f<=w i-T*t i+β:=λT f n i u z=>by
  by_cases e:i=k
  ·subst e
   exact n.2 i yH 0#r
  ·exact h.below T f (p n) i u 0#r
 refine ⟨h.le,bl,λT f n i j u z h3 x v B A=>?_⟩
 by_cases e:j=k
 ·subst e
  exact PZ (hr i j z 0#r) (B j 0#r) (bl T f n i u 0#r) (n.1 j hfl 0#r) A
 ·exact h.Yo T f (p n) i j u z 0#r x v (λm hm=>B m 0#r) A
def LN:zB t w β (k+1) b k k:=
 ⟨d8 _,λT f hF i h1 h2=>hF.2 i h1 h2,λT f hF i j h1 h2 h3=>absurd h3 0#r⟩
def LO (hr:∀i j,i<j->j<k+1->t i<t j) (h:zB t w β k fl ro F) (hF0:nC t w β k fl ro S f0) (hb1:ro<=b) (hb2:b<k) (eb:w b-S*t b+β=f0) (ek:f0<w k-S*t k-β):zB t w β (k+1) k b F:=-by
 have p:∀T f,nC t w β (k+1) k b T f->S<T/\T*t b+f<=S*t b+f0/\S*t k+f0<T*t k+f:=λT f n=>by
  have l1:=n.1 k (d8 _) 0#r
  have l2:=n.2 b (d8 _) 0#r
  have d:=hr b k hb2 0#r
  have a1:T*t b+f<=S*t b+f0:=by grind
  have a2:S*t k+f0<T*t k+f:=by grind
  refine ⟨oz.mp λz=>?_,a1,a2⟩
  have:=wO z (show 0<=t k-t b by grind)
  grind
 have bl:∀T f,nC t w β (k+1) k b T f->∀i,F<=i->i<k+1->f<=w i-T*t i+β:=λT f n i u A=>by
  by_cases e:b<=i
  ·exact n.2 i e A
  ·obtain ⟨D,G,H⟩:=p T f n
   have d:=hr i b 0#r 0#r
   have o:=h.below S f0 hF0 i u 0#r
   have:=wO (MW D) (show 0<=t b-t i by grind)
   grind
 refine ⟨iy h.le hb1,bl,λT f n i j u A h3 x v B E=>?_⟩
 by_cases e:j=k
 ·subst e
  exact PZ (hr i j A 0#r) (B j 0#r) (bl T f n i u 0#r) (n.1 j (d8 _) 0#r) E
 ·obtain ⟨D,G,H⟩:=p T f n
  refine h.Yo S f0 hF0 i j u A 0#r x v (λm hm=>B m 0#r) ?_
  have dx:=B k 0#r
  have:=wO (MW D) (show 0<=x-t k by grind)
  grind
def P9 (hr:∀i j,i<j->j<k+1->t i<t j) (h:zB t w β k fl ro F) (hF0:nC t w β k fl ro S f0) (ek:S*t k+f0<=w k+β)  (h1:F<=i) (h2:i<j) (h3:j<k):w j*(t k-t i)-w i*(t k-t j)-w k*(t j-t i)<=2*β*(t k-t i):=-by
 have:=h.Yo S f0 hF0 i j h1 h2 h3 (t k) (w k+β) (λm n=>hr m k n 0#r) ek
 grind
inductive Gr (E:Nat->Nat->Prop):Nat->Nat->Nat->Prop where
 | nil:Gr E 0 0 0
 | no {k F n:Nat} (h:Gr E k F n) (he:¬E F k):Gr E (k+1) F n
 | yes {k F n:Nat} (h:Gr E k F n) (he:E F k):Gr E (k+1) k (n+1)
def Gr.uniq (h:Gr E k F n):∀{F' n':Nat},Gr E k F' n'->F=F'/\n=n':=by
 induction h with
 | nil=>intro F' n' p;cases p;exact ⟨rfl,rfl⟩
 | no h he ih=>
   intro F' n' p
   cases p with
   | no h2 Tc=>exact ih h2
   | yes h2 Tc=>
     obtain ⟨rfl,rfl⟩:=ih h2
     exact absurd Tc he
 | yes h he ih=>
   intro F' n' p
   cases p with
   | no h2 Tc=>
     obtain ⟨rfl,rfl⟩:=ih h2
     exact absurd he Tc
   | yes h2 Tc=>exact ⟨rfl,by rw [(ih h2).2]⟩
def Hig (es:0#f) (β:Rat) (F k:Nat):Prop:=∃i j,F<=i/\i<j/\j<k/\2*β<sd es i j k
def M9 (es:0#f) (β:Rat) (F k:Nat):Prop:=∃i j,F<=i/\i<j/\j<k/\sd es i j k < -(2*β)
def Fj (hr:rising es)  (h1:i<j) (h2:j<k) (h3:k<es.length):sd es i j k*((mo es k:Rat)-(mo es i:Rat))=wo es j*((mo es k:Rat)-(mo es i:Rat))-wo es i*((mo es k:Rat)-(mo es j:Rat))-wo es k*((mo es j:Rat)-(mo es i:Rat)):=-by
 have d:=iE hr (xH h1 h2) h3
 unfold sd cS
 generalize hD:(mo es k:Rat)-(mo es i:Rat)=D at *
 have:D≠0:=by grind
 grind
def xQ.line (h:xQ ss fl ro β g s) (fX:0<=β) (h0:0<ss.length):∃L,zA ss β ss.length fl ro L:=-by
 cases hg:g with
 | some G=>
   obtain ⟨v,z⟩:=h.VL hg
   obtain ⟨q,p,a1,a2,a3,a4,e⟩:=id v.2
   have A:=(JD h.Dj a2 a4).mp e
   refine ⟨(G,cB ss G q+β),λi n u=>?_,λi n u=>?_⟩
   ·have:=Nc (a:=q) (b:=i) (by grind) h.Dj v.1 z a1 n 0#r u
    show cB ss G i-β<=cB ss G q+β
    grind
   ·have:=Nc (a:=i) (b:=p) (by grind) h.Dj v.1 z n a3 u a4
    show cB ss G q+β<=cB ss G i+β
    grind
 | none=>
   cases hs:s with
   | some S=>
     obtain ⟨v,z⟩:=h.Zr hs
     obtain ⟨q,p,a1,a2,a3,a4,e⟩:=id v.2
     have A:=(Ec h.Dj a2 a4).mp e
     refine ⟨(S,cB ss S q-β),λi n u=>?_,λi n u=>?_⟩
     ·have:=Nc (a:=p) (b:=i) (by grind) h.Dj z v.1 a3 n a4 u
      show cB ss S i-β<=cB ss S q-β
      grind
     ·have:=Nc (a:=i) (b:=q) (by grind) h.Dj z v.1 n a1 u 0#r
      show cB ss S q-β<=cB ss S i+β
      grind
   | none=>
     have h2:=h.two.mpr ⟨hg,hs⟩
     refine ⟨(0,wo ss 0),λi n u=>?_,λi n u=>?_⟩
     ·obtain rfl:i=0:=by simp?
      show cB ss 0 0-β<=wo ss 0
      unfold cB
      grind
     ·obtain rfl:i=0:=by simp?
      show wo ss 0<=cB ss 0 0+β
      unfold cB
      grind
def ux (c:Bool):List (Bool×Nat×Nat×Nat)->Nat:=λts=>(ts.filter (λz=>z.1==c)).getLast?.elim 0 (·.2.2.2)
def cnt (c:Bool) (ts:List (Bool×Nat×Nat×Nat)):Nat:=(ts.filter (λz=>z.1==c)).length
def oM:ux c (ts++[(c,a,b,k)])=k/\cnt c (ts++[(c,a,b,k)])=cnt c ts+1:=-by
 unfold ux cnt
 rw [Ie]
 simp
def mj (h:d≠c):ux c (ts++[(d,a,b,k)])=ux c ts/\cnt c (ts++[(d,a,b,k)])=cnt c ts:=-by
 unfold ux cnt
 rw [Ie]
 have:(d==c)=false:=by simpa using h
 simp [this]
def TN (ts:List (Bool×Nat×Nat×Nat)):cnt true ts+cnt false ts=ts.length:=-by
 unfold cnt
 induction ts with
 | nil=>rfl
 | cons z r ih=>
   obtain ⟨c,z⟩:=z
   cases c with
   | true=>
     rw [HV (by rfl),Mr 0#t]
     simp only [BO]
     simp?
   | false=>
     rw [Mr 0#t,HV (by rfl)]
     simp only [BO]
     simp?
def zP (h:zA es β k fl ro L):nC (λi=>(mo es i:Rat)) (wo es) β k fl ro L.1 L.2:=⟨λi a b=>h.1 i a b,λi a b=>h.2 i a b⟩
def vA (h:zA es β k fl ro L):nC (λi=>(mo es i:Rat)) (λi=>- wo es i) β k ro fl (-L.1) (-L.2):=
 ⟨λi a b=>by
  have:=h.2 i a b
  unfold cB at this
  grind,λi a b=>by
  have:=h.1 i a b
  unfold cB at this
  grind⟩
def Tr.most (hr:rising es) (fX:0<=β)  (h:Tr es β k fl ro ks ts) :
 zB (λi=>(mo es i:Rat)) (wo es) β k fl ro (ux true ts)/\zB (λi=>(mo es i:Rat)) (λi=>- wo es i) β k ro fl (ux false ts)/\Gr (Hig es β) k (ux true ts) (cnt true ts)/\Gr (M9 es β) k (ux false ts) (cnt false ts):=-by
 have u:∀{k:Nat},k<es.length->∀i j,i<j->j<k+1->(λi=>(mo es i:Rat)) i<(λi=>(mo es i:Rat)) j:=λn i j R E=>vd.mpr (gh hr R 0#r)
 have VX:∀{k fl ro F:Nat} {T f:Rat},k<es.length->zB (λi=>(mo es i:Rat)) (wo es) β k fl ro F->nC (λi=>(mo es i:Rat)) (wo es) β k fl ro T f->T*(mo es k:Rat)+f<=wo es k+β->¬Hig es β F k:=λ{k fl ro F T f} n hI A ek ⟨i,j,R,E,I,h4⟩=>by
  have:=P9 (u n) hI A ek R E I
  have e:=Fj hr E I n
  have m:=Ld h4 (iE hr (xH E I) n)
  grind
 have VY:∀{k fl ro F:Nat} {T f:Rat},k<es.length->zB (λi=>(mo es i:Rat)) (λi=>- wo es i) β k ro fl F->nC (λi=>(mo es i:Rat)) (λi=>- wo es i) β k ro fl T f->T*(mo es k:Rat)+f<=- wo es k+β->¬M9 es β F k:=λ{k fl ro F T f} n hI A ek ⟨i,j,R,E,I,h4⟩=>by
  have:=P9 (u n) hI A ek R E I
  have e:=Fj hr E I n
  have m:=Ld h4 (iE hr (xH E I) n)
  grind
 have aes:∀{k i a b:Nat},k<=es.length->i<k->a<k->b<k->sd (es.take k) i a b=sd es i a b:=λn hi ha p=>by
  unfold sd
  rw [oO hi,yZ hi,oO ha,yZ ha,oO p,yZ p]
 induction h with
 | nil=>exact ⟨abb,abb,.nil,.nil⟩
 | @stay k fl ro ls ts g s g' s' h n hP hP' hN ih=>
   obtain ⟨J,M,O,Q⟩:=ih
   have Y:(es.take k).length=k:=by rw [yw];simp?
   have Z:(es.take (k+1)).length=k+1:=by rw [yw];simp?
   have D:=hP.hfl
   have yH:=hP.yH
   rw [Y] at D yH
   obtain ⟨L,hL⟩:=hP'.line fX (by rw [Z];simp?)
   rw [Z] at hL
   have B:zA es β (k+1) fl ro L:=⟨λi a b=>by have:=hL.1 i a b;rw [fE b] at this;exact this,λi a b=>by have:=hL.2 i a b;rw [fE b] at this;exact this⟩
   have U:zA es β k fl ro L:=⟨λi a b=>B.1 i a 0#r,λi a b=>B.2 i a 0#r⟩
   have u1:=B.1 k D 0#r
   have u2:=B.2 k yH 0#r
   unfold cB at u1 u2
   refine ⟨Hg (u n) D yH J,Hg (u n) yH D M,.no O ?_,.no Q ?_⟩
   ·exact VX n J (zP U) (by grind)
   ·exact VY n M (vA U) (by grind)
 | @cap k fl ro a b ls ts s G f h n hP hC ih=>
   obtain ⟨J,M,O,Q⟩:=ih
   have Y:(es.take k).length=k:=by rw [yw];simp?
   have p:=hC.lb
   have v:=hC.hab
   rw [Y] at p
   have A:=hC.Jb (tR n)
   have H:=hC.eb
   rw [fE p] at H
   obtain ⟨i,j1,j2,ej⟩:=hC.off
   have lj:=hC.lo i j1 j2
   obtain ⟨x,gx⟩:∃x,es[k]?=some x:=⟨es[k],lW n⟩
   have low:f<wo es k-G*(mo es k:Rat)-β->False:=λz=>by grind
   have up:wo es k-G*(mo es k:Rat)+β<f:=by grind
   rw [(oM).1,(oM).2,(mj 0#s).1,(mj 0#s).2]
   have N:2*β<sd es a b k:=by
    refine abV (T:=G) (f:=f) hr v p n ?_ H ?_
    ·have:=hC.ea
     rw [fE 0#r] at this
     exact this
    ·unfold cB
     grind
   refine ⟨LN,?_,.yes O ⟨a,b,iy J.le hC.ha,v,p,N⟩,.no Q ?_⟩
   ·refine LO (S:=-G) (f0:=-f) (u n) M (vA A) hC.hb p ?_ ?_
    ·unfold cB at H
     grind
    ·grind
   ·exact VY n M (vA A) (by show -G*(mo es k:Rat)+-f<=- wo es k+β;grind)
 | @cup k fl ro a b ls ts g S f h n hP hn hC ih=>
   obtain ⟨J,M,O,Q⟩:=ih
   have Y:(es.take k).length=k:=by rw [yw];simp?
   have p:=hC.lb
   have v:=hC.hab
   rw [Y] at p
   have A:=hC.Jb (tR n)
   have H:=hC.eb
   rw [fE p] at H
   obtain ⟨i,j1,j2,ej⟩:=hC.off
   have lj:=hC.hi i j1 j2
   have up:f<wo es k-S*(mo es k:Rat)-β:=by grind
   rw [(oM).1,(oM).2,(mj 0#s).1,(mj 0#s).2]
   have N:sd es a b k < -(2*β):=by
    refine abW (T:=S) (f:=f) hr v p n ?_ H ?_
    ·have:=hC.ea
     rw [fE 0#r] at this
     exact this
    ·unfold cB
     grind
   refine ⟨?_,LN,.no O ?_,.yes Q ⟨a,b,iy M.le hC.ha,v,p,N⟩⟩
   ·refine LO (S:=S) (f0:=f) (u n) J (zP A) hC.hb p ?_ ?_
    ·unfold cB at H
     grind
    ·grind
   ·exact VX n J (zP A) (by show S*(mo es k:Rat)+f<=wo es k+β;grind)
def dw (hc:decide (a=b)=c) (q:Q (.bl c) H):rEq (.str a) (.str b) H Q:=⟨rfl,by
 rw [show decide (V.str a=V.str b)=c from hc▸BQ.mpr ⟨λh=>V.str.inj h,λh=>congrArg V.str h⟩]
 exact q⟩
inductive Wy
 | ap | jo | sp | ch
noncomputable def F5:Wy->Str
 | .ap => "apart"
 | .jo => "joined"
 | .sp => "spans"
 | .ch => "chain"
inductive yY (C:af) (vs:List V) (H:Hp) (Q:VK) (E_:XK):Prop where
 | mk (l pb:af) (wy:Wy):vs=[.ref l,.str (F5 wy),.ref pb]->(wy=.ap->yS [.ref l,.ref pb] H Q E0)->(wy=.jo->uU C [.ref l,.ref pb] H Q E0)->(wy=.sp->qL false [.ref l,.ref pb] H Q E0)->(wy=.ch->qL true [.ref l,.ref pb] H Q E0)->yY C vs H Q E_
def KD:dB 3 [bE,"way",aL] wu:=0#p
def JU (F:dS K "told_by" wu f fd) (DN:0#c 9 "apart" [bE,aL] yS) (zo:0#c 9 "joined" [bE,aL] (uU aq)) (DS:0#c 8 "spans" [bE,aL] (qL false)) (DO:0#c 8 "chain" [bE,aL] (qL true)):0#b 10 f fd [bE,"way",aL] (yY aq):=-by
 refine F.dm KD 0#a
 obtain ⟨l,pb,B,rfl,n,p,v,z⟩:=h
 apply bx ⟨_,(ao (bU (bC cX 0#C gU (aD _)) (aF (aS (bA DN hr 0#w (aa 2)))) bY) (ao (bU (bC cX 0#C gU (aD _)) (aF (aS (bA zo hr 0#w (aa 2)))) bY) (ao (bU (bC cX 0#C gU (aD _)) (aF (aS (bA DS hr 0#w (aa 2)))) bY) (aF (aS (bA DO hr 0#w (aa 2))))))),?_⟩
 cases B with
 | ap=>
   refine dw (c:=true) 0#u ?_
   refine ⟨_,rfl,?_⟩
   apply bO ?_
   exact n rfl
 | jo=>
   refine dw (c:=false) 0#u ?_
   refine ⟨_,rfl,?_⟩
   apply bF ?_
   refine dw (c:=true) 0#u ?_
   refine ⟨_,rfl,?_⟩
   apply bO ?_
   exact p rfl
 | sp=>
   refine dw (c:=false) 0#u ?_
   refine ⟨_,rfl,?_⟩
   apply bF ?_
   refine dw (c:=false) 0#u ?_
   refine ⟨_,rfl,?_⟩
   apply bF ?_
   refine dw (c:=true) 0#u ?_
   refine ⟨_,rfl,?_⟩
   apply bO ?_
   exact v rfl
 | ch=>
   refine dw (c:=false) 0#u ?_
   refine ⟨_,rfl,?_⟩
   apply bF ?_
   refine dw (c:=false) 0#u ?_
   refine ⟨_,rfl,?_⟩
   apply bF ?_
   refine dw (c:=false) 0#u ?_
   refine ⟨_,rfl,?_⟩
   apply bF ?_
   exact z rfl
def BL (h:j<m-n):wo (piece es n m) j=wo es (n+j):=by unfold wo;rw [vV h]
def HN (hi:i<m-n) (hj:j<m-n) (hk:k<m-n):sd (piece es n m) i j k=sd es (n+i) (n+j) (n+k):=-by
 unfold sd
 rw [uC hi,uC hj,uC hk,BL hi,BL hj,BL hk]
def Rc (h:es.map (·.2)=es'.map (·.2)) (i j k:Nat):sd es i j k=sd es' i j k:=-by
 unfold sd
 rw [(nQ h i).1,(nQ h i).2,(nQ h j).1,(nQ h j).2,(nQ h k).1,(nQ h k).2]
def Gr.on (h:Gr E k F n):∀d,(∀k',k<=k'->k'<k+d->¬E F k')->Gr E (k+d) F n
 | 0,_=>h
 | d+1,u=>.no (Gr.on h d λk' a b=>u k' a 0#r) (u (k+d) 0#r 0#r)
def Pin (es:0#f) (β:Rat) (F k:Nat):Prop:=∃i j,F<=i/\i<j/\j<k/\2*β<cG (sd es i j k)
def Cut.pin (hr:rising es) (fX:0<=β) (h1:1<=es.length) (h:Cut es (2*β) qs es.length):∃F v:Nat,Gr (Pin es β) es.length F v/\(qs.length:Int)=1+v:=-by
 obtain ⟨pos,I,J,R⟩:=h
 have N:0<=2*β:=by grind
 have U:∀n m,rising (piece es n m):=λn m=>hr.sublist ((ME _ _).trans (MG _ _))
 have H:∀n m,m<=es.length->(Gq (piece es n m) (2*β)↔∀i j k,n<=i->i<j->j<k->k<m->cG (sd es i j k)<=2*β):=λn m Q=>by
  rw [sF (U n m) N,rB Q]
  constructor
  ·intro z i j k a b c d
   have:=z (i-n) (j-n) (k-n) 0#r 0#r 0#r
   rw [HN 0#r 0#r 0#r,show n+(i-n)=i by simp?,show n+(j-n)=j by simp?,show n+(k-n)=k by simp?] at this
   exact this
  ·intro z i j k a b c
   rw [HN 0#r 0#r 0#r]
   exact z _ _ _ 0#r 0#r 0#r 0#r
 have p:∀i,i<qs.length->pos i<pos (i+1)/\pos (i+1)<=es.length/\(∀k,k<pos (i+1)->¬Pin es β (pos i) k)/\(pos (i+1)<es.length->Pin es β (pos i) (pos (i+1))):=λi u=>by
  obtain ⟨a,b,c,d,e⟩:=R i _ (lW u)
  rw [c,H _ _ b] at d
  refine ⟨a,b,λk O ⟨x,y,A,B,D,L⟩=>absurd (d x y k A B D O) (oz.mpr L),λG=>?_⟩
  have:=e G
  rw [H _ _ 0#r] at this
  refine S5 λS=>this λx y k A B D L=>iI.mp λz=>?_
  by_cases ek:k=pos (i+1)
  ·subst ek
   exact S ⟨x,y,A,B,D,z⟩
  ·exact absurd (d x y k A B D 0#r) (oz.mpr z)
 have h0:0<qs.length:=Nat.pos_of_ne_zero λz=>by rw [z,I] at J;simp?
 have all:∀i,i<qs.length->Gr (Pin es β) (pos (i+1)) (pos i) i:=by
  intro i
  induction i with
  | zero=>
    intro u
    obtain ⟨a,b,c,d⟩:=p 0 u
    rw [I] at c ⊢
    have:=Gr.on (E:=Pin es β) .nil (pos (0+1)) λk' _ z=>c k' 0#r
    rw [Nat.zero_add] at this
    exact this
  | succ i ih=>
    intro u
    obtain ⟨a,b,c,d⟩:=p (i+1) u
    obtain ⟨a',b',c',M⟩:=p i 0#r
    have g:=Gr.yes (ih 0#r) (M 0#r)
    have:=g.on (pos (i+1+1)-(pos (i+1)+1)) λk' _ z=>c k' 0#r
    rw [show pos (i+1)+1+(pos (i+1+1)-(pos (i+1)+1))=pos (i+1+1) by simp?] at this
    exact this
 have:=all (qs.length-1) 0#r
 rw [show qs.length-1+1=qs.length by simp?,J] at this
 exact ⟨_,_,this,by simp?⟩
def Oh (h1:1<=es.length) (h:Told es β aT l) (hf:xR (lu es β aT) (es.length+cL aT) t):(l.length:Int)=max 1 (t (es.length+cL aT-1)):=-by
 obtain ⟨v,ps,n,A,rfl⟩:=h
 have e:=T3 hf n (es.length+cL aT-1) 0#r
 rw [iR,e]
 have u:∀{L:Nat->Nat->Prop} {p:Nat} {ps:List (Nat×Nat)},Way L v p ps->(ps.length:Int)=v p:=λ{L p ps} h=>by
  induction h with
  | nil=>rw [n.first];rfl
  | @cons a p ps f w ih=>
    rw [gA,IE]
    have:=f.2.2.1
    simp?
 have hl:=u A
 by_cases z:es.length+cL aT=1
 ·rw [if_pos z,z,SM,n.first]
  rfl
 ·rw [if_neg z]
  have pos:∀{L:Nat->Nat->Prop} {p:Nat} {ps:List (Nat×Nat)},Way L v p ps->0<p->1<=ps.length:=λ{L p ps} h hp=>by
   cases h with
   | nil=>simp?
   | cons f w=>rw [gA,IE];simp?
  have:=pos A 0#r
  simp?
def RT (aT:Bool) (β:Rat) (es:0#f) (d:Int):Prop:=∃t,xR (lu es β aT) (es.length+cL aT) t/\d=max 1 (t (es.length+cL aT-1))
def RC (wy:Wy) (β:Rat) (es:0#f) (d:Int):Prop:=match wy with
 | .ap=>∃F v:Nat,Gr (Pin es β) es.length F v/\d=1+v
 | .jo=>∃F F' u v:Nat,Gr (Hig es β) es.length F u/\Gr (M9 es β) es.length F' v/\d=1+u+v
 | .sp=>RT false β es d
 | .ch=>RT true β es d
def Zo {es es':0#f} (h:es.map (·.2)=es'.map (·.2)):es.length=es'.length:=by simpa using congrArg pL h
inductive zH (R:List En->Int->Prop):List (List En)->Int->Prop
 | nil:zH R [] 0
 | cons {r:0#f} {rs:List (List En)} {c d:Int}:R r c->zH R rs d->zH R (r::rs) (c+d)
def N2 {α:Type} {s:α->Bool} {as:List α} (h:∀x∈as,s x=true) (h0:as≠[]):parts s as as.length=[as]:=-by
 have all:∀i,i+1<=as.length->parts s as (i+1)=[as.take (i+1)]:=by
  intro i
  induction i with
  | zero=>
    intro v
    obtain ⟨x,n⟩:∃x,as[0]?=some x:=⟨_,lW 0#r⟩
    rw [vS n (h x (nk n)) rfl,Iv,n]
    rfl
  | succ i ih=>
    intro v
    obtain ⟨x,n⟩:∃x,as[i+1]?=some x:=⟨_,lW 0#r⟩
    obtain ⟨y,u⟩:∃y,as[i]?=some y:=⟨_,lW 0#r⟩
    have p:eU s as (i+1)=true:=by rw [Ai u];exact h y (nk u)
    rw [HF n (h x (nk n)) p (t:=[]) (r:=as.take (i+1)) (by rw [ih 0#r];rfl),Iv (i:=i+1),n]
    rfl
 have:0<as.length:=Dy.mpr h0
 have:=all (as.length-1) 0#r
 rw [show as.length-1+1=as.length by simp?,pP] at this
 exact this
def fT (vs:List Rat):List (Int×Option Rat):=(fN vs.length).map λi:Nat=>((i:Int),vs[i]?)
def sV {es:0#f} {vs:List Rat} (h:es.map (·.2)=fT vs) {i:Nat} {q:Rat} (hi:vs[i]?=some q):∃a,es[i]?=some (a,(i:Int),some q):=-by
 have n:=(kM.mp hi).1
 have e:(es.map (·.2))[i]?=some ((i:Int),some q):=by
  rw [h]
  unfold fT
  rw [lZ,CS n,MP,hi]
 rw [lZ] at e
 obtain ⟨x,p,u⟩:=ID.mp e
 exact ⟨x.1,by rw [p,<- u]⟩
def mz {es:0#f} {vs:List Rat} (h:es.map (·.2)=fT vs):es.length=vs.length:=-by
 have:=congrArg pL h
 unfold fT at this
 simpa using this
def oX {es:0#f} {vs:List Rat} (h:es.map (·.2)=fT vs):rising es:=-by
 refine Wj.mpr λi j u v hij=>?_
 have hl:=mz h
 obtain ⟨a,n⟩:=sV h (lW (show i<vs.length by simp?))
 obtain ⟨b,p⟩:=sV h (lW (show j<vs.length by simp?))
 rw [lW u] at n
 rw [lW v] at p
 rw [tO n,tO p]
 show (i:Int)<(j:Int)
 simp?
def Mb {es:0#f} {vs:List Rat} (h:es.map (·.2)=fT vs):jN es:=λx hx=>by
 obtain ⟨i,hi⟩:=WE.mp hx
 have hl:=(kM.mp hi).1
 rw [mz h] at hl
 obtain ⟨a,ha⟩:=sV h (lW hl)
 cases hi.symm.trans ha
 rfl
def Bm {es:0#f} {vs:List Rat} (h:es.map (·.2)=fT vs) {i j k:Nat} {a b c x y z:Rat} (hi:vs[i]?=some a) (hj:vs[j]?=some b) (hk:vs[k]?=some c) (h1:i<j) (h2:j<k) (ex:((i:Int):Rat)=x) (ey:((j:Int):Rat)=y) (ez:((k:Int):Rat)=z):sd es i j k*(z-x)=b*(z-x)-a*(z-y)-c*(y-x):=-by
 obtain ⟨a',v⟩:=sV h hi
 obtain ⟨b',A⟩:=sV h hj
 obtain ⟨c',n⟩:=sV h hk
 have B:=(kM.mp n).1
 have m:∀{p:Nat} {u:af} {q:Rat},es[p]?=some (u,(p:Int),some q)->mo es p=(p:Int)/\wo es p=q:=λg=>by
  unfold mo wo
  rw [g]
  exact ⟨rfl,rfl⟩
 have:=Fj (oX h) h1 h2 B
 rw [(m v).1,(m v).2,(m A).1,(m A).2,(m n).1,(m n).2,ex,ey,ez] at this
 exact this
def sg (e x:Rat):Int:=if cG x<=e then 0 else if 0<x then 1 else -1
def Ob {e x:Rat}:sg e x=0↔cG x<=e:=-by
 unfold sg
 split
 ·exact ⟨λ_=>by assumption,λ_=>rfl⟩
 ·split <;> exact ⟨λz=>absurd z 0#s,λz=>absurd z (by assumption)⟩
def abX {e x:Rat} (he:0<=e):sg e x=1↔e<x:=-by
 unfold sg cG
 grind
def abY {e x:Rat} (he:0<=e):sg e x=-1↔x < -e:=-by
 unfold sg cG
 grind
def d9 (wy:Wy) (β:Rat):Rat:=match wy with
 | .ap=>2*β
 | .jo=>2*β
 | .sp=>β
 | .ch=>β
def Gh (wy:Wy) (a b c d:Int):Int:=match wy with
 | .ap=>if a=0/\b=0/\c=0/\d=0 then 1 else 2
 | .jo=>1+(if a=1\/b=1\/c=1\/d=1 then 1 else 0)+(if a=-1\/b=-1\/c=-1\/d=-1 then 1 else 0)
 | .sp=>if b=0/\c=0 then 1 else 2
 | .ch=>if b=0/\c=0 then 1 else if a=0\/d=0 then 2 else 3
def cW (wy:Wy) (e:Rat) (es:0#f):Int:=if es.length=3 then (if sg e (sd es 0 1 2)=0 then 1 else 2) else Gh wy (sg e (sd es 0 1 2)) (sg e (sd es 0 1 3)) (sg e (sd es 0 2 3)) (sg e (sd es 1 2 3))
def ex2 {p:Nat->Nat->Nat->Prop}:(∃i j,0<=i/\i<j/\j<2/\p i j 2)↔p 0 1 2:=-by
 constructor
 ·rintro ⟨i,j,_,h1,h2,h⟩
  obtain rfl:j=1:=by simp?
  obtain rfl:i=0:=by simp?
  exact h
 ·exact λh=>⟨0,1,by decide,by decide,by decide,h⟩
def ex3 {p:Nat->Nat->Nat->Prop}:(∃i j,0<=i/\i<j/\j<3/\p i j 3)↔p 0 1 3\/p 0 2 3\/p 1 2 3:=-by
 constructor
 ·rintro ⟨i,j,_,h1,h2,h⟩
  rcases (show (i=0/\j=1)\/(i=0/\j=2)\/(i=1/\j=2) by simp?) with ⟨rfl,rfl⟩ | ⟨rfl,rfl⟩ | ⟨rfl,rfl⟩
  ·exact .inl h
  ·exact .inr (.inl h)
  ·exact .inr (.inr h)
 ·rintro (h | h | h)
  ·exact ⟨0,1,by decide,by decide,by decide,h⟩
  ·exact ⟨0,2,by decide,by decide,by decide,h⟩
  ·exact ⟨1,2,by decide,by decide,by decide,h⟩
def YV {E:Nat->Nat->Prop} (hE:∀F k,E F k->F+2<=k) {F v:Nat}:(Gr E 3 F v->(E 0 2->v=1)/\(¬E 0 2->v=0))/\(Gr E 4 F v->(E 0 2\/E 0 3->v=1)/\(¬E 0 2->¬E 0 3->v=0)):=-by
 have n:Gr E 2 0 0:=.no (.no .nil λz=>absurd (hE _ _ z) 0#s) λz=>absurd (hE _ _ z) 0#s
 refine ⟨λh=>⟨λa=>(h.uniq (.yes n a)).2,λa=>(h.uniq (.no n a)).2⟩,λh=>?_⟩
 by_cases a:E 0 2
 ·have:=(h.uniq (.no (.yes n a) λz=>absurd (hE _ _ z) 0#s)).2
  exact ⟨λ_=>this,λz=>absurd a z⟩
 ·by_cases b:E 0 3
  ·have:=(h.uniq (.yes (.no n a) b)).2
   exact ⟨λ_=>this,λ_ z=>absurd b z⟩
  ·have:=(h.uniq (.no (.no n a) b)).2
   exact ⟨λz=>z.elim (λz=>absurd z a) λz=>absurd z b,λ_ _=>this⟩
def adX {es:0#f} {β:Rat}:(∀F k,Pin es β F k->F+2<=k)/\(Pin es β 0 2↔sg (2*β) (sd es 0 1 2)≠0)/\(Pin es β 0 3↔sg (2*β) (sd es 0 1 3)≠0\/sg (2*β) (sd es 0 2 3)≠0\/sg (2*β) (sd es 1 2 3)≠0):=-by
 have n:∀x:Rat,sg (2*β) x≠0↔2*β<cG x:=λx=>by rw [Ne,Ob,oz]
 rw [n,n,n,n]
 exact ⟨λF k ⟨i,j,a,b,c,_⟩=>by simp?,ex2 (p:=λi j k=>2*β<cG (sd es i j k)),ex3 (p:=λi j k=>2*β<cG (sd es i j k))⟩
def adq {es:0#f} {β:Rat} (fX:0<=β):(∀F k,Hig es β F k->F+2<=k)/\(Hig es β 0 2↔sg (2*β) (sd es 0 1 2)=1)/\(Hig es β 0 3↔sg (2*β) (sd es 0 1 3)=1\/sg (2*β) (sd es 0 2 3)=1\/sg (2*β) (sd es 1 2 3)=1):=-by
 have n:∀x:Rat,sg (2*β) x=1↔2*β<x:=λx=>abX (by grind)
 rw [n,n,n,n]
 exact ⟨λF k ⟨i,j,a,b,c,_⟩=>by simp?,ex2 (p:=λi j k=>2*β<sd es i j k),ex3 (p:=λi j k=>2*β<sd es i j k)⟩
def adN {es:0#f} {β:Rat} (fX:0<=β):(∀F k,M9 es β F k->F+2<=k)/\(M9 es β 0 2↔sg (2*β) (sd es 0 1 2)=-1)/\(M9 es β 0 3↔sg (2*β) (sd es 0 1 3)=-1\/sg (2*β) (sd es 0 2 3)=-1\/sg (2*β) (sd es 1 2 3)=-1):=-by
 have n:∀x:Rat,sg (2*β) x=-1↔x < -(2*β):=λx=>abY (by grind)
 rw [n,n,n,n]
 exact ⟨λF k ⟨i,j,a,b,c,_⟩=>by simp?,ex2 (p:=λi j k=>sd es i j k < -(2*β)),ex3 (p:=λi j k=>sd es i j k < -(2*β))⟩
def VJ {es:0#f} {β:Rat}:(∀i,Good es β i i/\Good es β i (i+1))/\(∀i,Good es β i (i+2)↔sg β (sd es i (i+1) (i+2))=0)/\(Good es β 0 3↔sg β (sd es 0 1 3)=0/\sg β (sd es 0 2 3)=0):=-by
 refine ⟨λi=>⟨λk a b=>by simp?,λk a b=>by simp?⟩,λi=>?_,?_⟩
 ·rw [Ob]
  refine ⟨λg=>g (i+1) 0#r 0#r,λg k a b=>?_⟩
  obtain rfl:k=i+1:=by simp?
  exact g
 ·rw [Ob,Ob]
  refine ⟨λg=>⟨g 1 0#s 0#s,g 2 0#s 0#s⟩,λg k a b=>?_⟩
  rcases (show k=1\/k=2 by simp?) with rfl | rfl
  ·exact g.1
  ·exact g.2
def V9 (e x:Rat):sg e x=0\/sg e x=1\/sg e x=-1:=-by
 unfold sg
 split
 ·exact .inl rfl
 ·split
  ·exact .inr (.inl rfl)
  ·exact .inr (.inr rfl)
def Z5 {es:0#f} {β:Rat} {wy:Wy} {d:Int} (C6:es.length=3\/es.length=4) (fX:0<=β) (h:RC wy β es d):d=cW wy (d9 wy β) es:=-by
 have o:=V9 (d9 wy β)
 cases wy with
 | ap=>
   obtain ⟨F,v,g,rfl⟩:=h
   obtain ⟨H,A,I⟩:=adX (es:=es) (β:=β)
   obtain ⟨J,M⟩:=YV H (F:=F) (v:=v)
   show 1+(v:Int)=cW .ap (2*β) es
   unfold cW Gh
   rcases C6 with z | z
   ·rw [z] at g ⊢
    have:=J g
    rw [A] at this
    rw [if_pos rfl]
    split <;> grind
   ·rw [z] at g ⊢
    have:=M g
    rw [A,I] at this
    rw [if_neg 0#s]
    dsimp only
    split <;> grind
 | jo=>
   obtain ⟨F,S,u,v,g,B,rfl⟩:=h
   obtain ⟨H,A,I⟩:=adq (es:=es) fX
   obtain ⟨Z,R,r3⟩:=adN (es:=es) fX
   obtain ⟨J,M⟩:=YV H (F:=F) (v:=u)
   obtain ⟨s3,s4⟩:=YV Z (F:=S) (v:=v)
   show 1+(u:Int)+(v:Int)=cW .jo (2*β) es
   have Q:=o (sd es 0 1 2)
   unfold cW Gh
   rcases C6 with z | z
   ·rw [z] at g B ⊢
    have a:=J g
    have b:=s3 B
    rw [A] at a
    rw [R] at b
    rw [if_pos rfl]
    change sg (2*β) (sd es 0 1 2)=0\/sg (2*β) (sd es 0 1 2)=1\/sg (2*β) (sd es 0 1 2)=-1 at Q
    rcases Q with e | e | e <;> rw [e] at a b ⊢ <;> simp at a b ⊢ <;> simp?
   ·rw [z] at g B ⊢
    have a:=M g
    have b:=s4 B
    rw [A,I] at a
    rw [R,r3] at b
    rw [if_neg 0#s]
    dsimp only
    split <;> split <;> grind
 | sp=>
   obtain ⟨t,n,rfl⟩:=h
   obtain ⟨p,D,Y⟩:=VJ (es:=es) (β:=β)
   have L:∀i j,i<j->j<es.length+1->(lu es β false i j↔Good es β i (j-1)):=λi j a b=>vF (aT:=false) a b
   have t0:=n.first
   have t1:t 1=1:=by
    obtain ⟨i,a,b,c⟩:=n.ex 1 0#s (by show 1<es.length+1;simp?)
    obtain rfl:i=0:=by simp?
    simp?
   have N:t 2=1:=by
    have:=n.le 0 2 0#s (by show 2<es.length+1;simp?) ((L 0 2 0#s 0#r).mpr (p 0).2)
    obtain ⟨i,a,b,c⟩:=n.ex 2 0#s (by show 2<es.length+1;simp?)
    rcases (show i=0\/i=1 by simp?) with rfl | rfl <;> simp?
   have O:t 3=if sg β (sd es 0 1 2)=0 then 1 else 2:=by
    have a1:=n.le 1 3 0#s (by show 3<es.length+1;simp?) ((L 1 3 0#s 0#r).mpr (p 1).2)
    have E:=λz=>n.le 0 3 0#s (by show 3<es.length+1;simp?) ((L 0 3 0#s 0#r).mpr z)
    obtain ⟨i,a,b,c⟩:=n.ex 3 0#s (by show 3<es.length+1;simp?)
    have G:=(L i 3 a 0#r).mp b
    have U:=D 0
    rcases (show i=0\/i=1\/i=2 by simp?) with rfl | rfl | rfl <;> split <;> grind
   show max 1 (t (es.length+1-1))=cW .sp β es
   unfold cW Gh
   rcases C6 with z | z
   ·rw [z,if_pos rfl,O]
    split <;> rfl
   ·rw [z,if_neg 0#s]
    have a2:=n.le 2 4 0#s (by show 4<es.length+1;simp?) ((L 2 4 0#s 0#r).mpr (p 2).2)
    have E:=λz=>n.le 0 4 0#s (by show 4<es.length+1;simp?) ((L 0 4 0#s 0#r).mpr z)
    obtain ⟨i,a,b,c⟩:=n.ex 4 0#s (by show 4<es.length+1;simp?)
    have G:=(L i 4 a 0#r).mp b
    have t3':1<=t 3:=by rw [O];split <;> decide
    clear O
    show max 1 (t 4)=_
    dsimp only
    rcases (show i=0\/i=1\/i=2\/i=3 by simp?) with rfl | rfl | rfl | rfl <;> split <;> grind
 | ch=>
   obtain ⟨t,n,rfl⟩:=h
   obtain ⟨p,D,Y⟩:=VJ (es:=es) (β:=β)
   have L:∀i j,i<j->j<es.length->(lu es β true i j↔Good es β i j):=λi j a b=>vF (aT:=true) a b
   have t0:=n.first
   have t1:t 1=1:=by
    obtain ⟨i,a,b,c⟩:=n.ex 1 0#s (by show 1<es.length+0;simp?)
    obtain rfl:i=0:=by simp?
    simp?
   have N:t 2=if sg β (sd es 0 1 2)=0 then 1 else 2:=by
    have a1:=n.le 1 2 0#s (by show 2<es.length+0;simp?) ((L 1 2 0#s 0#r).mpr (p 1).2)
    have E:=λz=>n.le 0 2 0#s (by show 2<es.length+0;simp?) ((L 0 2 0#s 0#r).mpr z)
    obtain ⟨i,a,b,c⟩:=n.ex 2 0#s (by show 2<es.length+0;simp?)
    have G:=(L i 2 a 0#r).mp b
    have U:=D 0
    rcases (show i=0\/i=1 by simp?) with rfl | rfl <;> split <;> grind
   show max 1 (t (es.length+0-1))=cW .ch β es
   unfold cW Gh
   rcases C6 with z | z
   ·rw [z,if_pos rfl]
    show max 1 (t 2)=_
    rw [N]
    split <;> rfl
   ·rw [z,if_neg 0#s]
    have a2:=n.le 2 3 0#s (by show 3<es.length+0;simp?) ((L 2 3 0#s 0#r).mpr (p 2).2)
    have a1:=λz=>n.le 1 3 0#s (by show 3<es.length+0;simp?) ((L 1 3 0#s 0#r).mpr z)
    have E:=λz=>n.le 0 3 0#s (by show 3<es.length+0;simp?) ((L 0 3 0#s 0#r).mpr z)
    obtain ⟨i,a,b,c⟩:=n.ex 3 0#s (by show 3<es.length+0;simp?)
    have G:=(L i 3 a 0#r).mp b
    have e1:=D 1
    show max 1 (t 3)=_
    dsimp only
    rcases (show i=0\/i=1\/i=2 by simp?) with rfl | rfl | rfl <;> split <;> (try split) <;> (try split at N) <;> grind
noncomputable def LU (q:Int×Int):Bool:=decide (1<=q.2)&&decide (bT q.1 q.2=1)
inductive KP (vs:List V) (H:Hp) (Q:VK) (E_:XK):Prop where
 | mk (p:af) (a b:Int):vs=[.ref p]->H p=some (.tup [.int a,.int b])->Sz 8990 a->Sz 8990 b->(∀H',ah H H'->Q (.bl (LU (a,b))) H')->KP vs H Q E_
def Bd:dB 1 ["pair"] mZ:=0#p
def As (F:dS K "is_fraction" mZ f fd) (gF:X0 P w K mg base):0#b 3 f fd ["pair"] KP:=-by
 refine F.dm Bd 0#a
 obtain ⟨p,a,b,rfl,hp,v,z,k⟩:=h
 apply bx ⟨_,(aF (aS (Jd.lC (gR HE (aB K 0#w) aA (aD _)) (Jd.oR (gR cX (bA gF hr (aB K 0#w) (aB K 0#w)) aA (aD _)))))),?_⟩
 unfold LU at k
 refine c7 (λc=>?_) (λc=>?_)
 ·rw [dY (dF c)] at k
  rw?
  apply ⟨a,b,rfl,v,z,λn u=>?_⟩
  have:=k n u
  rw [Bool.true_and] at this
  have e:decide (((bT a b:Nat):Int)=1)=decide (bT a b=1):=BQ.mpr 0#q
  rw [e]
  exact this
 ·rw [g9 (kh (ki.mpr c))] at k
  exact k H (ah.refl _)
def Rr (fX:0<=β):∀{rs:List (List En)} {zs:List (List (List En)×List af×List af)},(∀r∈rs,rising r/\1<=r.length)->vg H β N rs zs->zH (RC .ap β) rs ((om zs).length:Int)
 | [],[],_,_=>.nil
 | r::rs,z::zs,hr,h=>by
   obtain ⟨a,b⟩:=hr r (BN ..)
   have ih:=Rr fX (rs:=rs) (zs:=zs) (λx hx=>hr x (CQ _ hx)) h.2
   obtain ⟨F,v,g,e⟩:=h.1.cut.pin a fX b
   have:=zH.cons (R:=RC .ap β) (r:=r) ⟨F,v,g,e⟩ ih
   rw [show ((om (z::zs)).length:Int)=(z.1.length:Int)+((om zs).length:Int) by unfold om;rw [List.flatMap_cons,gA,h.1.lp];simp?]
   exact this
 | [],_::_,_,h=>h.elim
 | _::_,[],_,h=>h.elim
def Rt (fX:0<=β):∀{rs:List (List En)} {zs:List (List Pc×List Tt)},(∀r∈rs,rising r/\1<=r.length)->qb (M8 H β N) rs zs->zH (RC .jo β) rs ((mV zs).length:Int)
 | [],[],_,_=>.nil
 | r::rs,z::zs,hr,h=>by
   obtain ⟨a,b⟩:=hr r (BN ..)
   have ih:=Rt fX (rs:=rs) (zs:=zs) (λx hx=>hr x (CQ _ hx)) h.2
   obtain ⟨_,_,ks,L,fl,ro,g,s,Pn,_,_,hps⟩:=h.1
   have hl:z.1.length=ks.length+1:=by simpa using congrArg pL hps
   obtain ⟨l1,_⟩:=Pn.len
   obtain ⟨_,_,g1,g2⟩:=Pn.most a fX
   have ca:=TN (z.2.map (·.2))
   have:=zH.cons (R:=RC .jo β) (r:=r) ⟨_,_,_,_,g1,g2,rfl⟩ ih
   rw [show ((mV (z::zs)).length:Int)=1+(cnt true (z.2.map (·.2)):Int)+(cnt false (z.2.map (·.2)):Int)+((mV zs).length:Int) by
    rw [show (mV (z::zs)).length=z.1.length+(mV zs).length by simp [mV]]
    simp?]
   exact this
 | [],_::_,_,h=>h.elim
 | _::_,[],_,h=>h.elim
def Ru:∀{rs:List (List En)} {qs:List (List (Rat×Rat×Rat×Rat))},(∀r∈rs,rising r/\1<=r.length)->qb (λr l=>Told r β aT l) rs qs->zH (RT aT β) rs (qs.flatten.length:Int)
 | [],[],_,_=>.nil
 | r::rs,z::zs,hr,h=>by
   obtain ⟨a,b⟩:=hr r (BN ..)
   have ih:=Ru (rs:=rs) (qs:=zs) (λx hx=>hr x (CQ _ hx)) h.2
   obtain ⟨t,ps,hf,_⟩:=id h.1
   have:=zH.cons (R:=RT aT β) (r:=r) ⟨t,hf,Oh b h.1 hf⟩ ih
   rw [Ih,gA,show ((z.length+zs.flatten.length:Nat):Int)=(z.length:Int)+(zs.flatten.length:Int) by simp?]
   exact this
 | [],_::_,_,h=>h.elim
 | _::_,[],_,h=>h.elim
def VW (h:es[i]?=some x):mo es i=x.2.1:=by unfold mo;rw [h];rfl
def abp (h:Qt t b q) (hq:0<=q):0<=t:=-by
 have n:(0:Rat)<=(b:Rat):=by have:=cast_pos (b:=b) (by have:=h.pos;simp?);grind
 have:((0:Int):Rat)<=(t:Rat):=by rw [h.eq];exact DG hq n
 exact Ou.mp this
def O9 (h:Fr t b q):LU (t,b)=true:=-by
 unfold LU
 rw [dY (show (1:Int)<=b by have:=h.pos;simp?),dY h.co]
 rfl
inductive BF (vs:List V) (H:Hp) (Q:VK) (E_:XK):Prop where
 | mk (l:af) (es:0#f) (n i:Nat):vs=[.ref l,.int (i:Int)]->H l=some 0#D->Row H es n->rising es->i<es.length->es.length<=40->n<=8990->(∀H',ah H H'->Q (.bl false) H')->BF vs H Q E_
inductive tL (vs:List V) (H:Hp) (Q:VK) (E_:XK):Prop where
 | mk (l:af) (es:0#f) (n:Nat):vs=[.ref l]->H l=some 0#D->Row H es n->rising es->es.length<=40->n<=8990->(∀(R:af) (H':Hp),ah H H'->H R=none->H' R=some 0#D->Q (.ref R) H')->tL vs H Q E_
inductive K0 (vs:List V) (H:Hp) (Q:VK) (E_:XK):Prop where
 | mk (wy:Wy):vs=[.str (F5 wy)]->Q .bG H->K0 vs H Q E_
inductive Fz (vs:List V) (H:Hp) (Q:VK) (E_:XK):Prop where
 | mk (p:af) (t b:Int):vs=[.ref p]->H p=some (.tup [.int t,.int b])->0<=t->Q .bG H->Fz vs H Q E_
def RK {C l pb:af} {es:0#f} {qs:List Rat} {β:Rat} {wy:Wy} {H:Hp} {Q:VK} (hl:H l=some 0#D) (hR:Row H es 224) (hq:es.map (·.2)=fT qs) (C6:qs.length=3\/qs.length=4) (fb:bP H pb β 221) (fX:0<=β) (k:∀(y X Z:af) (xs:0#m) (H':Hp),ah H H'->H' y=some (.tup [.ref X,.ref Z])->H' X=some (.lst xs)->(xs.length:Int)=cW wy (d9 wy β) es->Q (.ref y) H'):yY C [.ref l,.str (F5 wy),.ref pb] H Q E0:=-by
 have u:=oX hq
 have R:=Mb hq
 have hlen:=mz hq
 have G:1<=es.length:=by simp?
 have O:es.length<=4:=by simp?
 have E:parts jL es es.length=[es]:=N2 R λz=>by rw [z] at G;exact absurd G 0#s
 have v:∀r∈parts jL es es.length,rising r/\1<=r.length:=λr A=>by
  rw [E] at A
  rw [Ic.mp A]
  exact ⟨u,G⟩
 have one:∀{c:Int},zH (RC wy β) (parts jL es es.length) c->c=cW wy (d9 wy β) es:=λ{c} h=>by
  rw [E] at h
  cases h with
  | cons a b=>cases b;rw [Int.add_zero];exact Z5 0#r fX a
 have L:∀(B:Bool),(∀(y X Z:af) (xs:0#m) (H':Hp),ah H H'->H' y=some (.tup [.ref X,.ref Z])->H' X=some (.lst xs)->zH (RT B β) (parts jL es es.length) (xs.length:Int)->Q (.ref y) H')->qL B [.ref l,.ref pb] H Q E0:=λB k=>by
  refine ⟨l,pb,rfl,l,pb,es,224,221,β,B,rfl,hl,hR,u,by simp?,by rw [E];exact (show 1<=33 by decide),λr A=>by rw [E] at A;rw [Ic.mp A];simp?,fb.qt,by decide,by decide,by decide,λy X Z ps H' s p J n hP aev S=>k y X Z _ H' s p n ?_⟩
  obtain ⟨qss,e1,e2⟩:=S
  rw [pP] at e1
  have:=Ru v e1
  rw [<- e2,iR] at this
  rw [show (lD ps).length=ps.length by unfold lD;rw [iR]]
  exact this
 refine ⟨l,pb,wy,rfl,λe=>?_,λe=>?_,λe=>?_,λe=>?_⟩
 ·subst e
  refine ⟨l,pb,es,β,224,221,rfl,hl,hR,u,O,fb.qt,fX,by decide,by decide,by decide,λy X Z Y H' s p J U M n N I=>k y X Z _ H' s p n ?_⟩
  rw [iR]
  exact one (Rr fX v I)
 ·subst e
  exact ⟨l,pb,es,β,224,221,rfl,hl,hR,u,by simp?,fb,fX,by decide,by decide,by decide,by decide,λy X Z Y H' s p J U M n N I=>k y X Z _ H' s p n (one (Rt fX v I))⟩
 ·subst e
  exact L false λy X Z xs H' s p n h=>k y X Z xs H' s p n (one h)
 ·subst e
  exact L true λy X Z xs H' s p n h=>k y X Z xs H' s p n (one h)
inductive KO (vs:List V) (H:Hp) (Q:VK) (E_:XK):Prop where
 | mk (l pb:af) (es:0#f) (qs:List Rat) (β:Rat) (wy:Wy):vs=[.ref l,.str (F5 wy),.ref pb]->H l=some 0#D->Row H es 224->es.map (·.2)=fT qs->(qs.length=3\/qs.length=4)->bP H pb β 221->0<=β->(∀(y X Z:af) (xs:0#m) (H':Hp),ah H H'->H' y=some (.tup [.ref X,.ref Z])->H' X=some (.lst xs)->(xs.length:Int)=cW wy (d9 wy β) es->Q (.ref y) H')->KO vs H Q E_
inductive FI (vs:List V) (H:Hp) (Q:VK) (E_:XK):Prop where
 | mk (l pb:af) (es:0#f) (qs:List Rat) (β:Rat) (wy:Wy):vs=[.ref l,.str (F5 wy),.ref pb]->H l=some 0#D->Row H es 224->es.map (·.2)=fT qs->(qs.length=3\/qs.length=4)->bP H pb β 221->0<=β->(∀(H':Hp),ah H H'->Q (.int (cW wy (d9 wy β) es)) H')->FI vs H Q E_
def xu:dB 2 [bE,"place","value"] sX:=0#p
def Hv (F:dS K "is_wrong" sX f fd) (T:Txt mg) (IJ:Cn mg "MOST" 40) (mP:0#c 3 "is_fraction" ["pair"] KP):0#b 4 f fd [bE,"place"] BF:=-by
 refine F.dm xu 0#a
 obtain ⟨l,es,n,i,rfl,G,L,fW,M,Cf,N,k⟩:=h
 obtain ⟨x,D⟩:∃x,es[i]?=some x:=⟨_,lW M⟩
 obtain ⟨v,ev,hv,O⟩:=(L x (nk D)).obj
 refine bx (Jd.cut 2 (λR S=>R=[some (.ref l),some (.int (i:Int)),none]/\S=H) ?_ λu hu B=>?_)
 ·refine ⟨_,(ao (aM 2 xu.nd (aB K (bV (iQ K) 0#w 0#C 0#z))) (aF (aS (Jd.lC (gR kG (aa 2) gK (aD _)) (Jd.oR (Jd.J2 (Jd.c1 mP hr (aa 2)))))))),?_⟩
  rintro R U ⟨rfl,rfl⟩
  rw?
  apply dM G (b8 D rfl) ?_
  apply ⟨rfl,?_⟩
  rcases O with rfl | ⟨p,q,rfl,O,t,b,Z,fr,zt,zb⟩
  ·refine bF ?_
   exact k U (ah.refl _)
  ·apply bO ?_
   refine ⟨p,t,b,rfl,Z,zt.mono N,zb.mono N,λY s2=>?_⟩
   rw [O9 fr]
   rw?
   exact k Y s2
 apply ⟨_,(ao (bU (bC HE 0#C (Jd.De rfl IJ) (aD _)) (aF (aS mh)) bY) (ao (bU (jg (Jd.lF (bC fF 0#C aA (aD _)) (uv (bC LY (aB K (bV (iQ K) 0#w 0#C 0#z)) (aB K (bV (iQ K) 0#w (aI cF 0#C aA) 0#z)) (aD _))))) (aF (aS mh)) bY) hu)),?_⟩
 rw [g9 (show ¬(i:Int)>=40 by simp?)]
 apply bF ?_
 refine c7 (λc=>?_) (λc=>?_)
 ·have c:(i:Int)>0:=dF c
  obtain ⟨y,J⟩:∃y,es[i-1]?=some y:=⟨_,lW 0#r⟩
  obtain ⟨v',ev',_⟩:=(L y (nk J)).obj
  have I:=gh fW (show i-1<i by simp?) M
  rw [VW D,VW J] at I
  rw?
  apply dM G (b8 D rfl) ?_
  apply dM G (b8 J 0#r) ?_
  rw [g9 (show ¬x.2.1<=y.2.1 by simp?)]
  apply bF ?_
  exact B _ _ ⟨rfl,rfl⟩
 ·rw?
  apply bF ?_
  exact B _ _ ⟨rfl,rfl⟩
def Bc:dB 1 [bE,"place"] vY:=0#p
def JN (F:dS K "checked" vY f fd) (T:Txt mg) (sr:0#c 4 "is_wrong" [bE,"place"] BF):0#b 5 f fd [bE] tL:=-by
 refine F.dm Bc 0#a
 obtain ⟨l,es,n,rfl,B,L,J,I,M,k⟩:=h
 apply bx ⟨_,(ao (gQ jd rfl (Jd.iM rfl T.range (c9 (ju K T.jv 0#w))) (c8 (i:=1) Bc.nd rfl (Or.inl rfl)) (aF (bU (iW (bA sr hr 0#w 0#C)) (aF Jd.lE) bY))) (aF (aS (uw kE rfl T.Hj HW (c9 0#w))))),?_⟩
 apply iZ (AO ?_)
 refine dN (.inl (bw.of B)) ?_
 rw [aP]
 rw?
 refine ⟨_,rfl,by simp?,by simp?,iK (λi D u=>ah H u/\∃v:Option V,D=[some (.ref l),v]) ⟨ah.refl _,none,rfl⟩ ?_ ?_⟩
 ·rintro i D u z ⟨p,v,rfl⟩
  have z:i<es.length:=by simpa using z
  rw [show (0:Int)+(i:Int)=(i:Int) by simp?]
  rw?
  apply ⟨l,es,n,i,rfl,p _ _ B,L.up p,J,z,I,M,λH4 N=>?_⟩
  apply bF ?_
  exact ⟨p.trans N,_,rfl⟩
 ·rintro D u ⟨p,v,rfl⟩
  rw?
  refine ⟨l,_,rfl,.inl (bw.of (p _ _ B)),λR G=>?_⟩
  exact k R _ (p.trans (iu G _)) (p.free G) au
def Fe:dB 1 ["way"] qx:=0#p
def Et (F:dS K "check_way" qx f fd) (IV:mg "WAYS"=some (.ref zQ)) (hw:∀H,ny K H zQ [.str "apart",.str "joined",.str "spans",.str "chain"]):0#b 1 f fd ["way"] K0:=-by
 refine F.dm Fe 0#a
 obtain ⟨n,rfl,k⟩:=h
 apply bx ⟨_,(aF (bU (bC (An K) 0#w (Jd.abm rfl IV) rfl) (aF Jd.lE) bY)),?_⟩
 refine ⟨zQ,_,rfl,.inr (hw H),rfl,by decide,?_⟩
 have e:Te (.str (F5 n)) [V.str "apart",.str "joined",.str "spans",.str "chain"]=true:=by cases n <;> decide +kernel
 rw [e]
 rw?
 apply bF ?_
 exact k
def Bb:dB 1 [aL] mX:=0#p
def Aq (F:dS K "check_bound" mX f fd):0#b 1 f fd [aL] Fz:=-by
 refine F.dm Bb 0#a
 obtain ⟨p,t,b,rfl,hp,h0,k⟩:=h
 apply bx ⟨_,(aF (bU (bC qo (aB K 0#w) aA (aD _)) (aF Jd.lE) bY)),?_⟩
 rw [g9 (show ¬t<0 by simp?)]
 apply bF ?_
 exact k
def N7:dB 3 [bE,"way",aL] AX:=0#p
def NV {P:fP} {w:dh} {K:bJ} {mg:0#h} {base:cA} {f aq:af} {fd:fU} (F:dS K "fewest" AX f fd) (pT:0#c 1 "check_way" ["way"] K0) (mL:0#c 1 "check_bound" [aL] Fz) (vn:0#c 5 "checked" [bE] tL) (vt:0#c 10 "told_by" [bE,"way",aL] (yY aq)):0#b 11 f fd [bE,"way",aL] KO:=-by
 refine F.dm N7 0#a
 obtain ⟨l,Y,es,qs,β,wy,rfl,O,z,p,D,B,v,k⟩:=h
 have n:=B
 obtain ⟨t,b,L,N,zt,zb⟩:=B
 have U:0<=t:=abp N.qt v
 have hlen:=mz p
 apply bx ⟨_,(ao (gc (Jd.c1 pT hr 0#C) (hs:=fH)) (ao (gc (Jd.c1 mL hr (aa 2)) (hs:=fH)) (aF (aS (Jd.c3 vt hr (Jd.c1 vn hr 0#w) 0#C (aa 2)))))),?_⟩
 apply ⟨wy,rfl,?_⟩
 apply ⟨Y,t,b,rfl,L,U,?_⟩
 apply ⟨l,es,224,rfl,O,z,oX p,by simp?,by decide,λR H1 u nR I=>?_⟩
 exact RK I (z.up u) p D (n.up u) v λy X Z xs G s2 M J S=>k y X Z xs G (u.trans s2) M J S
def Va:dB 3 [bE,"way",aL] Ks:=0#p
def UJ {P:fP} {w:dh} {K:bJ} {mg:0#h} {base:cA} {f:af} {fd:fU} (F:dS K "many" Ks f fd) (T:Txt mg) (zk:0#c 11 "fewest" [bE,"way",aL] KO):0#b 12 f fd [bE,"way",aL] FI:=-by
 refine F.dm Va 0#a
 obtain ⟨l,J,es,L,O,N,rfl,D,z,I,n,B,v,k⟩:=h
 apply bx ⟨_,(aF (aS (ju K T.jv (aB K (Jd.c3 zk hr 0#w 0#C (aa 2)))))),?_⟩
 apply ⟨l,J,es,L,O,N,rfl,D,z,I,n,B,v,λy X Z xs p M ey u G=>?_⟩
 refine dN (.inl (bw.of u)) ?_
 rw [G]
 exact k p M
def qd (H:Hp) (p:af) (wy:Wy) (β:Rat):Prop:=∃pb:af,H p=some (.tup [.str ("fewest":Str),.str (F5 wy),.ref pb])/\bP H pb β 221
def qd.up {H H':Hp} {p:af} {wy:Wy} {β:Rat} (h:qd H p wy β) (s:ah H H'):qd H' p wy β:=let ⟨pb,e,f⟩:=h;⟨pb,s _ _ e,f.up s⟩
def lX (r:Rat):List (List Rat):=[[0,r,0],[0,r+r+1,0,r+r+1],[0,r,-r,0],[0,1,1,0]]
structure Rws (H:Hp) (L:af) (rs:List (af×List En)) (ts:List (List Rat)):Prop where
 at_:H L=some (.lst (rs.map λx=>V.ref x.1))
 each:∀x∈rs,H x.1=some (.lst (vals x.2))/\Row H x.2 224
 eq:rs.map (λx=>x.2.map (·.2))=ts.map fT
def Rws.up {H H':Hp} {L:af} {rs:List (af×List En)} {ts:List (List Rat)} (h:Rws H L rs ts) (s:ah H H'):Rws H' L rs ts:=⟨s _ _ h.at_,λx hx=>⟨s _ _ (h.each x hx).1,(h.each x hx).2.up s⟩,h.eq⟩
def bP.re {H:Hp} {p:af} {q:Rat} {n M:Nat} {D X:Int} (f:bP H p q n) (hD:1<=D) (e:q*(D:Rat)=(X:Rat)) (zD:Sz M D) (zX:Sz M X):bP H p q M:=-by
 obtain ⟨t,b,A,g,_,_⟩:=f
 have hb:=g.pos
 have e1:t*D=X*b:=by
  have:((t*D:Int):Rat)=((X*b:Int):Rat):=by
   rw [ni,ni,g.eq,<- e]
   grind
  exact DE.mp this
 have I:b∣D:=by
  have E:b∣t*D:=⟨X,by rw [e1];exact qQ _ _⟩
  have u:XJ b.natAbs t.natAbs:=by rw [Nat.coprime_comm];exact g.co
  have B:b.natAbs∣t.natAbs*D.natAbs:=by rw [<- DF];exact Mt.mpr E
  exact Mt.mp (u.dvd_of_dvd_mul_left B)
 obtain ⟨c,v⟩:=I
 have hc1:1<=c:=by
  rcases MU c 1 with z | z
  ·have:b*c<=0:=Wg 0#q 0#q
   try?
  ·exact z
 have G:X=t*c:=by
  have:X*b=(t*c)*b:=by rw [<- e1,v];grind
  exact Wi 0#q this
 refine ⟨t,b,A,g,zX.of_le ?_,zD.of_le ?_⟩
 ·rw [G,DF]
  exact RV _ 0#q
 ·rw [v,DF]
  exact RV _ 0#q
def Rw {n:Nat} {t:Int} (h:Sz n t):Sz (n+1) (t+t):=h.add h
def Vi:Sp:=λ_ _ _ _=>False
inductive FN (vs:List V) (H:Hp) (Q:VK) (E_:XK):Prop where
 | mk (p:af) (wy:Wy) (β:Rat):vs=[.ref p]->qd H p wy β->(∀(r:af) (H':Hp),ah H H'->bP H' r (d9 wy β) 222->Q (.ref r) H')->FN vs H Q E_
inductive FO (vs:List V) (H:Hp) (Q:VK) (E_:XK):Prop where
 | mk (l:af) (qs:Qs):vs=[.ref l]->H l=some (.lst (cK qs))->(∀x∈qs,bP H x.1 x.2 224)->qs.length<=4->(∀(R:af) (es:0#f) (H':Hp),ah H H'->H' R=some 0#D->Row H' es 224->es.map (·.2)=fT (qs.map (·.2))->Q (.ref R) H')->FO vs H Q E_
inductive FU (vs:List V) (H:Hp) (Q:VK) (E_:XK):Prop where
 | mk (p p':af) (wy cZ:Wy) (β β':Rat):vs=[.ref p,.ref p']->qd H p wy β->qd H p' cZ β'->(∀(L:af) (rs:List (af×List En)) (r:Rat) (H':Hp),ah H H'->Rws H' L rs (lX r)->d9 wy β<=r->d9 cZ β'<=r->(r=d9 wy β\/r=d9 cZ β')->Q (.ref L) H')->FU vs H Q E_
inductive uS (vs:List V) (H:Hp) (Q:VK) (E_:XK):Prop where
 | mk (p l:af) (es:0#f) (qs:List Rat) (β:Rat) (wy:Wy):vs=[.ref p,.ref l]->qd H p wy β->H l=some 0#D->Row H es 224->es.map (·.2)=fT qs->(qs.length=3\/qs.length=4)->0<=β->(∀(H':Hp),ah H H'->Q (.int (cW wy (d9 wy β) es)) H')->uS vs H Q E_
inductive wJ (vs:List V) (H:Hp) (Q:VK) (E_:XK):Prop where
 | mk (p p':af) (wy cZ:Wy) (β β':Rat):vs=[.ref p,.ref p']->qd H p wy β->qd H p' cZ β'->0<=β->0<=β'->(∀(r:Rat),d9 wy β<=r->d9 cZ β'<=r->(r=d9 wy β\/r=d9 cZ β') ->
   (∀H',ah H H'->(∀qs es,qs∈lX r->es.map (·.2)=fT qs->cW wy (d9 wy β) es=cW cZ (d9 cZ β') es)->Q .bG H') /\
   ∀(R:af) (i:Nat) (qs:List Rat) (es:0#f) (H':Hp),ah H H'->H' R=some 0#D->Row H' es 224->(lX r)[i]?=some qs->es.map (·.2)=fT qs->(∀j us fs,j<i->(lX r)[j]?=some us->fs.map (·.2)=fT us->cW wy (d9 wy β) fs=cW cZ (d9 cZ β') fs)->cW wy (d9 wy β) es≠cW cZ (d9 cZ β') es->Q (.ref R) H')->wJ vs H Q E_
def yR {es fs:0#f} (h:es.map (·.2)=fs.map (·.2)) (i j k:Nat):sd es i j k=sd fs i j k:=Rc h i j k
def GC {es fs:0#f} {wy:Wy} {e:Rat} (h:es.map (·.2)=fs.map (·.2)):cW wy e es=cW wy e fs:=-by
 unfold cW
 rw [Zo h,yR h,yR h,yR h,yR h]
def Mh {r:Rat} {qs:List Rat} (h:qs∈lX r):qs.length=3\/qs.length=4:=-by
 simp only [lX,jG,B7,r6] at h
 rcases h with rfl | rfl | rfl | rfl
 ·exact .inl rfl
 all_goals exact .inr rfl
def ZY {a b:Str} {H:Hp} {Q:VK} {c:Bool} (hc:decide (a=b)=c) (q:Q (.bl (!c)) H):rNe (.str a) (.str b) H Q:=⟨rfl,by
 rw [show decide (V.str a=V.str b)=c from hc▸BQ.mpr ⟨λh=>V.str.inj h,λh=>congrArg V.str h⟩]
 exact q⟩
def Q5:dB 3 [bE,"way","most","held",cI] E2:=0#p
def Qh {P:fP} {w:dh} {K:bJ} {mg:0#h} {base:cA} {f:af} {fd:fU} (F:dS K "least" E2 f fd):0#b 12 f fd [bE,"way","most"] Vi:=F.ok Q5 (λ_ _ _ _ h=>h.elim) (λ_ _ _ _ _ _ _ _ _ h=>h.elim)
def uP:dB 2 [eu,az,aQ] jz:=0#p
def uF {P:fP} {w:dh} {K:bJ} {mg:0#h} {base:cA} {f:af} {fd:fU} (F:dS K "rows_for_least" jz f fd):0#b 12 f fd [eu,az] Vi:=F.ok uP (λ_ _ _ _ h=>h.elim) (λ_ _ _ _ _ _ _ _ _ h=>h.elim)
inductive KY (vs:List V) (H:Hp) (Q:VK) (E_:XK):Prop where
 | mk (p:af) (q:Rat) (n:Nat):vs=[.ref p]->bP H p q n->(∀(r:af) (H':Hp),ah H H'->bP H' r (-q) n->Q (.ref r) H')->KY vs H Q E_
def EC {P:fP} {w:dh} {K:bJ} {mg:0#h} {base:cA} {f:af} {fd:fU} (F:dS K "opposite" o7 f fd):0#b 1 f fd [aG] KY:=-by
 refine F.dm xw 0#a
 obtain ⟨p,q,n,rfl,⟨a,b,hp,v,D,G⟩,k⟩:=h
 apply bx ⟨_,(aF (aS (bu (br (jh fM (aB K 0#w)) (aB K 0#w))))),?_⟩
 refine aC (mk:=.tup) 0#t λz u B n1 e1=>?_
 exact k z u B ⟨_,_,e1,v.neg,by unfold Sz at *;rw [xE];exact D,G⟩
def Q7:dB 1 [eu] E6:=0#p
def Ql {P:fP} {w:dh} {K:bJ} {mg:0#h} {base:cA} {f:af} {fd:fU} (F:dS K "reach" E6 f fd) (gX:0#c 5 "plus" [aG,az] (kg (·+·) 1)):0#b 6 f fd [eu] FN:=-by
 refine F.dm Q7 0#a
 obtain ⟨p,L,n,rfl,⟨z,hp,fb⟩,k⟩:=h
 have two:∀{B:VK},(∀(r:af) (v:Hp),ah H v->bP v r (2*n) 222->B (.ref r) v)->kg (·+·) 1 [.ref z,.ref z] H B E0:=λ{B} J=>by
  refine ⟨z,z,n,n,221,221,rfl,fb.qt,fb.qt,by decide,λr v s f=>J r v s ?_⟩
  obtain ⟨t,b,e,g,N,M⟩:=fb
  have I:bP v r (2*n) (221+221+1):=by
   have G:n+n=2*n:=by grind
   rw [<- G]
   exact f
  refine I.re (D:=b) (X:=t+t) (by have:=g.pos;simp?) ?_ (M.mono 0#s) (Rw N)
  have:=g.eq
  rw [Ip,this]
  grind
 apply bx ⟨_,(ao (bU (jg (nK (bC cX (aB K 0#w) gU (aD _)) (Jd.lG (bC cX (aB K 0#w) gU (aD _))))) (aF (aS (bA gX hr (aB K 0#w) (aB K 0#w)))) bY) (aF (aS (aB K 0#w)))),?_⟩
 cases L with
 | ap=>
   apply dw (c:=true) 0#u ?_
   apply bO ?_
   apply bO ?_
   exact two k
 | jo=>
   apply dw (c:=false) 0#u ?_
   apply bF ?_
   apply dw (c:=true) 0#u ?_
   apply bO ?_
   exact two k
 | sp=>
   apply dw (c:=false) 0#u ?_
   apply bF ?_
   apply dw (c:=false) 0#u ?_
   apply bF ?_
   exact k z H (ah.refl _) (fb.mono 0#s)
 | ch=>
   apply dw (c:=false) 0#u ?_
   apply bF ?_
   apply dw (c:=false) 0#u ?_
   apply bF ?_
   exact k z H (ah.refl _) (fb.mono 0#s)
def N9:dB 1 ["values"] Ba:=0#p
def NY {P:fP} {w:dh} {K:bJ} {mg:0#h} {base:cA} {f:af} {fd:fU} (F:dS K "row_of" Ba f fd) (T:Txt mg):0#b 1 f fd ["values"] FO:=-by
 refine F.dm N9 0#a
 obtain ⟨l,S,rfl,Z,hq,h4,k⟩:=h
 apply bx ⟨_,(aF (aS (pG (O:=["moment","value"]) (N':=[]) (cap:=[]) rfl (Jd.yL K rfl T.zO (c9 0#w)) (λ_ _ _ _ _=>(Jd.UW K (n:=2) rfl (lz (c8 (i:=0) (show jR [("moment":Str),("value":Str)] by decide +kernel) rfl (Or.inl rfl)) (lz (c8 (i:=1) (show jR [("moment":Str),("value":Str)] by decide +kernel) rfl (Or.inl rfl)) Jd.kH)))) (λ_ _ _ _ _=>ly) (λ_ _ _ _ _=>(bu (eN 0#w (eN 0#C fZ bH) bH))) rfl trivial rfl 0#u rfl 0#u))),?_⟩
 apply QU ?_
 refine ⟨l,_,rfl,bw.of Z,?_⟩
 refine IX (xs:=cK S) (λJ B=>bw.of (B _ _ Z)) (by unfold cK;rw [iR];simp?) (λi Y G=>∃es:List En,Y=vals es/\Row G es 224/\es.map (·.2)=(fT (S.map (·.2))).take i) ⟨[],rfl,λ_ h=>(B7 h).elim,rfl⟩ ?_ ?_
 ·rintro D i x Y J H4 pp jT N N0 h0 hD L B U ep hx hy ⟨es,rfl,M,R⟩ kY kN
  obtain ⟨y,p,rfl⟩:=AL hx
  have hi:=(kM.mp p).1
  have fy:=(hq y (nk p)).up (B.trans U)
  apply AN h0 ep ?_
  apply bO ?_
  refine aC (mk:=.tup) 0#t λz H5 I n5 e5=>?_
  have v:=(U.trans I) _ _ L
  refine kY _ H5 I ⟨es++[(z,(i:Int),some y.2)],by rw [<- fK],?_,?_⟩
  ·refine (M.up (rV (U.trans I))).snoc ?_
   refine ⟨?_,y.1,eK v e5,?_⟩
   ·show Sz 224 (i:Int)
    refine Sz.of_lt (k:=4) 0#r 0#s
   ·obtain ⟨t,b,e,r⟩:=fy
    exact ⟨t,b,eK v (I _ _ e),r⟩
  ·have g:(fT (S.map (·.2)))[i]?=some ((i:Int),some y.2):=by
    unfold fT
    rw [iR,lZ,CS hi,MP,lZ,p]
    rfl
   rw [gw,R,qT,g]
   rfl
 ·rintro D Y J hD L B hy ⟨es,rfl,M,R⟩
  refine k D es J B L (M.up gM) ?_
  rw [R]
  unfold fT
  refine RY ?_
  simp [cK]
def iH:dB 2 [eu,az,"far",dz] i6:=0#p
def sO {P:fP} {w:dh} {K:bJ} {mg:0#h} {base:cA} {f:af} {fd:fU} (F:dS K "rows_for_fewest" i6 f fd) (yD:0#c 6 "reach" [eu] FN) (c5:Tj P w K mg base) (gX:0#c 5 "plus" [aG,az] (kg (·+·) 1)) (nA:0#c 1 "row_of" ["values"] FO) (pY:0#c 1 "opposite" [aG] KY):0#b 7 f fd [eu,az] FU:=-by
 refine F.dm iH 0#a
 obtain ⟨p,p',wy,Y,β,B,rfl,h1,h2,k⟩:=h
 have R:∀{G:Hp} {a:af},G a=some (.tup [.int 0,.int 1])->bP G a 0 224:=λe=>⟨0,1,e,Fr.whole 0,by decide,by decide⟩
 have on:∀{G:Hp} {a:af},G a=some (.tup [.int 1,.int 1])->bP G a 1 224:=λe=>⟨1,1,e,Fr.whole 1,by decide,by decide⟩
 apply bx ⟨_,(ao (aM 2 iH.nd (Jd.c1 c5 hr (dU (br (Jd.c1 yD hr 0#w) (Jd.c1 yD hr 0#C))))) (ao (aM 3 iH.nd (bA gX hr (bA gX hr (aa 2) (aa 2)) (bu (br aA aA)))) (aF (aS (dU (Jd.a4 (Jd.c1 nA hr (dU (Jd.a3 (bu (br aA aA)) (aa 2) (bu (br aA aA))))) (Jd.c1 nA hr (dU (Jd.a4 (bu (br aA aA)) (aa 3) (bu (br aA aA)) (aa 3)))) (Jd.c1 nA hr (dU (Jd.a4 (bu (br aA aA)) (aa 2) (Jd.c1 pY hr (aa 2)) (bu (br aA aA))))) (Jd.c1 nA hr (dU (Jd.a4 (bu (br aA aA)) (bu (br aA aA)) (bu (br aA aA)) (bu (br aA aA))))))))))),?_⟩
 apply ⟨p,wy,β,rfl,h1,λa H1 s1 fa=>?_⟩
 apply ⟨p',Y,B,rfl,h2.up s1,λb H2 s2 fb=>?_⟩
 apply aC (mk:=.lst) 0#t λl3 H3 s3 n3 e3=>?_
 refine ⟨l3,[(a,d9 wy β),(b,d9 Y B)],222,rfl,e3,?_,by decide,by simp,λx O pN=>?_⟩
 ·intro x O
  simp only [jG,B7,r6] at O
  rcases O with rfl | rfl
  ·exact (fa.up (s2.trans s3)).qt
  ·exact (fb.up s3).qt
 have fx:bP H3 x.1 x.2 222:=by
  simp only [jG,B7,r6] at O
  rcases O with rfl | rfl
  ·exact fa.up (s2.trans s3)
  ·exact fb.up s3
 have g1:d9 wy β<=x.2:=pN (a,d9 wy β) 0#t
 have g2:d9 Y B<=x.2:=pN (b,d9 Y B) 0#t
 have g3:x.2=d9 wy β\/x.2=d9 Y B:=by
  simp only [jG,B7,r6] at O
  rcases O with rfl | rfl
  ·exact .inl rfl
  ·exact .inr rfl
 obtain ⟨x,r⟩:=x
 dsimp only at *
 clear O pN fa fb
 have pR:=s1.trans (s2.trans s3)
 rw?
 apply ⟨x,x,r,r,222,222,rfl,fx.qt,fx.qt,by decide,λc H4 s4 fc=>?_⟩
 apply aC (mk:=.tup) 0#t λo5 H5 s5 n5 e5=>?_
 refine ⟨c,o5,_,1,_,224,rfl,(fc.up s5).qt,(on e5).qt,by decide,λst H6 s6 fs=>?_⟩
 have ax:bP H6 st (r+r+1) 224:=by
  obtain ⟨t,b,e,g,zt,zb⟩:=fx
  refine bP.re fs (D:=b) (X:=t+t+b) (by have:=g.pos;simp?) ?_ (zb.mono 0#s) ((Rw zt).add (zb.mono 0#s))
  have:=g.eq
  rw [Ip,Ip,this]
  show (r+r+1)*(b:Rat)=_
  grind
 have ae:=s4.trans (s5.trans s6)
 have CH:=pR.trans ae
 have ad:bP H6 x r 224:=(fx.up ae).mono 0#s
 clear fs fc fx
  -- the first row
 rw?
 apply aC (mk:=.tup) 0#t λa1 G1 t1 _ I=>?_
 apply aC (mk:=.tup) 0#t λa2 G2 t2 _ J=>?_
 apply aC (mk:=.lst) 0#t λa3 G3 t3 _ M=>?_
 refine ⟨a3,[(a1,0),(x,r),(a2,0)],rfl,M,?_,by simp,λR0 ap I0 u0 c0 d0 m0=>?_⟩
 ·intro y n
  simp only [jG,B7,r6] at n
  rcases n with rfl | rfl | rfl
  ·exact R ((t2.trans t3) _ _ I)
  ·exact ad.up (t1.trans (t2.trans t3))
  ·exact R (t3 _ _ J)
 have v0:ah H6 I0:=t1.trans (t2.trans (t3.trans u0))
 have ay:=ad.up v0
 have Z:=ax.up v0
 clear I J M
  -- the second row
 rw?
 apply aC (mk:=.tup) 0#t λb1 K1 t4 _ I=>?_
 apply aC (mk:=.tup) 0#t λb2 K2 t5 _ J=>?_
 apply aC (mk:=.lst) 0#t λb3 K3 t6 _ M=>?_
 refine ⟨b3,[(b1,0),(st,r+r+1),(b2,0),(st,r+r+1)],rfl,M,?_,by simp,λR1 ar I1 u1 c1 d1 m1=>?_⟩
 ·intro y n
  simp only [jG,B7,r6] at n
  rcases n with rfl | rfl | rfl | rfl
  ·exact R ((t5.trans t6) _ _ I)
  ·exact Z.up (t4.trans (t5.trans t6))
  ·exact R (t6 _ _ J)
  ·exact Z.up (t4.trans (t5.trans t6))
 have v1:ah I0 I1:=t4.trans (t5.trans (t6.trans u1))
 have ac:=ay.up v1
 clear I J M
  -- the third row
 rw?
 apply aC (mk:=.tup) 0#t λB9 L1 t7 _ I=>?_
 apply ⟨x,r,224,rfl,ac.up t7,λox L2 t8 fo=>?_⟩
 apply aC (mk:=.tup) 0#t λTH L3 t9 _ J=>?_
 apply aC (mk:=.lst) 0#t λai L4 u _ M=>?_
 refine ⟨ai,[(B9,0),(x,r),(ox,-r),(TH,0)],rfl,M,?_,by simp,λR2 as I2 u2 c2 d2 m2=>?_⟩
 ·intro y n
  simp only [jG,B7,r6] at n
  rcases n with rfl | rfl | rfl | rfl
  ·exact R ((t8.trans (t9.trans u)) _ _ I)
  ·exact ac.up (t7.trans (t8.trans (t9.trans u)))
  ·exact fo.up (t9.trans u)
  ·exact R (u _ _ J)
 have v2:ah I1 I2:=t7.trans (t8.trans (t9.trans (u.trans u2)))
 clear I J M fo
  -- the last row
 rw?
 apply aC (mk:=.tup) 0#t λaj M1 F3 _ I=>?_
 apply aC (mk:=.tup) 0#t λak M2 ag _ J=>?_
 apply aC (mk:=.tup) 0#t λal M3 S _ M=>?_
 apply aC (mk:=.tup) 0#t λam M4 N _ f4=>?_
 apply aC (mk:=.lst) 0#t λan M5 z _ f5=>?_
 refine ⟨an,[(aj,0),(ak,1),(al,1),(am,0)],rfl,f5,?_,by simp,λR3 aw I3 u3 c3 d3 m3=>?_⟩
 ·intro y n
  simp only [jG,B7,r6] at n
  rcases n with rfl | rfl | rfl | rfl
  ·exact R ((ag.trans (S.trans (N.trans z))) _ _ I)
  ·exact on ((S.trans (N.trans z)) _ _ J)
  ·exact on ((N.trans z) _ _ M)
  ·exact R (z _ _ f4)
 have v3:ah I2 I3:=F3.trans (ag.trans (S.trans (N.trans (z.trans u3))))
 rw?
 refine aC (mk:=.lst) 0#t λL I4 U n4 e4=>?_
 refine k L [(R0,ap),(R1,ar),(R2,as),(R3,aw)] r I4 (CH.trans (v0.trans (v1.trans (v2.trans (v3.trans U))))) ⟨e4,?_,?_⟩ g1 g2 g3
 ·intro y n
  simp only [jG,B7,r6] at n
  rcases n with rfl | rfl | rfl | rfl
  ·have v:=v1.trans (v2.trans (v3.trans U))
   exact ⟨v _ _ c0,d0.up v⟩
  ·have v:=v2.trans (v3.trans U)
   exact ⟨v _ _ c1,d1.up v⟩
  ·have v:=v3.trans U
   exact ⟨v _ _ c2,d2.up v⟩
  ·exact ⟨U _ _ c3,d3.up U⟩
 ·simp only [xF,MS,m0,m1,m2,m3,lX]
def N6:dB 2 [eu,bE] AW:=0#p
def NU {P:fP} {w:dh} {K:bJ} {mg:0#h} {base:cA} {f:af} {fd:fU} (F:dS K "answer" AW f fd) (IM:0#c 12 "many" [bE,"way",aL] FI) (DQ:0#c 12 "least" [bE,"way","most"] Vi):0#b 13 f fd [eu,bE] uS:=-by
 refine F.dm N6 0#a
 obtain ⟨p,l,es,J,N,M,rfl,⟨I,hp,fb⟩,D,B,G,n,z,k⟩:=h
 apply bx ⟨_,(ao (bU (bC cX (aB K 0#w) gU (aD _)) (aF (aS (Jd.c3 IM hr 0#C (aB K 0#w) (aB K 0#w)))) bY) (aF (aS (aB K (Jd.c3 DQ hr 0#C (aB K 0#w) (aB K 0#w)))))),?_⟩
 apply dw (c:=true) 0#u ?_
 apply bO ?_
 exact ⟨l,I,es,J,N,M,rfl,D,B,G,n,fb,z,λv L=>k v L⟩
def tK:dB 2 [eu,az,"rows",bE] wj:=0#p
def JS {P:fP} {w:dh} {K:bJ} {mg:0#h} {base:cA} {f:af} {fd:fU} (F:dS K "parting" wj f fd) (T:Txt mg) (iU:0#c 7 "rows_for_fewest" [eu,az] FU) (jn:0#c 12 "rows_for_least" [eu,az] Vi) (jO:0#c 13 "answer" [eu,bE] uS):0#b 14 f fd [eu,az] wJ:=-by
 refine F.dm tK 0#a
 obtain ⟨p,p',wy,B,U,z,rfl,h1,h2,fX,Us,k⟩:=h
 obtain ⟨pb,e1,fb⟩:=id h1
 obtain ⟨pb',e1',fb'⟩:=id h2
 apply bx ⟨_,(ao (bU (bC xm (aB K 0#w) (aB K 0#C) (aD _)) (aF Jd.lE) bY) (ao (aM 2 tK.nd (uu (bC cX (aB K 0#w) gU (aD _)) (bA iU hr 0#w 0#C) (bA jn hr 0#w 0#C))) (ao (gQ jd rfl (j0 K (aa 2)) (c8 (i:=3) tK.nd rfl (Or.inl rfl)) (aF (bU (bC xm (bA jO hr 0#w (aa 3)) (bA jO hr 0#C (aa 3)) (aD _)) (aF (aS (aa 3))) bY))) (aF (aS gK))))),?_⟩
 apply ZY (c:=true) 0#u ?_
 apply bF ?_
 apply dw (c:=true) 0#u ?_
 apply bO ?_
 refine ⟨p,p',wy,B,U,z,rfl,h1,h2,λL rs r H2 s2 N g1 g2 g3=>?_⟩
 obtain ⟨k1,k2⟩:=k r g1 g2 g3
 have R:rs.length=(lX r).length:=by simpa using congrArg pL N.eq
 rw?
 apply iZ (kJ ?_)
 refine ⟨L,rfl,⟨_,bw.of N.at_⟩,fu (xs:=rs.map λx=>V.ref x.1) (λi σ M=>(∃v3:Option V,σ=[some (.ref p),some (.ref p'),some (.ref L),v3])/\ah H2 M/\∀j S fs,j<i->(lX r)[j]?=some S->fs.map (·.2)=fT S->cW wy (d9 wy U) fs=cW B (d9 B z) fs) ⟨⟨none,rfl⟩,ah.refl _,λj S fs O=>absurd O (xC _)⟩ ?_ ?_ ?_⟩
 ·rintro i σ M _ ⟨_,I,_⟩
  exact bw.of (I _ _ N.at_)
 ·rintro i v σ M hx ⟨⟨v3,rfl⟩,I,n⟩
  rw [lZ] at hx
  obtain ⟨x,gx,rfl⟩:=ID.mp hx
  have hi:=(kM.mp gx).1
  obtain ⟨D,Y⟩:∃D,(lX r)[i]?=some D:=⟨_,lW 0#r⟩
  have G:x.2.map (·.2)=fT D:=by
   have:=congrArg (·[i]?) N.eq
   simp only [lZ,gx,Y,MP,ac6] at this
   exact this
  obtain ⟨ex,Rx⟩:=(N.up I).each x (nk gx)
  have C6:=Mh (nk Y)
  have pR:=s2.trans I
  rw?
  apply ⟨p,x.1,x.2,D,U,wy,rfl,h1.up pR,ex,Rx,G,C6,fX,λH4 J=>?_⟩
  apply ⟨p',x.1,x.2,D,z,B,rfl,h2.up (pR.trans J),J _ _ ex,Rx.up J,G,C6,Us,λH5 Z=>?_⟩
  refine c7 (λc=>?_) (λc=>?_)
  ·have c:¬cW wy (d9 wy U) x.2=cW B (d9 B z) x.2:=by simpa using c
   rw?
   exact k2 x.1 i D x.2 H5 (pR.trans (J.trans Z)) ((J.trans Z) _ _ ex) (Rx.up (J.trans Z)) Y G n c
  ·have c:cW wy (d9 wy U) x.2=cW B (d9 B z) x.2:=by simpa using c
   rw?
   refine ⟨⟨_,rfl⟩,I.trans (J.trans Z),λj S fs O gu hf=>?_⟩
   by_cases e:j=i
   ·subst e
    cases gu.symm.trans Y
    rw [GC (hf.trans G.symm),GC (wy:=B) (hf.trans G.symm)]
    exact c
   ·exact n j S fs 0#r gu hf
 ·rintro σ M ⟨⟨v3,rfl⟩,I,n⟩
  rw?
  refine k1 M (s2.trans I) λD es G he=>?_
  obtain ⟨j,O⟩:=WE.mp G
  have ac:=(kM.mp O).1
  exact n j D es (by rw [iR,R];exact ac) O he
def KI {e:Rat} {x:Rat} (he:0<=e) (h:e<x):sg e x=1:=(abX he).mpr h
def aad {e:Rat} {x:Rat} (he:0<=e) (h:x < -e):sg e x=-1:=(abY he).mpr h
def Oc {e:Rat} {x:Rat} (h1:-e<=x) (h2:x<=e):sg e x=0:=Ob.mpr (oV.mpr ⟨h1,h2⟩)
def Lm:(((0:Nat):Int):Rat)=0:=rfl
def Lo:(((1:Nat):Int):Rat)=1:=rfl
def cast2:(((2:Nat):Int):Rat)=2:=rfl
def OV:(((3:Nat):Int):Rat)=3:=rfl
def four {es:0#f} {a b c d:Rat} (h:es.map (·.2)=fT [a,b,c,d]):es.length=4/\sd es 0 1 2*2=b*2-a-c/\sd es 0 1 3*3=b*3-a*2-d/\sd es 0 2 3*3=c*3-a-d*2/\sd es 1 2 3*2=c*2-b-d:=-by
 have p1:=Bm h (i:=0) (j:=1) (k:=2) rfl rfl rfl 0#s 0#s Lm Lo cast2
 have p2:=Bm h (i:=0) (j:=1) (k:=3) rfl rfl rfl 0#s 0#s Lm Lo OV
 have p3:=Bm h (i:=0) (j:=2) (k:=3) rfl rfl rfl 0#s 0#s Lm cast2 OV
 have p4:=Bm h (i:=1) (j:=2) (k:=3) rfl rfl rfl 0#s 0#s Lo cast2 OV
 exact ⟨mz h,by grind,by grind,by grind,by grind⟩
def Oe {es:0#f} {wy:Wy} {e r:Rat} (hr:0<=r) (h:es.map (·.2)=fT [0,r,0]):cW wy e es=if r<=e then 1 else 2:=-by
 have p:=Bm h (i:=0) (j:=1) (k:=2) rfl rfl rfl 0#s 0#s Lm Lo cast2
 have n:sd es 0 1 2=r:=by grind
 unfold cW
 rw [if_pos (show es.length=3 from mz h),n]
 have:sg e r=0↔r<=e:=Ob.trans (by unfold cG;grind)
 by_cases c:r<=e
 ·rw [if_pos (this.mpr c),if_pos c]
 ·rw [if_neg λz=>c (this.mp z),if_neg c]
def TM {es:0#f} {wy:Wy} {e:Rat} {a b c d:Int} (hl:es.length=4) (h1:sg e (sd es 0 1 2)=a) (h2:sg e (sd es 0 1 3)=b) (h3:sg e (sd es 0 2 3)=c) (h4:sg e (sd es 1 2 3)=d):cW wy e es=Gh wy a b c d:=-by
 unfold cW
 rw [if_neg 0#r,h1,h2,h3,h4]
def Vl {es:0#f} {wy:Wy} {r:Rat} (hr:0<=r) (h:es.map (·.2)=fT [0,r+r+1,0,r+r+1]):cW wy r es=Gh wy 1 1 (-1) (-1):=-by
 obtain ⟨n,a,b,c,d⟩:=four h
 exact TM n (KI hr (by grind)) (KI hr (by grind)) (aad hr (by grind)) (aad hr (by grind))
def ab3 {es:0#f} {wy:Wy} {r:Rat} (hr:0<r) (h:es.map (·.2)=fT [0,r,-r,0]):cW wy r es=Gh wy 1 0 0 (-1):=-by
 obtain ⟨p,a,b,c,d⟩:=four h
 have n:0<=r:=by grind
 exact TM p (KI n (by grind)) (Oc (by grind) (by grind)) (Oc (by grind) (by grind)) (aad n (by grind))
def Wd {es:0#f} {wy:Wy} (h:es.map (·.2)=fT [0,0,-0,0]):cW wy 0 es=Gh wy 0 0 0 0:=-by
 obtain ⟨n,a,b,c,d⟩:=four h
 exact TM n (Oc (by grind) (by grind)) (Oc (by grind) (by grind)) (Oc (by grind) (by grind)) (Oc (by grind) (by grind))
def Vm {es:0#f} {wy:Wy} (h:es.map (·.2)=fT [0,1,1,0]):cW wy 0 es=Gh wy 1 1 1 1:=-by
 obtain ⟨n,a,b,c,d⟩:=four h
 exact TM n (KI ko (by grind)) (KI ko (by grind)) (KI ko (by grind)) (KI ko (by grind))
def mkE (qs:List Rat):List En:=(fT qs).map λv=>((0:af),v)
def yc (qs:List Rat):(mkE qs).map (·.2)=fT qs:=-by
 unfold mkE
 rw [SK]
 exact List.map_id _
def Alk (wy cZ:Wy) (β β':Rat):Prop:=(wy=cZ/\β=β')\/(wy≠cZ/\(wy=.ap\/wy=.sp)/\(cZ=.ap\/cZ=.sp)/\β=0/\β'=0)
def Yy {wy:Wy} {β:Rat} (h:0<=β):0<=d9 wy β:=by cases wy <;> simp only [d9] <;> grind
def Yz {wy:Wy}:d9 wy 0=0:=by cases wy <;> simp only [d9] <;> grind
def O4 {wy:Wy} {β β':Rat} (h:d9 wy β=d9 wy β'):β=β':=-by
 cases wy
 ·exact (show 2*β=2*β'->β=β' by grind) h
 ·exact (show 2*β=2*β'->β=β' by grind) h
 ·exact h
 ·exact h
def Tv {es:0#f} {wy cZ:Wy} {r β β':Rat} (h:Alk wy cZ β β') (hr:r=d9 wy β\/r=d9 cZ β') {qs:List Rat} (hq:qs∈lX r) (he:es.map (·.2)=fT qs):cW wy (d9 wy β) es=cW cZ (d9 cZ β') es:=-by
 rcases h with ⟨rfl,rfl⟩ | ⟨_,n,p,rfl,rfl⟩
 ·rfl
 have u:d9 wy 0=0:=Yz
 have v:d9 cZ 0=0:=Yz
 rw [u,v] at hr ⊢
 obtain rfl:r=0:=hr.elim id id
 simp only [lX,jG,B7,r6] at hq
 rcases hq with rfl | rfl | rfl | rfl
 ·rw [Oe ko he,Oe ko he]
 ·rw [Vl ko he,Vl ko he]
  rcases n with rfl | rfl <;> rcases p with rfl | rfl <;> decide
 ·rw [Wd he,Wd he]
  rcases n with rfl | rfl <;> rcases p with rfl | rfl <;> decide
 ·rw [Vm he,Vm he]
  rcases n with rfl | rfl <;> rcases p with rfl | rfl <;> decide
def Dr {wy cZ:Wy} {r β β':Rat} (fX:0<=β) (h1:d9 wy β<=r) (h2:d9 cZ β'<=r) (hr:r=d9 wy β\/r=d9 cZ β') (h:∀ds,ds.map (·.2)=fT [0,r,0]->cW wy (d9 wy β) ds=cW cZ (d9 cZ β') ds):d9 wy β=r/\d9 cZ β'=r:=-by
 have n:0<=r:=yz (Yy (wy:=wy) fX) h1
 have:=h _ (yc _)
 rw [Oe n (yc _),Oe n (yc _)] at this
 by_cases a:r<=d9 wy β <;> by_cases b:r<=d9 cZ β'
 ·exact ⟨BS h1 a,BS h2 b⟩
 ·rw [if_pos a,if_neg b] at this;exact absurd this 0#s
 ·rw [if_neg a,if_pos b] at this;exact absurd this 0#s
 ·rcases hr with rfl | rfl
  ·exact absurd ko a
  ·exact absurd ko b
def Tw {wy cZ:Wy} {r β β':Rat} (fX:0<=β) (h1:d9 wy β<=r) (h2:d9 cZ β'<=r) (hr:r=d9 wy β\/r=d9 cZ β') (h:∀qs ds,qs∈lX r->ds.map (·.2)=fT qs->cW wy (d9 wy β) ds=cW cZ (d9 cZ β') ds):Alk wy cZ β β':=-by
 obtain ⟨e1,e2⟩:=Dr fX h1 h2 hr λes H=>h _ es (by simp [lX]) H
 have B:0<=r:=e1▸Yy (wy:=wy) fX
 have n:=h _ _ (show [0,r+r+1,0,r+r+1]∈lX r by simp [lX]) (yc _)
 have v:=h _ _ (show [0,r,-r,0]∈lX r by simp [lX]) (yc _)
 have A:=h _ _ (show [0,1,1,0]∈lX r by simp [lX]) (yc _)
 rw [e1,e2,Vl B (yc _),Vl B (yc _)] at n
 by_cases z:wy=cZ
 ·subst z
  exact .inl ⟨rfl,O4 (wy:=wy) (by rw [e1,e2])⟩
 by_cases c:r=0
 ·subst c
  rw [e1,e2,Vm (yc _),Vm (yc _)] at A
  have p:∀{u:Wy} {x:Rat},d9 u x=0->x=0:=λ{u x} g=>O4 (wy:=u) (g.trans Yz.symm)
  have E:=p e1
  have G:=p e2
  cases wy <;> cases cZ <;> first
   | exact absurd rfl z
   | exact absurd n (by decide)
   | exact absurd A (by decide)
   | exact .inr ⟨z,.inl rfl,.inr rfl,E,G⟩
   | exact .inr ⟨z,.inr rfl,.inl rfl,E,G⟩
 ·have D:0<r:=by grind
  rw [e1,e2,ab3 D (yc _),ab3 D (yc _)] at v
  cases wy <;> cases cZ <;> first
   | exact absurd rfl z
   | exact absurd n (by decide)
   | exact absurd v (by decide)
def Nh {es:0#f} {wy cZ:Wy} {r β β':Rat} (fX:0<=β) (h1:d9 wy β<=r) (h2:d9 cZ β'<=r) (hr:r=d9 wy β\/r=d9 cZ β') {i:Nat} {qs:List Rat} (hq:(lX r)[i]?=some qs) (he:es.map (·.2)=fT qs) (hall:∀j us fs,j<i->(lX r)[j]?=some us->fs.map (·.2)=fT us->cW wy (d9 wy β) fs=cW cZ (d9 cZ β') fs) (hne:cW wy (d9 wy β) es≠cW cZ (d9 cZ β') es):qs.length=3+(if d9 wy β=d9 cZ β' then 1 else 0):=-by
 by_cases z:i=0
 ·subst z
  cases hq
  have p:0<=r:=yz (Yy (wy:=wy) fX) h1
  rw [Oe p he,Oe p he] at hne
  rw [if_neg λg=>hne (by rw [g])]
  rfl
 ·obtain ⟨e1,e2⟩:=Dr fX h1 h2 hr λfs u=>hall 0 _ fs 0#r rfl u
  rw [if_pos (e1.trans e2.symm)]
  have n:=(kM.mp hq).1
  have n:i<4:=n
  rcases (show i=1\/i=2\/i=3 by simp?) with rfl | rfl | rfl <;> cases hq <;> rfl
section
open PySem PySem.Spec PyProof.Rows L2
def _root_.L2.RI (i j k:Nat) (ta:L2.TA):L2.TS:=λD σ H=>ta σ H λvs H1=>∃u v w,vs=[u,v,w]/\D.nx (((σ.set k (some w)).set j (some v)).set i (some u)) H1
def _root_.L2.EM {X:L2.Cx} {i j k:Nat} {x y z:Str} {a b c:aW} {ta:L2.TA} {px py pz pt pos:Pos} {kt k2 N4} (hc:X.calm=true) (hN:X.N.Nodup) (hi:X.N[i]?=some x) (hj:X.N[j]?=some y) (hk:X.N[k]?=some z)
 (hx:X.env.scope.names.lookup x=some .local) (hy:X.env.scope.names.lookup y=some .local) (hz:X.env.scope.names.lookup z=some .local) (ha:L2.PA X [a,b,c] ta)
 (hw:swappedStores [.Tuple [.Name x px,.Name y py,.Name z pz] kt pt] (.Tuple [a,b,c] k2 N4) X.env=pure (some [x,y,z]))
 (hs:swapsWithSole [.Tuple [.Name x px,.Name y py,.Name z pz] kt pt] (.Tuple [a,b,c] k2 N4) pos.line X.env=pure false:=by rfl) :
 L2.PS X (.Assign [.Tuple [.Name x px,.Name y py,.Name z pz] kt pt] (.Tuple [a,b,c] k2 N4) pos) (L2.RI i j k ta):=-by
 intro n s R H D I h
 rw [Xf]
 refine fO (Iw ?_)
 rw [hs]
 refine fO (nu ?_)
 rw [if_neg 0#s]
 refine fO (Tuple_ (gP (ha _ n s R H _ I h) λus B ⟨vs,Q,S,r1,M⟩=>?_))
 obtain ⟨u,v,w,e1,M⟩:=M
 subst e1
 obtain ⟨E,G,J,rfl,ru,rv,O⟩:∃E G J,us=[E,G,J]/\RelV u E/\RelV v G/\RelV w J:=by
  cases r1 with
  | cons p q=>
    cases q with
    | cons p' q'=>
      cases q' with
      | cons p2 q2=>
        cases q2
        exact ⟨_,_,_,rfl,p,p',p2⟩
 refine Si ?_ (by show 3<=sizeLine;decide)
 have U:Inv X n R Q { B with heap:=B.heap.push { cls:=.type "tuple",data:=.seq [E,G,J].toArray } }:=S.kept (t':=B.toks) λb o e=>oA _ e
 rw [hw]
 refine fO (nu ?_)
 show bS 0#A X.A (do rule "assign.swapped-stores";let items <- unpackItems (.ref B.heap.objs.size) 3 none;assignInOrder [λv=>rZ X.env z v,λv=>rZ X.env y v,λv=>rZ X.env x v] items.reverse;pure Flow.next) _ _ _
 refine fO (wpAny_rule (fO (WU (items:=#[E,G,J]) (I.ok.hd hc) (M0 B.heap _) λh' L=>?_)))
 have Y:=U.kept (h':=h') (t':=B.toks) λb o e=>L b o (lU (eO e)) e
 show bS _ _ (assignInOrder [λv=>rZ X.env z v,λv=>rZ X.env y v,λv=>rZ X.env x v] [J,G,E] >>= λ_=>pure Flow.next) _ _ _
 refine fO (DA (Ir (lT Y hN hk (.inl hz) O (λs2 Z=>?_) (.inr hz))))
 refine DA (Ir (lT Z hN hj (.inl hy) rv (λs3 I5=>?_) (.inr hy)))
 refine DA (Ir (lT I5 hN hi (.inl hx) ru (λs4 I6=>Sh (nu ?_)) (.inr hx)))
 exact ⟨_,Q,I6,M⟩
def _root_.Jd.EM {X:L2.Cx} {i j k:Nat} {x y z:Str} {a b c:aW} {ta:L2.TA} {px py pz pt pos:Pos} {kt k2 N4} (hc:X.calm=true) (hN:X.N.Nodup) (hi:X.N[i]?=some x) (hj:X.N[j]?=some y) (hk:X.N[k]?=some z)
 (hx:X.env.scope.names.lookup x=some .local) (hy:X.env.scope.names.lookup y=some .local) (hz:X.env.scope.names.lookup z=some .local) (ha:Jd.QA X [a,b,c] ta)
 (hw:swappedStores [.Tuple [.Name x px,.Name y py,.Name z pz] kt pt] (.Tuple [a,b,c] k2 N4) X.env=pure (some [x,y,z]))
 (hs:swapsWithSole [.Tuple [.Name x px,.Name y py,.Name z pz] kt pt] (.Tuple [a,b,c] k2 N4) pos.line X.env=pure false:=by rfl) :
 Jd.QS X (.Assign [.Tuple [.Name x px,.Name y py,.Name z pz] kt pt] (.Tuple [a,b,c] k2 N4) pos) (L2.RI i j k ta):=⟨L2.EM hc hN hi hj hk hx hy hz ha.h hw hs⟩
end
def Z1 {a b c:Nat} {D:Ends} {σ:L2.St} {H:Hp} {ts:TA} (h:ts σ H λvs H1=>∃u v w,vs=[u,v,w]/\D.nx (((σ.set c (some w)).set b (some v)).set a (some u)) H1):L2.RI a b c ts D σ H:=h
def Z0 {cap:List Nat} {σ:L2.St} {K:bJ} {H:Hp} {p:af} {x y z:V} {jT:L2.St} {R:L2.St->Hp->Prop} (h0:jT.length=3) (hp:H p=some (.tup [x,y,z])) (h:R (some x::some y::some z::jY cap σ) H) :
 Nk K 3 (uo (jf 0) (uo (jf 1) (uo (jf 2) Pd))) (.ref p) (jT++jY cap σ) H λσ2 H4=>(∃σ1,σ1.length=3/\σ2=σ1++jY cap σ)/\R σ2 H4:=-by
 obtain ⟨a,b,c,rfl⟩:∃a b c,jT=[a,b,c]:=match jT,h0 with
  | [a,b,c],_=>⟨a,b,c,rfl⟩
 exact ⟨p,_,rfl,ny.of hp,rfl,x,_,rfl,y,_,rfl,z,_,rfl,rfl,⟨[some x,some y,some z],rfl,rfl⟩,h⟩
inductive BD (vs:List V) (H:Hp) (Q:VK) (E_:XK):Prop where
 | mk (l pe:af) (es:0#f) (i j k:Nat) (e:Rat):vs=[.ref l,.int (i:Int),.int (j:Int),.int (k:Int),.ref pe]->H l=some 0#D->Row H es 224->jN es->rising es->i<j->j<k->k<es.length->bP H pe e 222->(∀(H':Hp),ah H H'->Q (.int (sg e (sd es i j k))) H')->BD vs H Q E_
inductive FA (vs:List V) (H:Hp) (Q:VK) (E_:XK):Prop where
 | mk (p:af) (wy:Wy) (β:Rat):vs=[.ref p]->qd H p wy β->(∀(r:af) (H':Hp),ah H H'->bP H' r (d9 wy β) 222->Q (.ref r) H')->FA vs H Q E_
inductive Bs (vs:List V) (H:Hp) (Q:VK) (E_:XK):Prop where
 | mk (p l:af) (es:0#f) (qs:List Rat) (wy:Wy) (β:Rat):vs=[.ref p,.ref l]->qd H p wy β->H l=some 0#D->Row H es 224->es.map (·.2)=fT qs->(qs.length=3\/qs.length=4)->(∀(H':Hp),ah H H'->Q (.int (cW wy (d9 wy β) es)) H')->Bs vs H Q E_
def Rq {S e:Rat} {T U x y:Int} (hT:(T:Rat)=S*(U:Rat)) (hU:0<U) (hy:0<y) (he:e*(y:Rat)=(x:Rat)):((T.natAbs:Int)*y<=x*U↔cG S<=e)/\(0<T↔0<S):=-by
 have n:(0:Rat)<(U:Rat):=cast_pos hU
 have p:(0:Rat)<(y:Rat):=cast_pos hy
 have pos:0<T↔0<S:=by
  rw [<- Iq,hT]
  exact ⟨λz=>oz.mp λw=>by
   have:=DG (show 0<=-S by grind) (show (0:Rat)<=(U:Rat) by grind)
   grind,λz=>MZ z n⟩
 refine ⟨?_,pos⟩
 have A:((T.natAbs:Int):Rat)=cG S*(U:Rat):=by
  unfold cG
  by_cases c:S<0
  ·rw [if_pos c,show (T.natAbs:Int)=-T by have:¬0<T:=λz=>absurd (pos.mp z) (by grind)
                                          simp?,MO,hT]
   grind
  ·rw [if_neg c]
   have:0<=T:=by
    rcases MU T 0 with z | z
    ·have u:(T:Rat)<((0:Int):Rat):=vd.mpr z
     have v:=DG (iI.mp c) (show (0:Rat)<=(U:Rat) by grind)
     rw [hT] at u
     exact absurd u (iI.mpr v)
    ·exact z
   rw [show (T.natAbs:Int)=T by simp?,hT]
 rw [<- Ou,ni,ni,A,<- he]
 have e1:cG S*(U:Rat)*(y:Rat)=cG S*((U:Rat)*(y:Rat)):=by grind
 have e2:e*(y:Rat)*(U:Rat)=e*((U:Rat)*(y:Rat)):=by grind
 rw [e1,e2]
 have B:=MZ n p
 exact ⟨λz=>Mm z B,λz=>wO z (by grind)⟩
def um {H:Hp} {v:af} {t b t' b':Int} {n:Nat} (e:H v=some (.tup [.int t',.int b'])) (lo:S8 t b t' b') (hb:b≠0) (zt:Sz n t) (zb:Sz n b):bP H v ((t:Rat)/(b:Rat)) n:=-by
 have hb':(b:Rat)≠0:=by exact_mod_cast hb
 exact ⟨t',b',e,Fr.JL lo hb (by grind),zt.of_le lo.tb,zb.of_le lo.bb⟩
def adH:Wy->Bool
 | .ap=>true
 | .jo=>true
 | .sp=>false
 | .ch=>false
def aba (wy:Wy):Te (.str (F5 wy)) [V.str "apart",.str "joined"]=adH wy:=by cases wy <;> decide +kernel
def dQ:dB 5 [cR,"_law_i","_law_j","_law_k","_law_edge_here",gC,"_law_mid","_law_last","_law_span","_law_top","_law_late","_law_under"] qD:=0#p
def EA {P:fP} {w:dh} {K:bJ} {mg:0#h} {base:cA} {f:af} {fd:fU} (F:dS K "_law_stand" qD f fd) (T:Txt mg):0#b 1 f fd [cR,"_law_i","_law_j","_law_k","_law_edge_here"] BD:=-by
 refine F.dm dQ 0#a
 obtain ⟨l,pe,es,i,j,k',e,rfl,N,hR,hS,fW,O,R,Z,⟨x,y,ep,ef,zx,zy⟩,k⟩:=h
 obtain ⟨o1,g1,v1,eo1,⟨a1,J,ev1,f1,B,u⟩,ad⟩:=cC hR hS (show i<es.length by simp?)
 obtain ⟨o2,g2,v2,eo2,⟨a2,L,ev2,f2,D,p⟩,ae⟩:=cC hR hS (show j<es.length by simp?)
 obtain ⟨o3,g3,v3,eo3,⟨a3,M,ev3,f3,G,v⟩,Y⟩:=cC hR hS Z
 apply bx ⟨_,(ao (Jd.EM (i:=5) (j:=6) (k:=7) rfl dQ.nd rfl rfl rfl rfl rfl rfl (Jd.a3 (aB K (bV (iQ K) 0#w 0#C 0#z)) (aB K (bV (iQ K) 0#w (aa 2) 0#z)) (aB K (bV (iQ K) 0#w (aa 3) 0#z))) rfl) (ao (aM 8 dQ.nd (aI cF (aB K (bV (iQ K) 0#w (aa 3) 0#z)) (aB K (bV (iQ K) 0#w 0#C 0#z)))) (ao (aM 9 dQ.nd (aI aK (aI aK (aI aK (aB K (aa 6)) (aB K (aa 5))) (aB K (aa 7))) (aa 8))) (ao (aM 10 dQ.nd (aI cF (aB K (bV (iQ K) 0#w (aa 3) 0#z)) (aB K (bV (iQ K) 0#w (aa 2) 0#z)))) (ao (aM 9 dQ.nd (aI cF (aa 9) (aI aK (aI aK (aI aK (aB K (aa 5)) (aB K (aa 6))) (aB K (aa 7))) (aa 10)))) (ao (aM 9 dQ.nd (aI cF (aa 9) (aI aK (aI aK (aI aK (aB K (aa 7)) (aB K (aa 6))) (aB K (aa 5))) (aI cF (aa 8) (aa 10))))) (ao (aM 11 dQ.nd (aI aK (aI aK (aI aK (aB K (aa 5)) (aB K (aa 6))) (aB K (aa 7))) (aa 8))) (ao (bU (bC LY (aI aK (fD xT rfl T.xU yu (c9 (aa 9)) (he:=bH) (hpl:=cD)) (aB K (aa 4))) (aI aK (aB K (aa 4)) (aa 11)) (aD _)) (aF (aS aA)) bY) (ao (bU (bC fF (aa 9) aA (aD _)) (aF (aS aA)) bY) (aF (aS (jh fM aA)))))))))))),?_⟩
 apply Z1 ?_
 apply dM N (b8 g1 rfl) ?_
 apply dM N (b8 g2 rfl) ?_
 apply dM N (b8 g3 rfl) ?_
 apply ⟨_,_,_,rfl,?_⟩
 apply dM N (b8 g3 rfl) ?_
 apply dM N (b8 g1 rfl) ?_
 have n:=Y.sub ad
 have I:=Y.sub ae
 apply fR (bL D u 0#s) ?_
 apply fR (bL (D.mul u) v 0#s) ?_
 apply fR (bL ((D.mul u).mul v) n 0#s) ?_
 apply dM N (b8 g3 rfl) ?_
 apply dM N (b8 g2 rfl) ?_
 apply fR (bL B p 0#s) ?_
 apply fR (bL (B.mul p) v 0#s) ?_
 apply fR (bL ((B.mul p).mul v) I 0#s) ?_
 apply fR (bL G p 0#s) ?_
 apply fR (bL (G.mul p) u 0#s) ?_
 apply fR (bL ((G.mul p).mul u) (n.sub I) 0#s) ?_
 apply fR (bL u p 0#s) ?_
 apply fR (bL (u.mul p) v 0#s) ?_
 apply fR (bL ((u.mul p).mul v) n 0#s) ?_
 generalize hU:J*L*M*(mo es k'-mo es i)=U
 have zU:Sz (224+224+224+(224+1)) U:=hU▸((u.mul p).mul v).mul n
 have zT:=((((D.mul u).mul v).mul n).sub (((B.mul p).mul v).mul I)).sub (((G.mul p).mul u).mul (n.sub I))
 have hT:((a2*J*M*(mo es k'-mo es i)-a1*L*M*(mo es k'-mo es j)-a3*L*J*(mo es k'-mo es i-(mo es k'-mo es j)):Int):Rat)=sd es i j k'*(U:Rat):=by
  have:=Fj fW O R Z
  rw [<- hU]
  simp only [ni,rR,f1.eq,f2.eq,f3.eq]
  generalize sd es i j k'=S at *
  have e:S*((J:Rat)*L*M*((mo es k':Rat)-(mo es i:Rat)))=(J:Rat)*L*M*(S*((mo es k':Rat)-(mo es i:Rat))):=by grind
  rw [e,this]
  grind
 generalize a2*J*M*(mo es k'-mo es i)-a1*L*M*(mo es k'-mo es j)-a3*L*J*(mo es k'-mo es i-(mo es k'-mo es j))=TT at *
 have ac:0<U:=by
  rw [<- hU]
  have m1:=gh fW (xH O R) Z
  exact u6 (u6 (u6 f1.pos f2.pos) f3.pos) 0#r
 obtain ⟨q1,q2⟩:=Rq hT ac ef.pos (by rw [ef.eq])
 rw [iV]
 apply fR (bL (zT.of_le (y:=(TT.natAbs:Int)) 0#t) zy 0#s) ?_
 apply fR (bL zx zU 0#s) ?_
 unfold sg at k
 by_cases c:cG (sd es i j k')<=e
 ·rw [if_pos c] at k
  rw [dY (q1.mpr c)]
  apply bO ?_
  exact k H (ah.refl _)
 ·rw [if_neg c] at k
  rw [g9 λz=>c (q1.mp z)]
  apply bF ?_
  by_cases d:0<sd es i j k'
  ·rw [if_pos d] at k
   rw [dY (q2.mpr d)]
   apply bO ?_
   exact k H (ah.refl _)
  ·rw [if_neg d] at k
   rw [g9 λz=>d (q2.mp z)]
   apply bF ?_
   exact k H (ah.refl _)
def HL:dB 1 [bQ] sZ:=0#p
def Hx {P:fP} {w:dh} {K:bJ} {mg:0#h} {base:cA} {f:af} {fd:fU} (F:dS K "_law_edge" sZ f fd) (cJ:XZ P w K mg base):0#b 2 f fd [bQ] FA:=-by
 refine F.dm HL 0#a
 obtain ⟨p,M,G,rfl,⟨L,O,t,b,N,z,D,B⟩,k⟩:=h
 have hb:=z.pos
 have Cu:=hr.units
 have U:=aba M
 have two:∀{I:VK} {v:Hp},ah H v->(∀(r:af) (n:Hp),ah v n->bP n r (2*G) 222->I (.ref r) n)->yV [.int (2*t),.int b] v I E0:=λ{I v} u R=>by
  refine ⟨2*t,b,rfl,by simp?,B.mono 0#s,λr t' b' n s e S=>R r n s ?_⟩
  have Y:Sz 222 (2*t):=by rw [SV];exact D.add D
  have:=um e S 0#r Y (B.mono 0#s)
  have e2:((2*t:Int):Rat)/(b:Rat)=2*G:=by
   have h1:=dH (b:=b) 0#r
   have:=z.eq
   rw [ni,this]
   show 2*(G*(b:Rat))/(b:Rat)=2*G
   grind
  rw [e2] at this
  exact this
 apply bx ⟨_,(ao (bU (bC (LK K) (aB K 0#w) (bu (br gU gU)) rfl) (aF (aS (bA cJ hr (aI aK aA (aB K (aB K 0#w))) (aB K (aB K 0#w))))) bY) (aF (aS (aB K 0#w)))),?_⟩
 refine aC (mk:=.tup) 0#t λy v u n1 e1=>?_
 refine ⟨y,_,rfl,.inr (ny.of e1),rfl,rfl,?_⟩
 rw [U]
 have hp1:=u _ _ O
 have J:=u _ _ N
 cases M with
 | ap=>
   refine ⟨true,rfl,?_⟩
   apply bO ?_
   exact two u λr n s f=>k r n (u.trans s) f
 | jo=>
   refine ⟨true,rfl,?_⟩
   apply bO ?_
   exact two u λr n s f=>k r n (u.trans s) f
 | sp=>
   refine ⟨false,rfl,?_⟩
   apply bF ?_
   exact k L v u ⟨t,b,J,z,D.mono 0#s,B.mono 0#s⟩
 | ch=>
   refine ⟨false,rfl,?_⟩
   apply bF ?_
   exact k L v u ⟨t,b,J,z,D.mono 0#s,B.mono 0#s⟩
def G8 {m a b c d:Int}:Te (.int m) ([a,b,c,d].map V.int)=decide (a=m\/b=m\/c=m\/d=m):=-by
 have e:∀p q:Int,O6 (.int p) (.int q)=decide (p=q):=λp q=>by show (p==q)=_;exact DC.mpr (by rw [rY,MA])
 unfold Te
 simp only [xF,MS,Sw,List.any_nil,e,Bool.or_false,Bool.decide_or]
def YN {a b c d:Int}:u7 (.list [.int a,.int b,.int c,.int d]) (.list [.int 0,.int 0,.int 0,.int 0])=decide (a=0/\b=0/\c=0/\d=0):=-by
 have e:u7 (.list [.int a,.int b,.int c,.int d]) (.list [.int 0,.int 0,.int 0,.int 0])=(a==0&&(b==0&&(c==0&&(d==0&&true)))):=rfl
 rw [e,DC]
 simp
def kL:dB 2 [bQ,cR,"_law_edge_here","_law_spots","_law_bent"] qB:=0#p
def Ey {P:fP} {w:dh} {K:bJ} {mg:0#h} {base:cA} {f:af} {fd:fU} (F:dS K "_law_count" qB f fd) (T:Txt mg) (l9:0#c 1 "_law_stand" [cR,"_law_i","_law_j","_law_k","_law_edge_here"] BD) (iC:0#c 2 "_law_edge" [bQ] FA):0#b 3 f fd [bQ,cR] Bs:=-by
 refine F.dm kL 0#a
 obtain ⟨p,l,es,qs,wy,β,rfl,U,hl,hR,hq,C6,k⟩:=h
 have hS:=Mb hq
 have fW:=oX hq
 have hlen:=mz hq
 have Cu:=hr.units
 apply bx ⟨_,(ao (lA (i:=2) kL.nd rfl (Or.inr rfl) (Jd.c1 iC hr 0#w) (hs:=fH)) (ao (bU (bC cX (ju K T.jv 0#C) aA (aD _)) (aF (aS (aI cE aA (fD xT rfl T.xU yu (c9 (iX l9 (hr.mono 0#s) rfl (eN 0#C (Jd.a4 aA aA aA (aa 2)) bH) (he:=bH) (hpl:=(cV BG (cV BG (cV BG (cV bH cD))))))) (he:=FZ) (hpl:=cD))))) bY) (ao (aM 3 kL.nd (dU (Jd.a4 (bu (Jd.a3 aA aA aA)) (bu (Jd.a3 aA aA aA)) (bu (Jd.a3 aA aA aA)) (bu (Jd.a3 aA aA aA))))) (ao (Jd.kI (O:=["_law_i","_law_j","_law_k"]) (N':=["_law_row_here","_law_edge_here" ]) (cap:=[1,2]) (i:=4) kL.nd rfl (Or.inl rfl) rfl (j0 K (aa 3)) (λ_ _ _ _ _=>(Jd.UW K (n:=3) rfl (lz (c8 (i:=0) (show jR [("_law_i":Str),("_law_j":Str),("_law_k":Str),("_law_row_here":Str),("_law_edge_here":Str)] by decide +kernel) rfl (Or.inl rfl)) (lz (c8 (i:=1) (show jR [("_law_i":Str),("_law_j":Str),("_law_k":Str),("_law_row_here":Str),("_law_edge_here":Str)] by decide +kernel) rfl (Or.inl rfl)) (lz (c8 (i:=2) (show jR [("_law_i":Str),("_law_j":Str),("_law_k":Str),("_law_row_here":Str),("_law_edge_here":Str)] by decide +kernel) rfl (Or.inl rfl)) Jd.kH))))) (λ_ _ _ _ _=>ly) (λ_ _ _ _ _=>(iX l9 (hr.mono 0#s) rfl (eN (aa 3) (eN 0#w (eN 0#C (eN (aa 2) (eN (aa 4) fZ bH) bH) bH) bH) bH) (he:=bH) (hpl:=(cV bH (cV bH (cV bH (cV bH cD))))))) rfl ⟨⟨rfl,rfl,rfl,rfl⟩,⟨⟨rfl,rfl,rfl,rfl⟩,trivial⟩⟩ rfl 0#u rfl 0#u (by rfl)) (ao (bU (bC cX (aB K 0#w) gU (aD _)) (aF (aS (aI cE aA (uw qZ rfl T.NI Dv (c9 (gR (ZE Cu) (aa 4) (dU (Jd.a4 aA aA aA aA)) (aD _))))))) bY) (ao (bU (bC cX (aB K 0#w) gU (aD _)) (aF (aS (aI cE (aI cE aA (uw qZ rfl T.NI Dv (c9 (gR (LK K) aA (aa 4) rfl)))) (uw qZ rfl T.NI Dv (c9 (gR (LK K) (jh fM aA) (aa 4) rfl)))))) bY) (ao (bU (jg (Jd.lF (bC cX (Jd.iL K (aa 4)) aA (aD _)) (uv (bC cX (Jd.iL K (aa 4)) aA (aD _))))) (aF (aS aA)) bY) (ao (bU (jg (nK (bC cX (aB K 0#w) gU (aD _)) (nK (bC cX (Jd.iL K (aa 4)) aA (aD _)) (Jd.lG (bC cX (Jd.iL K (aa 4)) aA (aD _)))))) (aF (aS aA)) bY) (aF (aS aA)))))))))),?_⟩
 refine ⟨p,wy,β,rfl,U,λpe H1 M fe=>?_⟩
 have L:=M _ _ hl
 have R:=hR.up M
 obtain ⟨pb,hp,_⟩:=U.up M
 generalize d9 wy β=e at *
 rw?
 refine dN (.inl (bw.of L)) ?_
 rw [aP]
 rw?
 have o:=V9 e
 unfold cW at k
 by_cases z:es.length=3
 ·rw [dY (show (es.length:Int)=3 by simp?)]
  rw [if_pos z] at k
  apply bO ?_
  apply ⟨l,pe,es,0,1,2,e,rfl,L,R,hS,fW,by decide,by decide,by simp?,fe,λH2 s2=>?_⟩
  rcases o (sd es 0 1 2) with c | c | c
  ·rw [c] at k ⊢
   exact k H2 (M.trans s2)
  ·rw [c] at k ⊢
   exact k H2 (M.trans s2)
  ·rw [c] at k ⊢
   exact k H2 (M.trans s2)
 rw [g9 (show ¬(es.length:Int)=3 by simp?)]
 rw [if_neg z] at k
 have h4:es.length=4:=by simp?
 apply bF ?_
 apply aC (mk:=.tup) 0#t λt0 G0 u0 _ e0=>?_
 apply aC (mk:=.tup) 0#t λt1 G1 u1 _ e1=>?_
 apply aC (mk:=.tup) 0#t λt2 G2 u2 _ e2=>?_
 apply aC (mk:=.tup) 0#t λt3 G3 u3 _ e3=>?_
 refine aC (mk:=.lst) 0#t λS G4 Y _ eS=>?_
 have e0:=(u1.trans (u2.trans (u3.trans Y))) _ _ e0
 have e1:=(u2.trans (u3.trans Y)) _ _ e1
 have e2:=(u3.trans Y) _ _ e2
 have e3:=Y _ _ e3
 have w:=u0.trans (u1.trans (u2.trans (u3.trans Y)))
 have VM:=w _ _ L
 have ae:=R.up w
 have ac:=fe.up w
 rw?
 apply kJ ?_
 refine ⟨S,rfl,⟨_,bw.of eS⟩,?_⟩
 refine di (xs:=[V.ref t0,.ref t1,.ref t2,.ref t3]) cQ (λB I=>bw.of (I _ _ eS)) 0#t (λi ys _=>ys=([sg e (sd es 0 1 2),sg e (sd es 0 1 3),sg e (sd es 0 2 3),sg e (sd es 1 2 3)].take i).map V.int) rfl ?_ ?_
 ·rintro D i v ys B jT N N0 ad hD G I hv hy rfl kY kN
  obtain ⟨a,b,c,x,rfl,et,ag,ai,aj,hx⟩:∃(a b c:Nat) (x:af),v=.ref x/\B x=some (.tup [.int (a:Int),.int (b:Int),.int (c:Int)])/\a<b/\b<c/\c<es.length/\[sg e (sd es 0 1 2),sg e (sd es 0 1 3),sg e (sd es 0 2 3),sg e (sd es 1 2 3)][i]?=some (sg e (sd es a b c)):=by
   have hi:=(kM.mp hv).1
   have hi:i<4:=hi
   rcases (show i=0\/i=1\/i=2\/i=3 by simp?) with rfl | rfl | rfl | rfl <;> cases hv
   ·exact ⟨0,1,2,t0,rfl,I _ _ e0,by decide,by decide,by simp?,rfl⟩
   ·exact ⟨0,1,3,t1,rfl,I _ _ e1,by decide,by decide,by simp?,rfl⟩
   ·exact ⟨0,2,3,t2,rfl,I _ _ e2,by decide,by decide,by simp?,rfl⟩
   ·exact ⟨1,2,3,t3,rfl,I _ _ e3,by decide,by decide,by simp?,rfl⟩
  apply Z0 ad et ?_
  apply bO ?_
  refine ⟨l,pe,es,a,b,c,e,rfl,I _ _ VM,ae.up I,hS,fW,ag,ai,aj,ac.up I,λH6 s6=>?_⟩
  exact kY _ H6 s6 (by rw [qT,hx,gw];rfl)
 rintro D ys B hD G I hy rfl
 have hp5:=I _ _ (w _ _ hp)
 have J:=M.trans (w.trans I)
 have G:B D=some (.lst ([sg e (sd es 0 1 2),sg e (sd es 0 1 3),sg e (sd es 0 2 3),sg e (sd es 1 2 3)].map V.int)):=G
 have oa:=o (sd es 0 1 2)
 have ob:=o (sd es 0 1 3)
 have oc:=o (sd es 0 2 3)
 have od:=o (sd es 1 2 3)
 generalize sg e (sd es 0 1 2)=a at *
 generalize sg e (sd es 0 1 3)=b at *
 generalize sg e (sd es 0 2 3)=c at *
 generalize sg e (sd es 1 2 3)=d at *
 rw?
 cases wy with
 | ap=>
   apply dw (c:=true) 0#u ?_
   apply bO ?_
   refine aC (mk:=.lst) 0#t λZ H6 s6 n6 e6=>?_
   refine ⟨_,_,.lst (s6 _ _ G) (.cons (.int a) (.cons (.int b) (.cons (.int c) (.cons (.int d) .nil)))),.lst e6 (.cons (.int 0) (.cons (.int 0) (.cons (.int 0) (.cons (.int 0) .nil)))),rfl,rfl,?_⟩
   rw [YN]
   rw?
   apply .inr ⟨_,rfl,?_⟩
   have e':(1:Int)+(if (!decide (a=0/\b=0/\c=0/\d=0))=true then 1 else 0)=Gh .ap a b c d:=by
    unfold Gh
    by_cases z:a=0/\b=0/\c=0/\d=0
    ·simp [z]
    ·rw [g9 z,if_neg z];rfl
   rw [e']
   exact k H6 (J.trans s6)
 | jo=>
   apply dw (c:=false) 0#u ?_
   apply bF ?_
   apply dw (c:=true) 0#u ?_
   apply bO ?_
   refine ⟨D,_,rfl,.inl (bw.of G),rfl,rfl,?_⟩
   rw [G8]
   rw?
   apply .inr ⟨_,rfl,?_⟩
   refine ⟨D,_,rfl,.inl (bw.of G),rfl,rfl,?_⟩
   rw [G8]
   rw?
   apply .inr ⟨_,rfl,?_⟩
   have e':∀p q:Prop,[Decidable p]->[Decidable q]->(1:Int)+(if (if false=true then !decide p else decide p)=true then 1 else 0)+(if (if false=true then !decide q else decide q)=true then 1 else 0)=1+(if p then 1 else 0)+(if q then 1 else 0):=λp q _ _=>by
    simp
   rw [e']
   exact k B J
 | sp=>
   apply dw (c:=false) 0#u ?_
   apply bF ?_
   apply dw (c:=false) 0#u ?_
   apply bF ?_
   apply dM G (cN (j:=1) rfl rfl) ?_
   by_cases hb:b=0
   ·rw [dY hb]
    apply bO ?_
    apply dM G (cN (j:=2) rfl rfl) ?_
    by_cases hc:c=0
    ·rw [dY hc]
     apply bO ?_
     rw [show Gh .sp a b c d=1 from if_pos ⟨hb,hc⟩] at k
     exact k B J
    ·rw [g9 hc]
     apply bF ?_
     apply dw (c:=true) 0#u ?_
     apply bO ?_
     apply bO ?_
     rw [show Gh .sp a b c d=2 from if_neg λz=>hc z.2] at k
     exact k B J
   ·rw [g9 hb]
    apply bF ?_
    apply bF ?_
    apply dw (c:=true) 0#u ?_
    apply bO ?_
    apply bO ?_
    rw [show Gh .sp a b c d=2 from if_neg λz=>hb z.1] at k
    exact k B J
 | ch=>
   apply dw (c:=false) 0#u ?_
   apply bF ?_
   apply dw (c:=false) 0#u ?_
   apply bF ?_
   apply dM G (cN (j:=1) rfl rfl) ?_
   by_cases hb:b=0
   ·rw [dY hb]
    apply bO ?_
    apply dM G (cN (j:=2) rfl rfl) ?_
    by_cases hc:c=0
    ·rw [dY hc]
     apply bO ?_
     rw [show Gh .ch a b c d=1 from if_pos ⟨hb,hc⟩] at k
     exact k B J
    rw [g9 hc]
    refine bF ?_
    rw [show Gh .ch a b c d=(if a=0\/d=0 then 2 else 3) from if_neg λz=>hc z.2] at k
    rw?
    apply dw (c:=false) 0#u ?_
    apply bF ?_
    apply dM G (cN (j:=0) rfl rfl) ?_
    by_cases ha:a=0
    ·rw [dY ha]
     rw [if_pos (.inl ha)] at k
     apply bO ?_
     apply bO ?_
     exact k B J
    rw [g9 ha]
    apply bF ?_
    apply dM G (cN (j:=3) rfl rfl) ?_
    by_cases hd:d=0
    ·rw [dY hd]
     rw [if_pos (.inr hd)] at k
     apply bO ?_
     exact k B J
    rw [g9 hd]
    rw [if_neg λz=>z.elim ha hd] at k
    apply bF ?_
    exact k B J
   rw [g9 hb]
   refine bF ?_
   rw [show Gh .ch a b c d=(if a=0\/d=0 then 2 else 3) from if_neg λz=>hb z.1] at k
   rw?
   apply bF ?_
   apply dw (c:=false) 0#u ?_
   apply bF ?_
   apply dM G (cN (j:=0) rfl rfl) ?_
   by_cases ha:a=0
   ·rw [dY ha]
    rw [if_pos (.inl ha)] at k
    apply bO ?_
    apply bO ?_
    exact k B J
   rw [g9 ha]
   apply bF ?_
   apply dM G (cN (j:=3) rfl rfl) ?_
   by_cases hd:d=0
   ·rw [dY hd]
    rw [if_pos (.inr hd)] at k
    apply bO ?_
    exact k B J
   rw [g9 hd]
   rw [if_neg λz=>z.elim ha hd] at k
   apply bF ?_
   exact k B J
inductive Ft (vs:List V) (H:Hp) (Q:VK) (E_:XK):Prop where
 | mk (p p':af) (wy cZ:Wy) (β β':Rat):vs=[.ref p,.ref p']->qd H p wy β->qd H p' cZ β'->(∀(b:Bool) (H':Hp),ah H H'->(b=true↔Alk wy cZ β β')->Q (.bl b) H')->Ft vs H Q E_
inductive By (vs:List V) (H:Hp) (Q:VK) (E_:XK):Prop where
 | mk (p p':af) (wy cZ:Wy) (β β':Rat):vs=[.ref p,.ref p']->qd H p wy β->qd H p' cZ β'->0<=β->0<=β'->(∀(H':Hp),ah H H'->Q (.bl true) H')->By vs H Q E_
def Vs {a b:Wy} (h:F5 a=F5 b):a=b:=by cases a <;> cases b <;> first | rfl | exact absurd h (by decide)
def Z6 {wy cZ:Wy} {t b t' b':Int} {β β':Rat} (h:Fr t b β) (h':Fr t' b' β'):u7 (.tuple [.str "fewest",.str (F5 wy),.tuple [.int t,.int b]]) (.tuple [.str "fewest",.str (F5 cZ),.tuple [.int t',.int b']])=true↔wy=cZ/\β=β':=-by
 have e:=Jf h h'
 cases wy <;> cases cZ <;> first
  | (show (u7 (.tuple [.int t,.int b]) (.tuple [.int t',.int b'])&&true)=true↔_
     rw [e]
     simp)
  | exact ⟨λz=>Bool.noConfusion (show false=true from z),λz=>nomatch z.1⟩
def PD:Wy->Bool
 | .ap=>true
 | .jo=>false
 | .sp=>true
 | .ch=>false
def VQ (wy:Wy):Te (.str (F5 wy)) [V.str "apart",.str "spans"]=PD wy:=by cases wy <;> decide +kernel
def LP {wy:Wy}:PD wy=true↔wy=.ap\/wy=.sp:=by cases wy <;> simp [PD]
def abA {wy cZ:Wy} {H:Hp} {Q:VK} (q:∀c,(c=true↔wy=cZ)->Q (.bl c) H):rEq (.str (F5 wy)) (.str (F5 cZ)) H Q:=-by
 by_cases z:wy=cZ
 ·exact dw (c:=true) (dY (by rw [z])) (q true ⟨λ_=>z,λ_=>rfl⟩)
 ·exact dw (c:=false) (g9 λu=>z (Vs u)) (q false ⟨λu=>(nomatch u),λu=>absurd u z⟩)
def Ff:dB 2 [bQ,dc] qA:=0#p
def Ex {P:fP} {w:dh} {K:bJ} {mg:0#h} {base:cA} {f:af} {fd:fU} (F:dS K "_law_alike" qA f fd):0#b 1 f fd [bQ,dc] Ft:=-by
 refine F.dm Ff 0#a
 obtain ⟨p,p',wy,cZ,β,I,rfl,⟨pb,hp,t,b,ep,N,zt,zb⟩,⟨pb',Y,t',Z,G,B,XY,Wf⟩,k⟩:=h
 have Cu:=hr.units
 apply bx ⟨_,(ao (bU (bC (EE Cu) 0#w 0#C (aD _)) (aF (aS mh)) bY) (ao (bU (jg (nK (bC cX (aB K 0#w) (aB K 0#C) (aD _)) (nK (bC (An K) (aB K 0#w) (bu (br gU gU)) rfl) (Jd.lG (bC (An K) (aB K 0#C) (bu (br gU gU)) rfl))))) (aF (aS mh)) bY) (aF (aS (Jd.lC (gR cX (aB K (aB K 0#w)) aA (aD _)) (Jd.oR (gR cX (aB K (aB K 0#C)) aA (aD _)))))))),?_⟩
 refine ⟨_,_,.tup hp (.cons (.str _) (.cons (.str _) (.cons (.tup ep (.cons (.int t) (.cons (.int b) .nil))) .nil))),.tup Y (.cons (.str _) (.cons (.str _) (.cons (.tup G (.cons (.int t') (.cons (.int Z) .nil))) .nil))),?_,?_,?_⟩
 ·cases wy <;> kernel_rfl
 ·cases cZ <;> kernel_rfl
 have q0:=Z6 (wy:=wy) (cZ:=cZ) N B
 generalize u7 (.tuple [.str "fewest",.str (F5 wy),.tuple [.int t,.int b]]) (.tuple [.str "fewest",.str (F5 cZ),.tuple [.int t',.int Z]])=u at *
 cases u with
 | true=>
   rw?
   exact k true H (ah.refl _) ⟨λ_=>.inl (q0.mp rfl),λ_=>rfl⟩
 | false=>
   have S:¬(wy=cZ/\β=I):=λz=>nomatch q0.mpr z
   have U:(¬(wy≠cZ/\(wy=.ap\/wy=.sp)/\(cZ=.ap\/cZ=.sp)))->¬Alk wy cZ β I:=λz u=>u.elim S λv=>z ⟨v.1,v.2.1,v.2.2.1⟩
   refine ⟨_,rfl,?_⟩
   apply bF ?_
   apply abA λc hc=>?_
   cases c with
   | true=>
     refine bO ?_
     apply bO ?_
     exact k false H (ah.refl _) ⟨λz=>(nomatch z),λu=>absurd u (U λv=>v.1 (hc.mp rfl))⟩
   | false=>
     have O:wy≠cZ:=λz=>nomatch hc.mpr z
     apply bF ?_
     refine aC (mk:=.tup) 0#t λy H1 n n1 e1=>?_
     have Ow:=n _ _ ep
     have M:=n _ _ G
     have R:=n _ _ hp
     have L:=n _ _ Y
     refine ⟨y,_,rfl,.inr (ny.of e1),rfl,rfl,?_⟩
     rw [VQ]
     cases h1:PD wy with
     | false=>
       rw?
       exact k false H1 n ⟨λz=>(nomatch z),λu=>absurd u (U λv=>by rw [LP.mpr v.2.1] at h1;cases h1)⟩
     | true=>
       rw?
       apply bF ?_
       refine aC (mk:=.tup) 0#t λy2 J D n2 e2=>?_
       have Ox:=D _ _ Ow
       have aet:=D _ _ M
       have hp2:=D _ _ R
       have aez:=D _ _ L
       refine ⟨y2,_,rfl,.inr (ny.of e2),rfl,rfl,?_⟩
       rw [VQ]
       cases h2:PD cZ with
       | false=>
         rw?
         exact k false J (n.trans D) ⟨λz=>(nomatch z),λu=>absurd u (U λv=>by rw [LP.mpr v.2.2] at h2;cases h2)⟩
       | true=>
         rw?
         apply bF ?_
         have a2:wy=.ap\/wy=.sp:=LP.mp h1
         have a3:cZ=.ap\/cZ=.sp:=LP.mp h2
         by_cases c1:t=0
         ·rw [dY c1]
          apply bO ?_
          refine k _ J (n.trans D) ⟨λz=>.inr ⟨O,a2,a3,N.qt.qP.mp c1,B.qt.qP.mp (dF z)⟩,λu=>dY (u.elim (λv=>absurd v S) λv=>B.qt.qP.mpr v.2.2.2.2)⟩
         ·rw [g9 c1]
          apply bF ?_
          refine k false J (n.trans D) ⟨λz=>(nomatch z),λu=>u.elim (λv=>absurd v S) λv=>absurd (N.qt.qP.mpr v.2.2.2.1) c1⟩
def dX:dB 2 [bQ,dc,cR,"_law_long","_law_k","_law_entry",gC,"_law_two"] o4:=0#p
def CD {P:fP} {w:dh} {K:bJ} {mg:0#h} {base:cA} {f:af} {fd:fU} (F:dS K "_law_parted" o4 f fd) (T:Txt mg) (vq:0#c 14 "parting" [eu,az] wJ) (pW:0#c 1 "_law_alike" [bQ,dc] Ft) (iC:0#c 2 "_law_edge" [bQ] FA) (kT:0#c 3 "_law_is_ratio" [gC] Vh) (l7:0#c 3 "_law_count" [bQ,cR] Bs) (jO:0#c 13 "answer" [eu,bE] uS):0#b 15 f fd [bQ,dc] By:=-by
 refine F.dm dX 0#a
 obtain ⟨p,Y,v,u,G,n,rfl,h1,h2,fX,Us,k⟩:=h
 have Cu:=hr.units
 apply bx ⟨_,(ao (aM 2 dX.nd (bA vq hr 0#w 0#C)) (ao (bU (iW (bA pW hr 0#w 0#C)) (aF (aS (gR EF (aa 2) gK (aD _)))) bY) (ao (aM 3 dX.nd (aI cE aA (uw qZ rfl T.NI Dv (c9 (gR (EE Cu) (Jd.c1 iC hr 0#w) (Jd.c1 iC hr 0#C) (aD _)))))) (ao (bU (jg (nK (Jd.oU (iW (fD (JB K) rfl T.fY Lc (br (aa 2) (Jd.uK rfl T.Hj HW)) (he:=bH) (hpl:=(cV bH cD))))) (Jd.lG (bC xm (ju K T.jv (aa 2)) (aa 3) (aD _))))) (aF (aS mh)) bY) (ao (gQ jd rfl (Jd.iM rfl T.range (c9 (aa 3))) (c8 (i:=4) dX.nd rfl (Or.inl rfl)) (ao (aM 5 dX.nd (bV (iQ K) (aa 2) (aa 4) 0#z)) (ao (bU (jg (nK (Jd.oU (iW (fD (JB K) rfl T.fY Lc (br (aa 5) (Jd.uK rfl T.K4 RX)) (he:=bH) (hpl:=(cV bH cD))))) (nK (bC xm (ju K T.jv (aa 5)) aA (aD _)) (Jd.lG (iW (fD (JB K) rfl T.fY Lc (br (aB K (aa 5)) (Jd.uK rfl T.VC Ww)) (he:=BH) (hpl:=(cV bH cD)))))))) (aF (aS mh)) bY) (aF (bU (jg (nK (Jd.oU (iW (fD (JB K) rfl T.fY Lc (br (aB K (aa 5)) (Jd.uK rfl T.NI Dv)) (he:=BH) (hpl:=(cV bH cD))))) (nK (bC xm (aB K (aa 5)) (aa 4) (aD _)) (Jd.lG (Jd.oU (iW (Jd.c1 kT hr (aB K (aa 5))))))))) (aF (aS mh)) bY))))) (ao (aM 6 dX.nd (bA l7 hr 0#w (aa 2))) (ao (aM 7 dX.nd (bA l7 hr 0#C (aa 2))) (aF (aS (Jd.lC (gR xm (aa 6) (aa 7) (aD _)) (Jd.lC (gR cX (bA jO hr 0#w (uw kE rfl T.Hj HW (c9 (aa 2)))) (aa 6) (aD _)) (Jd.oR (gR cX (bA jO hr 0#C (uw kE rfl T.Hj HW (c9 (aa 2)))) (aa 7) (aD _)))))))))))))),?_⟩
 refine ⟨p,Y,v,u,G,n,rfl,h1,h2,fX,Us,λr g1 g2 g3=>⟨λH1 N B=>?_,λR i qs es H1 N eR hR S M B U=>?_⟩⟩
 ·rw?
  refine ⟨p,Y,v,u,G,n,rfl,h1.up N,h2.up N,λb H2 s2 hb=>?_⟩
  obtain rfl:b=true:=hb.mpr (Tw fX g1 g2 g3 B)
  rw?
  apply bO ?_
  refine ⟨rfl,?_⟩
  exact k H2 (N.trans s2)
 rw?
 refine ⟨p,Y,v,u,G,n,rfl,h1.up N,h2.up N,λb H2 s2 hb=>?_⟩
 obtain rfl:b=false:=by
  cases b with
  | false=>rfl
  | true=>exact absurd (Tv (hb.mp rfl) g3 (nk S) M) U
 have G6:=Nh fX g1 g2 g3 S M B U
 have C6:=Mh (nk S)
 have ae:=mz M
 have gO:=N.trans s2
 rw?
 apply bF ?_
 apply ⟨p,v,G,rfl,h1.up gO,λa H3 s3 fa=>?_⟩
 apply ⟨Y,u,n,rfl,h2.up (gO.trans s3),λa' H4 s4 aj=>?_⟩
 obtain ⟨t1,d1,D1,F1⟩:=(fa.up s4).den
 obtain ⟨t2,d2,D2,F2⟩:=aj.den
 refine ⟨_,_,D1,D2,rfl,rfl,?_⟩
 rw [Jf F1 F2]
 rw?
 refine .inr ⟨_,rfl,?_⟩
 have HK:=s2.trans (s3.trans s4)
 have I:=HK _ _ eR
 have ac:=hR.up HK
 have Dp:=N.trans HK
 have hL:(3:Int)+(if decide (d9 v G=d9 u n)=true then 1 else 0)=(es.length:Int):=by
  rw [ae,G6]
  by_cases z:d9 v G=d9 u n
  ·rw [if_pos z,dY z];rfl
  ·rw [if_neg z,g9 z];rfl
 rw?
 rw [hL]
 apply AM (.lst I) Zn ?_
 apply bF ?_
 refine dN (.inl (bw.of I)) ?_
 rw [aP]
 rw?
 rw [dY (show (es.length:Int)=(es.length:Int) from rfl)]
 apply bF ?_
 apply iZ (AO ?_)
 refine ⟨_,rfl,by simp?,by simp?,iK (λi σ H5=>Tu λ(v4 v5:Option V)=>σ=[some (.ref p),some (.ref Y),some (.ref R),some (.int (es.length:Int)),v4,v5,none,none]/\ah H4 H5) ⟨none,none,rfl,ah.refl _⟩ ?_ ?_⟩
 ·rintro i σ H5 S ⟨v4,v5,rfl,Z⟩
  have S:i<es.length:=by simpa using S
  obtain ⟨x,gx⟩:∃x,es[i]?=some x:=⟨_,lW S⟩
  obtain ⟨q,al⟩:∃q,qs[i]?=some q:=⟨_,lW 0#r⟩
  obtain ⟨y,hy⟩:=sV M al
  cases gx.symm.trans hy
  obtain ⟨zm,pv,ex,fv⟩:=(ac.up Z) _ (nk gx)
  rw [show (0:Int)+(i:Int)=(i:Int) by simp?]
  rw?
  apply dM (Z _ _ I) (b8 gx rfl) ?_
  apply AM (.tup ex) PN ?_
  apply bF ?_
  apply dN (.inr (ny.of ex)) ?_
  apply bF ?_
  apply AM (.int _) PL ?_
  apply bF ?_
  apply AM (.int _) PM ?_
  apply bF ?_
  rw [dY (show (i:Int)=(i:Int) from rfl)]
  apply bF ?_
  apply abc fv 0#s λH6 s6=>?_
  apply bF ?_
  exact ⟨_,_,rfl,Z.trans s6⟩
 rintro σ H5 ⟨v4,v5,rfl,Z⟩
 have uN:=Dp.trans Z
 have J:=Z _ _ I
 have O:=ac.up Z
 rw?
 apply ⟨p,R,es,qs,v,G,rfl,h1.up uN,J,O,M,C6,λH6 s6=>?_⟩
 refine ⟨Y,R,es,qs,u,n,rfl,h2.up (uN.trans s6),s6 _ _ J,O.up s6,M,C6,λH7 s7=>?_⟩
 have L:=s6.trans s7
 have V7:=uN.trans L
 rw?
 rw [g9 U]
 apply bO ?_
 refine ⟨R,_,rfl,.inl (bw.of (L _ _ J)),λl nl=>?_⟩
 have s8:=iu nl 0#D
 have ad:=O.up L
 have eL:upd H7 l 0#D l=some 0#D:=au
 generalize upd H7 l 0#D=H8 at *
 have ag:=V7.trans s8
 rw?
 apply ⟨p,l,es,qs,G,v,rfl,h1.up ag,eL,ad.up s8,M,C6,fX,λH9 s9=>?_⟩
 rw [dY (show cW v (d9 v G) es=cW v (d9 v G) es from rfl)]
 apply bO ?_
 refine ⟨R,_,rfl,.inl (bw.of ((L.trans (s8.trans s9)) _ _ J)),λl' am=>?_⟩
 have pH:=iu am 0#D
 have ak:=ad.up (s8.trans s9)
 have ai:upd H9 l' 0#D l'=some 0#D:=au
 generalize upd H9 l' 0#D=tT at *
 have HJ:=ag.trans (s9.trans pH)
 rw?
 apply ⟨Y,l',es,qs,n,u,rfl,h2.up HJ,ai,ak.up pH,M,C6,Us,λGs Cc=>?_⟩
 rw [dY (show cW u (d9 u n) es=cW u (d9 u n) es from rfl)]
 exact k Gs (HJ.trans Cc)
def size_le {x:Int} {n:Nat} (h0:0<=x) (h:x<2 ^ n):Sz n x:=-by
 show x.natAbs<2 ^ n
 have:((2 ^ n:Nat):Int)=2 ^ n:=by simp
 simp?
def EW {x y:Int} (hx:0<=x) (hy:0<y):0<=(x:Rat)/(y:Rat):=-by
 have n:((0:Int):Rat)<=(x:Rat):=Ou.mpr hx
 have p:=cast_pos hy
 rw [Rat.div_def]
 exact DG n (MW (Rat.inv_pos.mpr p))
inductive HP (K:bJ) (vs:List V) (H:Hp) (Q:VK) (E_:XK):Prop where
 | mk (a:af) (ns:List Int):vs=[.ref a]->bw K H a (ns.map V.int)->ns.length<=63->(∀H',Q (.bl true) H')->HP K vs H Q E_
def nh:dB 1 [cg,"_law_ways","_law_some","_law_scale","_law_bound","_law_free","_law_more",bQ,dc] Q3:=0#p
def ZD {P:fP} {w:dh} {K:bJ} {mg:0#h} {base:cA} {f:af} {fd:fU} (F:dS K "law" Q3 f fd) (T:Txt mg) (vo:0#c 3 "_law_row" [cg,fL,"_law_sizes"] (Ro K)) (cJ:XZ P w K mg base) (kD:0#c 15 "_law_parted" [bQ,dc] By):0#b 16 f fd [cg] (HP K):=-by
 refine F.dm nh 0#a
 obtain ⟨a,ns,rfl,hS,hn,k⟩:=h
 apply bx ⟨_,(ao (aM 1 nh.nd (dU (Jd.a4 gU gU gU gU))) (ao (aM 2 nh.nd (Jd.c3 vo hr 0#w aA (dU (eN aA (eN aA (eN aA (eN aA (Jd.a4 aA aA (aI sQ aA aA) (aI sQ aA aA)) BG) BG) BG) BG)))) (ao (aM 3 nh.nd (bV (iQ K) (dU (Jd.a3 aA aA (aI sQ aA aA))) (Jd.iL K (aa 2)) 0#z)) (ao (aM 4 nh.nd (bA cJ hr (aI aK (aI iY (Jd.iL K (aa 2)) (bV (iQ K) (dU (Jd.a3 aA (aI sQ aA aA) (aI sQ aA aA))) (Jd.iL K (aa 2)) 0#z)) (aa 3)) (aI cE (Jd.iL K (aa 2)) aA))) (ao (aM 5 nh.nd (bA cJ hr (aI aK (Jd.iL K (aa 2)) (aa 3)) (aI cE (Jd.iL K (aa 2)) aA))) (ao (aM 6 nh.nd (bV (iQ K) (dU (eN (aa 4) (eN (bu (br aA aA)) (Jd.a4 (bA cJ hr (aI aK aA (aB K (aa 4))) (aB K (aa 4))) (bA cJ hr (aB K (aa 4)) (aI aK aA (aB K (aa 4)))) (aa 5) (aa 5)) aek) bH)) (Jd.iL K (aa 2)) 0#z)) (ao (bU (jg (Jd.lF (bC cX (Jd.iL K (aa 2)) aA (aD _)) (uv (bC cX (aI iY (Jd.iL K (aa 2)) aA) aA (aD _))))) (aF (aM 4 nh.nd (bu (br aA aA)))) bY) (ao (aM 7 nh.nd (bu (Jd.a3 gU (bV (iQ K) 0#C (Jd.iL K (aa 2)) 0#z) (aa 4)))) (ao (aM 8 nh.nd (bu (Jd.a3 gU (bV (iQ K) 0#C (Jd.iL K (aa 2)) 0#z) (aa 6)))) (aF (aS (Jd.lC (bA kD hr (aa 7) (aa 8)) (Jd.oR (bA kD hr (aa 8) (aa 7))))))))))))))),?_⟩
 apply aC (mk:=.lst) 0#t λlw H1 s1 n1 e1=>?_
 apply aC (mk:=.lst) 0#t λl2 H2 s2 n2 e2=>?_
 refine ⟨a,ns,0,l2,[4,4,6,3,12,12,1000000,1000000],rfl,(s1.trans s2).seq hS,by decide,by decide,by rw [e2];rfl,by decide,by decide,λX xs H3 s3 n3 e3 n p=>?_⟩
 obtain ⟨d0,g0,a0,b0⟩:=mw n p 0 (z:=4) rfl
 obtain ⟨d1,g1,a1,R⟩:=mw n p 1 (z:=4) rfl
 obtain ⟨U,g2,a2,b2⟩:=mw n p 2 (z:=6) rfl
 obtain ⟨d3,g3,a3,b3⟩:=mw n p 3 (z:=3) rfl
 obtain ⟨d4,g4,a4,b4⟩:=mw n p 4 (z:=12) rfl
 obtain ⟨d5,g5,a5,b5⟩:=mw n p 5 (z:=12) rfl
 obtain ⟨d6,g6,a6,b6⟩:=mw n p 6 (z:=1000000) rfl
 obtain ⟨d7,g7,a7,b7⟩:=mw n p 7 (z:=1000000) rfl
 have aH:=(s2.trans s3) _ _ e1
 rw?
 apply aC (mk:=.lst) 0#t λl4 H4 s4 n4 e4=>?_
 refine dM (s4 _ _ e3) (cN g3 rfl) ?_
 obtain ⟨M,aR,c0,c1⟩:=VZ (zs:=[1,1,10 ^ 60]) (λz=>1<=z/\z<=10 ^ 60) 0#u a3 b3
 apply dM e4 aR ?_
 have al:=s4 _ _ e3
 apply dM al (cN g6 rfl) ?_
 refine aC (mk:=.lst) 0#t λl5 H5 s5 n5 e5=>?_
 have Y:=s5 _ _ al
 rw?
 refine dM Y (cN g3 rfl) ?_
 obtain ⟨I,aN,m0,m1⟩:=VZ (zs:=[3,10 ^ 6,10 ^ 6]) (λz=>3<=z/\z<=10 ^ 6) 0#u a3 b3
 refine dM e5 aN ?_
 have O:Sz 200 M:=size_le 0#r (WQ c1 0#u)
 have u0:0<=d6 % I:=CT _ 0#r
 have u1:d6 % I<I:=B6 _ 0#r
 have zu:Sz 20 (d6 % I):=size_le u0 (Ib u1 (tS m1 0#s))
 have z7:Sz 20 d7:=size_le a7 (Ib b7 0#s)
 have z4:Sz 220 (d4+1):=Sz.of_lt (k:=2 ^ 5) 0#r (Mv 0#s 0#s)
 have z5:Sz 220 (d5+1):=Sz.of_lt (k:=2 ^ 5) 0#r (Mv 0#s 0#s)
 have zl:Sz 8990 (d4+1):=z4.mono 0#s
 have bb:Sz 8990 (d5+1):=z5.mono 0#s
 rw?
 generalize d6 % I=u at *
 have zt:Sz 220 (u*M):=zu.mul O
 have XY:Sz 220 (d7*M):=z7.mul O
 have p1:0<=u*M:=yy u0 0#r
 have p2:0<=d7*M:=yy a7 0#r
 apply fR (bL zu O 0#s) ?_
 apply dM Y (cN g4 rfl) ?_
 refine ⟨u*M,d4+1,rfl,by simp?,zl,λbp t' b' H6 s6 e6 D=>?_⟩
 have fb:=um e6 D 0#r zt z4
 have nb:=EW p1 (show 0<d4+1 by simp?)
 clear D
 have Z:=s6 _ _ Y
 rw?
 apply dM Z (cN g7 rfl) ?_
 apply fR (bL z7 O 0#s) ?_
 apply dM Z (cN g5 rfl) ?_
 refine ⟨d7*M,d5+1,rfl,by simp?,bb,λfp t2 b2' H7 s7 e7 D=>?_⟩
 have ff:=um e7 D 0#r XY z5
 have nf:=EW p2 (show 0<d5+1 by simp?)
 clear D
 have ax:=s7 _ _ Z
 generalize ((u*M:Int):Rat)/((d4+1:Int):Rat)=β at *
 generalize ((d7*M:Int):Rat)/((d5+1:Int):Rat)=β2 at *
 obtain ⟨S,R,e8,f1,ai,IG⟩:=fb.up s7
 have ae:=f1.pos
 have a':0<=S:=by
  have hb:(0:Rat)<=(R:Rat):=by have:=cast_pos ae;grind
  have:((0:Int):Rat)<=(S:Rat):=by rw [f1.eq];exact DG nb hb
  exact Ou.mp this
 rw?
 refine aC (mk:=.tup) 0#t λoo H8 s8 n8 ay=>?_
 have e8:=s8 _ _ e8
 rw?
 refine ⟨2*S,R,rfl,ae,IG.mono 0#s,λr2 t3 b3' H9 s9 e9 D=>?_⟩
 have ba:Sz 221 (2*S):=by rw [SV];exact ai.add ai
 have an:Sz 221 (2*R):=by rw [SV];exact IG.add IG
 have ac:=um e9 D 0#r ba (IG.mono 0#s)
 have a8:=EW (show 0<=2*S by simp?) ae
 clear D
 have D3:=s9 _ _ e8
 rw?
 refine ⟨S,2*R,rfl,by simp?,an.mono 0#s,λr3 t4 b4' tT pH Yr D=>?_⟩
 have ad:=um Yr D 0#r (ai.mono 0#s) an
 have a9:=EW a' (show 0<2*R by simp?)
 clear D
 generalize ((2*S:Int):Rat)/(R:Rat)=β3 at *
 generalize (S:Rat)/((2*R:Int):Rat)=β4 at *
 rw?
 refine aC (mk:=.lst) 0#t λL Gs Cc n11 eL=>?_
 have U7:=s8.trans (s9.trans (pH.trans Cc))
 have YH:=(fb.up (s7.trans U7)).mono (show 220<=221 by decide)
 have ak:=(ff.up U7).mono (show 220<=221 by decide)
 have zr:∀{G:Hp} {q:af},G q=some (.tup [.int 0,.int 1])->bP G q 0 221:=λe=>⟨0,1,e,Fr.whole 0,by decide,by decide⟩
 have fz:=zr ((s9.trans (pH.trans Cc)) _ _ ay)
 have ac:=ac.up (pH.trans Cc)
 have ad:=ad.up Cc
 have TV:=U7 _ _ ax
 obtain ⟨x,v,ex,fx,nx⟩:∃(x:af) (v:Rat),tU [V.ref bp,.ref oo,.ref r2,.ref r3,.ref fp,.ref fp] U=some (.ref x)/\bP Gs x v 221/\0<=v:=by
  rcases (show U=0\/U=1\/U=2\/U=3\/U=4\/U=5 by simp?) with rfl | rfl | rfl | rfl | rfl | rfl
  ·exact ⟨bp,_,rfl,YH,nb⟩
  ·exact ⟨oo,_,rfl,fz,ko⟩
  ·exact ⟨r2,_,rfl,ac,a8⟩
  ·exact ⟨r3,_,rfl,ad,a9⟩
  ·exact ⟨fp,_,rfl,ak,nf⟩
  ·exact ⟨fp,_,rfl,ak,nf⟩
 rw?
 refine dM TV (cN g2 rfl) ?_
 refine dM eL ex ?_
 refine Qc ?_
 with_reducible refine iB (λar H'=>Tu λ(bq:af) (B:Rat)=>ar=[some (.ref a),some (.ref lw),some (.ref X),some (.int M),some (.ref bq),some (.ref fp),some (.ref x),none,none]/\ah Gs H'/\bP H' bq B 221/\0<=B) (λar H' hP=>?_) (λN hN=>?_)
 rotate_left
 ·rw?
  apply dM TV (cN g2 rfl) ?_
  refine c7 (λc1=>?_) (λc1=>?_)
  ·rw?
   apply dM TV (cN g6 rfl) ?_
   refine c7 (λc2=>?_) (λc2=>?_)
   ·rw?
    refine aC (mk:=.tup) 0#t λz H12 J n12 Ys=>?_
    exact hN _ _ ⟨z,0,rfl,J,zr Ys,ko⟩
   ·rw?
    exact hN _ _ ⟨bp,_,rfl,ah.refl _,YH,nb⟩
  ·apply bF ?_
   exact hN _ _ ⟨bp,_,rfl,ah.refl _,YH,nb⟩
 obtain ⟨bq,B,rfl,J,fq,nq⟩:=hP
 obtain ⟨w1,aT⟩:∃wy:Wy,tU [V.str (xJ "apart"),V.str (xJ "joined"),V.str (xJ "spans"),V.str (xJ "chain")] d0=some (.str (F5 wy)):=by
  rcases (show d0=0\/d0=1\/d0=2\/d0=3 by simp?) with rfl | rfl | rfl | rfl
  ·exact ⟨.ap,rfl⟩
  ·exact ⟨.jo,rfl⟩
  ·exact ⟨.sp,rfl⟩
  ·exact ⟨.ch,rfl⟩
 obtain ⟨w2,aU⟩:∃wy:Wy,tU [V.str (xJ "apart"),V.str (xJ "joined"),V.str (xJ "spans"),V.str (xJ "chain")] d1=some (.str (F5 wy)):=by
  rcases (show d1=0\/d1=1\/d1=2\/d1=3 by simp?) with rfl | rfl | rfl | rfl
  ·exact ⟨.ap,rfl⟩
  ·exact ⟨.jo,rfl⟩
  ·exact ⟨.sp,rfl⟩
  ·exact ⟨.ch,rfl⟩
 have eW:=(s4.trans (s5.trans (s6.trans (s7.trans (U7.trans J))))) _ _ aH
 have eX:=J _ _ TV
 have fx:=fx.up J
 clear p
 rw?
 refine dM eX (cN g0 rfl) ?_
 apply dM eW aT ?_
 apply aC (mk:=.tup) 0#t λru H13 EX n13 TU=>?_
 refine dM (EX _ _ eX) (cN g1 rfl) ?_
 apply dM (EX _ _ eW) aU ?_
 refine aC (mk:=.tup) 0#t λag aj HK n14 aw=>?_
 have R1:qd aj ru w1 B:=⟨bq,HK _ _ TU,fq.up (EX.trans HK)⟩
 have R2:qd aj ag w2 v:=⟨x,aw,fx.up (EX.trans HK)⟩
 rw?
 apply ⟨ru,ag,w1,w2,B,v,rfl,R1,R2,nq,nx,λH15 am=>?_⟩
 apply bO ?_
 exact ⟨ag,ru,w2,w1,v,B,rfl,R2.up am,R1.up am,nx,nq,λas s16=>k as⟩
def all_mk {l:Sq} {w:dh} {K:bJ} {h:cA} {mg:0#h} {fa:af} (X:K.In h) (G:h.Ns dZ mg) (hfa:mg "law"=some (.ref fa)) {Vo:Tok} {Vp:Tok} {aH:af} {aq:af} {zQ:af}
 (Nb:iz K dZ "Stretch"=some (some (.ref aH))) (J5:DB K aH S3=true) (Jv:Ig K aH=true) (J8:MD K aH=true) (Kz:jF K (.ref aH) "__setattr__"=some (some (.builtin "object.__setattr__"))) (JH:MM K aH=true) (JC:ve K (.ref aH)=true)
 (vJ:jF K (.ref aH) "twice"=some none)
 (sN:jF K (.ref aH) "samples"=some none)
 (rN:jF K (.ref aH) "gentlest"=some none)
 (rO:jF K (.ref aH) "steepest"=some none)
 (Yj:iz K dZ "Bend"=some (some (.ref aq))) (UX:DB K aq S3=true) (Uo:Ig K aq=true) (UZ:MD K aq=true) (U9:jF K (.ref aq) "__setattr__"=some (some (.builtin "object.__setattr__"))) (UD:MM K aq=true) (Uz:ve K (.ref aq)=true)
 (Cz:jF K (.ref aq) "bound"=some none)
 (CA:jF K (.ref aq) "twice"=some none)
 (Cy:jF K (.ref aq) "below"=some none)
 (Cw:jF K (.ref aq) "above"=some none)
 (vH:jF K (.ref aq) "gentlest"=some none)
 (vI:jF K (.ref aq) "steepest"=some none)
 (Jo:Fx K "_law_cell" sY)
 (Nr:Fx K "_law_mix" wc)
 (Nt:Fx K "_law_row" we)
 (GV:Fx K "_law_ratio" qC)
 (Ab:Fx K "_law_is_ratio" lN)
 (x8:Fx K "plain_divisor" j8)
 (vD:Fx K "steps_of_heads" jA)
 (Nq:Fx K "divisor" vZ)
 (Ug:Fx K "ratio" E5)
 (Nx:Fx K "reduced" wm)
 (Ea:Fx K "loose_plus" o6)
 (rT:Fx K "loose_minus" jK)
 (Cp:Fx K "loose_times" m7)
 (Ud:Fx K "minus" E3)
 (Y7:Fx K "plus" Kw)
 (Y6:Fx K "over" Kv)
 (mU:Fx K "loose_slope" ir)
 (Cm:Fx K "loose_along" m5)
 (Ac:Fx K "loose_height" lO)
 (GX:Fx K "loose_off" qE)
 (Ui:Fx K "slope" E7)
 (Nu:Fx K "line_by" wg)
 (Pq:Fx K "height" AY)
 (Y5:Fx K "meet" Ku)
 (Ue:Fx K "order" E4)
 (h_size:Fx K "size" Ky)
 (Co:Fx K "loose_stand" m6)
 (Y8:Fx K "runs" Kx)
 (vB:Fx K "loose_farthest" jy)
 (Jl:Fx K "greatest" sW)
 (Js:Fx K "smallest" tE)
 (Cj:Fx K "good_behind" mY)
 (Ub:Fx K "leaps" E1)
 (GR:Fx K "labels_by" qz)
 (Nn:Fx K "bars_by" vX)
 (sI:Fx K "places_of_pieces" iF)
 (x6:Fx K "piece_between" j7)
 (Ju:Fx K "tied_run" tG)
 (Jt:Fx K "tied_row" tF)
 (Uj:Fx K "spans" E8)
 (Ua:Fx K "chain" EZ)
 (zZ:Fm K aH "__init__" "Stretch.__init__" lJ)
 (xZ:Fx K "gentlest_with" j6)
 (x9:Fx K "steepest_with" j9)
 (xX:Fm K aH "takes" "Stretch.takes" j4)
 (z9:Fm K aH "kept" "Stretch.kept" lK)
 (GY:Fx K "stretches" qF)
 (Af:Fx K "whole_points" lQ)
 (Cg:Fx K "above_chord" mW)
 (Cr:Fx K "scaled_offs" m9)
 (GQ:Fx K "exchanged" qy)
 (xY:Fx K "forcing_three" j5)
 (Uk:Fx K "stand" E9)
 (Ul:Fx K "times" Fc)
 (Y3:Fx K "best" Kr)
 (Cq:Fx K "piece_along" m8)
 (D7:Fx K "best_piece" oY)
 (Aa:Fx K "ending_three" lM)
 (T9:Fx K "apart" EY)
 (Ad:Fx K "opposite" o7)
 (D8:Fx K "is_steeper" oZ)
 (Nz:Fx K "touched" wz)
 (GL:Fm K aq "__init__" "Bend.__init__" qv)
 (zY:Fm K aq "line_of" "Bend.line_of" lI)
 (rL:Fm K aq "ended_in_cap" "Bend.ended_in_cap" gZ)
 (rM:Fm K aq "ended_in_cup" "Bend.ended_in_cup" g8)
 (GN:Fm K aq "take" "Bend.take" qw)
 (xW:Fm K aq "line_now" "Bend.line_now" j3)
 (Jq:Fx K "links_of" tu)
 (Jr:Fx K "point_on" tD)
 (Ae:Fx K "pieces_along" lP)
 (Pu:Fx K "joined" AZ)
 (Ny:Fx K "told_by" wu)
 (Ck:Fx K "is_fraction" mZ)
 (Jm:Fx K "is_wrong" sX)
 (Np:Fx K "checked" vY)
 (GP:Fx K "check_way" qx)
 (Ci:Fx K "check_bound" mX)
 (Pp:Fx K "fewest" AX)
 (Y4:Fx K "many" Ks)
 (Uc:Fx K "least" E2)
 (vC:Fx K "rows_for_least" jz)
 (Uh:Fx K "reach" E6)
 (Pw:Fx K "row_of" Ba)
 (uq:Fx K "rows_for_fewest" i6)
 (Po:Fx K "answer" AW)
 (Nv:Fx K "parting" wj)
 (GW:Fx K "_law_stand" qD)
 (Jp:Fx K "_law_edge" sZ)
 (GU:Fx K "_law_count" qB)
 (GS:Fx K "_law_alike" qA)
 (D9:Fx K "_law_parted" o4)
 (aaR:Fx K "law" Q3)
 (YT:iz K dZ "HEAD"=some (some (.int 256 Vo)))
 (YU:iz K dZ "MOST"=some (some (.int 40 Vp)))
 (RO:Gt K "WAYS" zQ "apart" "joined" "spans" "chain")
 (ace:iz K dZ "len"=some none)
 (ab7:iz K dZ "abs"=some none)
 (Vt:iz K dZ "range"=some none)
 (F7:iz K dZ "isinstance"=some none)
 (acd:iz K dZ "int"=some none)
 (aar:iz K dZ "bool"=some none)
 (Vu:iz K dZ "tuple"=some none)
 (aas:iz K dZ "list"=some none)
 (acf:iz K dZ "max"=some none)
 (acg:iz K dZ "min"=some none)
 (HU:iz K dZ "enumerate"=some none)
 (acj:iz K dZ "zip"=some none)
 (ab8:iz K dZ "all"=some none)
 (ab9:iz K dZ "any"=some none)
 (aci:iz K dZ "sum"=some none)
 (RQ:iz K dZ "sorted"=some none)
 (K9:iz K dZ "reversed"=some none)
 (ach:iz K dZ "str"=some none) :
 ∃fd:fU,(∀(s:aZ) (v:aE),BindsTo s fd ⟨[v],[]⟩ [("_law_script",v)])/\∀base:cA,K.In base->base.Ns dZ mg->aX l.prog w K mg base cO 16 fa fd [cg] (HP K):=-by
 obtain ⟨_,YJ,H,Z⟩:=aaR
 have e:=hfa.symm.trans (BW X G H)
 cases e
 have T:Txt mg:=⟨pO X G ace,pO X G ab7,pO X G Vt,pO X G F7,pO X G acd,pO X G aar,pO X G Vu,pO X G aas,pO X G acf,pO X G acg,pO X G HU,pO X G acj,pO X G ab8,pO X G ab9,pO X G aci,pO X G RQ,pO X G K9,pO X G ach⟩
 obtain ⟨_,_,zJ,Ah,qc⟩:=zZ
 obtain ⟨_,_,Gw,G7,wQ⟩:=GL
 have sq:Cn mg "HEAD" 256:=⟨_,BW X G YT⟩
 have IJ:Cn mg "MOST" 40:=⟨_,BW X G YU⟩
 have A:Cl K mg "Stretch" aH ["twice",aQ,gD,gE]:=⟨⟨J5,Jv,J8,Kz⟩,BW X G Nb,⟨vJ,sN,rN,rO,trivial⟩⟩
 have n:Cl K mg "Bend" aq [aL,"twice","below","above",gD,gE]:=⟨⟨UX,Uo,UZ,U9⟩,BW X G Yj,⟨Cz,CA,Cy,Cw,vH,vI,trivial⟩⟩
 have IV:mg "WAYS"=some (.ref zQ):=BW X G RO.1
 refine ⟨YJ,λs v=>?_,λbase _ _=>?_⟩
 ·obtain ⟨_,_,_,_,_,_,_,_,_,rfl,_,_⟩:=Z.ex
  exact .of_eq rfl
 have Y:Tp l.prog w K mg base:=⟨h,X,G⟩
 have oF:=Y.d Jo λF=>Hw F T
 have qW:=Y.d Nr λF=>JP F
 have vo:=Y.d Nt λF=>JQ F T oF qW
 have L:=Y.d GV λF=>Ez F T
 have kT:=Y.d Ab λF=>yh F T L
 have jX:=Y.d x8 λF=>vP F T
 have jr:=Y.d vD λF=>uG F sq
 have R:=Y.d Nq λF=>JO F T sq jX jr
 have qX:=Y.d Ug λF=>Qk F T R
 have u:=Y.d Nx λF=>JT F qX
 have B:=Y.d Ea λF=>CF F
 have p:=Y.d rT λF=>Av F
 have N:=Y.d Cp λF=>Ay F
 have yC:=Y.d Ud λF=>Qi F p u
 have D:=Y.d Y7 λF=>UM F B u
 have IQ:=Y.d Y6 λF=>UL F qX
 have fJ:=Y.d mU λF=>Aw F p
 have M:=Y.d Cm λF=>Au F B N
 have eB:=Y.d Ac λF=>yi F B N
 have pX:=Y.d GX λF=>EB F p eB
 have yE:=Y.d Ui λF=>Qn F fJ u
 have jk:=Y.d Nu λF=>JR F M u
 have S:=Y.d Pq λF=>NW F eB u
 have IP:=Y.d Y5 λF=>UK F IQ yC S
 have z:=Y.d Ue λF=>Qj F
 have mQ:=Y.d Co λF=>Ax F p M fJ
 have U:=Y.d Y8 λF=>UN F T
 have kW:=Y.d rT λF=>yj F
 have kX:=Y.d mU λF=>yk F kW
 have jl:=Y.d vB λF=>uE F T z kX
 have E:=Y.d Jl λF=>Hu F z
 have jq:=Y.d Js λF=>HB F z
 have I:=Y.d mU λF=>ym F p
 have mO:=Y.d Cj λF=>Ar F T z B p I E jq
 have DP:=Y.d Ub λF=>Qg F T mO
 have pV:=Y.d GR λF=>Ew F T
 have vh:=Y.d Nn λF=>JM F T jl
 have iD:=Y.d sI λF=>rP F T
 have jW:=Y.d x6 λF=>vO F T
 have sy:=Y.d Ju λF=>HD F T DP pV iD jW vh
 have jt:=Y.d Jt λF=>HC F T U sy
 have DS:=Y.d Uj λF=>Qo F T jt
 have DO:=Y.d Ua λF=>Qf F T jt
 have qV:Dk l.prog w K mg base 6 "Stretch" aH [bN,aL] (Bu aH):=⟨_,_,ye qc A D,⟨JH,zJ,Ah,JC⟩,(qc.DW λ_ _ _ _ _ _ _ _=>rfl),A.at_⟩
 have O:=Y.d xZ λF=>vN F T p I E
 have Q:=Y.d x9 λF=>vQ F T B I jq
 have iA:=Y.m xX λF=>vL F T A O Q z
 have iS:=Y.m z9 λF=>yf F T A
 have pZ:=Y.d GY λF=>ED F T A qV iA iS
 have lg:=Y.d Af λF=>yp F R
 have jH:=Y.d Cg λF=>Ao F
 have mS:=Y.d Cr λF=>AA F jH
 have pU:=Y.d GQ λF=>Eu F
 have jV:=Y.d xY λF=>vM F T lg mS pU
 have DT:=Y.d Uk λF=>Qp F u mQ
 have DU:=Y.d Ul λF=>Qq F N u
 have DR:=Y.d h_size λF=>Qm F T
 have vm:=Y.d Y3 λF=>UI F T yE jk jV DU DT D DR
 have mR:=Y.d Cq λF=>Az F S
 have oE:=Y.d D7 λF=>CB F mR vm
 have kR:=Y.d Aa λF=>yg F T vm
 have DN:=Y.d T9 λF=>Qe F T U pZ oE kR
 have jm:=Y.d Ad λF=>Hz F
 have kB:=Y.d D8 λF=>CC F z
 have iJ:=Y.d Nz λF=>JV F z pX
 have IL:Dk l.prog w K mg base 6 "Bend" aq [bN,aL] (yT aq):=⟨_,_,Er wQ n D,⟨UD,Gw,G7,Uz⟩,(wQ.DW λ_ _ _ _ _ _ _ _=>rfl),n.at_⟩
 have J:=Y.m zY λF=>yd F n u M p E
 have gV:=Y.m rL λF=>ql F n J iJ jm Q
 have gW:=Y.m rM λF=>qm F n J iJ jm O
 have pS:=Y.m GN λF=>Es F n O Q kB gV gW
 have jU:=Y.m xW λF=>vK F T n jk J
 have su:=Y.d Jq λF=>Hy F T n IL pS jU
 have oG:=Y.d Jr λF=>HA F S
 have kZ:=Y.d Ae λF=>yo F T oG IP
 have zo:=Y.d Pu λF=>NX F T U su kZ
 have vt:=Y.d Ny λF=>JU F DN zo DS DO
 have mP:=Y.d Ck λF=>As F R
 have sr:=Y.d Jm λF=>Hv F T IJ mP
 have vn:=Y.d Np λF=>JN F T sr
 have pT:=Y.d GP λF=>Et F IV RO.2
 have mL:=Y.d Ci λF=>Aq F
 have zk:=Y.d Pp λF=>NV F pT mL vn vt
 have IM:=Y.d Y4 λF=>UJ F T zk
 have DQ:=Y.d Uc λF=>Qh F
 have jn:=Y.d vC λF=>uF F
 have pY:=Y.d Ad λF=>EC F
 have yD:=Y.d Uh λF=>Ql F D
 have nA:=Y.d Pw λF=>NY F T
 have iU:=Y.d uq λF=>sO F yD E D nA pY
 have jO:=Y.d Po λF=>NU F IM DQ
 have vq:=Y.d Nv λF=>JS F T iU jn jO
 have l9:=Y.d GW λF=>EA F T
 have iC:=Y.d Jp λF=>Hx F L
 have l7:=Y.d GU λF=>Ey F T l9 iC
 have pW:=Y.d GS λF=>Ex F
 have kD:=Y.d D9 λF=>CD F T vq pW iC kT l7 jO
 exact ZD Z T vo L kD
def walk {l:Sq} {q:fP} {loose:List Str} {XP:(Str->Option aE)->cA->Prop} {YP:dh->cA->Prop} {d:DefRec} {K:Params->bJ} (hn:l.most=some 63) (hdf:d.params.defaults=[])
 (hY:∀(w:dh) (h:cA),YP w h->(K w.params).In h)
 (F:∀(w:dh) (mg:0#h) (fa:af) (h:cA),(K w.params).In h->h.Ns dZ mg->mg d.name=some (.ref fa) ->
   ∃fd:fU,(∀(s:aZ) (u:aE),BindsTo s fd ⟨[u],[]⟩ [("_law_script",u)])/\∀base:cA,(K w.params).In base->base.Ns dZ mg->aX l.prog w (K w.params) mg base cO 16 fa fd [cg] (HP (K w.params))) :
 Xs q loose XP YP l.row.toRowW d [] (λf vs=>S2 f vs):=
 L2.Vr (n:=63) (k:=16) (x := "_law_script") (CX:=λ_=>cO) (sp:=λw=>HP (K w.params)) hn 0#s hdf ⟨rfl,by decide,by decide⟩ hY F (λ_ _ a ns hl _ hS=>⟨a,ns,rfl,hS,hl,λ_=>rfl⟩) λ_ _ _ _ _ z=>z
end Lw
open PySem PySem.W PyProof.Rows
set_option maxRecDepth 100000 in
set_option maxHeartbeats 0 in
theorem PySem.Challenge.cw_lath_k81_rules_by_bounds_holds : PySem.Challenge.rw_lath_k81_rules_by_bounds.Holds := by
 w_on;o_law;k_head;(case hw=>w_witness2)
 k_fill
 refine Lw.walk (l:=PySem.Challenge.rw_lath_k81_rules_by_bounds) rfl rfl (fun w h Y=>PySem.W.kIn_of Y) ?F
 case F=>
  intro w mg fa h KX G hmg
  refine' Lw.all_mk KX G hmg .. <;> first | done | walk_at "fz" | skip
