import PyProof.Rows.All
import Wide.FinOn
import KE.KFromBytes
import KE.KIntText
import KE.KItem
import KE.KListMore
import KE.KRevIter
import KE.LcSums
import KE.RegKIsAll
import KE.RegKTryMore
import KE.KDictSum
import PySem.Challenge.RW_lath_k74_deeds
set_option Elab.async false
set_option linter.all false
set_option compiler.extract_closed false
set_option maxRecDepth 100000
noncomputable section
set_option hygiene false
local macro_rules
|`(0#a)=>`(λcdv A outer s H vs Q E hr h=>?_)
|`(1#a)=>`((aC _))
local macro_rules
|`(0#b)=>`(bf P w K mg base dw)
|`(1#b)=>`((model prog w))
local macro_rules
|`(0#c)=>`(Dn P w K mg base)
|`(1#c)=>`((di X (O++N') scope cl h3.objs.size { s2 with heap:=h3,toks:=s2.toks } (upd H2 D (.lst [])) fp (X.pn++pins)))
local macro_rules
|`(0#d)=>`(Inv X pins σ H s)
|`(1#d)=>`((aO K 0#A))
local macro_rules
|`(0#e)=>`((x==("__debug__":Str))=false)
|`(1#e)=>`((.ref f))
local macro_rules
|`(0#f)=>`(dg (e::es) X.env=(false,eval e X.env)::dg es X.env)
|`(1#f)=>`((s.heap.objs.size+1))
local macro_rules
|`(0#g)=>`(Str→Option bq)
|`(1#g)=>`((.Call (.Name x p) (e::es) [] pos))
local macro_rules
|`(0#h)=>`(List En)
|`(1#h)=>`((s1.trans s2))
local macro_rules
|`(0#i)=>`((gc pos (dg es X.env)).any (·.1)=false)
|`(1#i)=>`((ns.map V.int))
local macro_rules
|`(0#j)=>`(fm C H p d wy β cs mk)
local macro_rules
|`(0#k)=>`(X.fn x=true∨X.env.scope.names.lookup x=some .local)
local macro_rules
|`(0#l)=>`(List (ah×Obj))
local macro_rules
|`(0#m)=>`(Option Int)
local macro_rules
|`(0#n)=>`(List V)
local macro_rules
|`(0#o)=>`(∀y∈scope.names,y.2=.local→scope.names.lookup y.1=some .local)
local macro_rules
|`(0#p)=>`(∀{b:ah} {xs:0#n},H b=some 0#Z→H' b=some 0#Z)
local macro_rules
|`(0#q)=>`((apos.endLine==cpos.line)=true)
local macro_rules
|`(0#r)=>`(Mg P w K mg base)
local macro_rules
|`(0#s)=>`(bf P w K mg base)
local macro_rules
|`(0#t)=>`(⟨rfl,rfl,rfl,by decide +kernel,rfl,by decide +kernel,by decide +kernel⟩)
local macro_rules
|`(0#u)=>`((by try?))
local macro_rules
|`(0#w)=>`((by simp))
local macro_rules
|`(0#x)=>`((by decide +kernel))
local macro_rules
|`(0#y)=>`((by decide))
local macro_rules
|`(0#z)=>`((by simp?))
local macro_rules
|`(0#A)=>`((aa 0))
local macro_rules
|`(0#B)=>`((λ_ _=>rfl))
local macro_rules
|`(0#C)=>`((model X.prog X.w))
local macro_rules
|`(0#D)=>`((Or.inl rfl))
local macro_rules
|`(0#E)=>`((aD "steepest" .bM (aD "gentlest" (.ref ps) (aD "above" (.ref D) fs))))
local macro_rules
|`(0#F)=>`((aD "gentlest" .bM (aD "steepest" (.ref ps) (aD "below" (.ref D) fs))))
local macro_rules
|`(0#G)=>`((hr.mono 0#y))
local macro_rules
|`(0#H)=>`((aa 1))
local macro_rules
|`(0#I)=>`((wk aU aN aK bA bR aQ bu aL))
local macro_rules
|`(0#J)=>`((di X (O++N') scope (ja X.env.cells scope.names []) C s0 H0 ex' ic))
local macro_rules
|`(0#K)=>`((λc=>?_))
local macro_rules
|`(0#L)=>`(([.type "ValueError",.type "Exception",.type "BaseException",.type "object"]))
local macro_rules
|`(0#M)=>`(⟨_,rfl,?_⟩)
local macro_rules
|`(0#N)=>`((.ListComp elt [⟨tg,iter,ifs,0⟩] scope pos))
local macro_rules
|`(0#O)=>`((lG (mO P w) P w K mg base N qual scope f cd A outer s0 H0 E))
local macro_rules
|`(0#P)=>`((aa 2))
local macro_rules
|`(0#Q)=>`((aD "twice" (.ref tw) (aD "bound" (.ref pb) [])))
local macro_rules
|`(0#R)=>`((.lst (vals es)))
local macro_rules
|`(0#S)=>`((cQ K 0#A))
local macro_rules
|`(0#T)=>`(⟨rfl,rfl,rfl,rfl⟩)
local macro_rules
|`(0#U)=>`((λcdv A outer s H vs Q E hr h=>?_))
local macro_rules
|`(0#V)=>`((ao.refl _))
local macro_rules
|`(0#W)=>`((ss++[(x,m,some q)]))
local macro_rules
|`(0#X)=>`((aa 3))
local macro_rules
|`(0#Y)=>`((by kernel_rfl))
local macro_rules
|`(0#Z)=>`((.tup xs))
set_option hygiene true
open PySem.W renaming Frag->bU,findIn->iz,nsIn->fX,mg_none_of->t8,mg_of->qO,keepIn->tQ,fnOf->pN,exmOne->vI,kia_one->B4,emptyDict->Mv,kitOne->Hi,codeIn->vE,excIn->tX,hasDictIn->CB,instObj->CG,isFn->xg,plainGet->GX,notCls->CH,plainOver->OD,makesIn->OJ,callWith_K->Uj,InstAt->OR,cellsFrom_some->Zi,plainGet_of->Zq,lookIn->Uz,methodObj->Zw,specialIn->Zx,mroIn->UB,takerIn->ZG,takesIn->ZH,OpenLaw->ZI,methodCall_KW->acH,hideAll_get->acS,of_hideAll->acZ,any_some->UJ,codeRec_of->ac0,kitx_list->ac6,kitx_dict->ac7,handedIn->adm,looks_findIn->adn,hideAll->ady,WalkO->adU
open PySem renaming Addr->ah,Value->bq,starEach->dg,mainGlobals->dJ,Shared->bB,wpAny_bind->dX,Stmt->aS,wpAny->bY,Expr->bz,wpAny_pure->jW,FuncData->ia,Program->fT,Str->kI,backTo->gc,wpAny_mono->pO,attributeBase->wF,World->dO,Heap->cH,compareOp->pP,foldedSetIterable->Mu,swapsWith->kR,keywordEach->qd,assignEach->rS,bootBuiltins->wZ,take_succ_filter->Oq,Around->je,wpAny_passesOwn->GZ,binaryOp->pI,mem_of_lookup->Ov,backToKw->qe,sysModules->xr,wpAny_Call_Name_kw->OA,Keyword->nN,tupleKind_room_in1->OB,wpAny_holding->G4,intBits_le_iff->JP,sliceBounds->G7,wpAny_truthy_bool->Ul,bindArgs->xu,codeAny_mono->JS,getMethod->CM,NameKind->Au,wpAny_execs_nil->Uu,cLine->mG,standAt->xy,Scope->nO,wpAny_newFunctionEnv_cells->aco,call_meets->JV,codeAny->Av,wpAny_standAt->UA,PyData->vH,wpAny_call->OU,valueAt->CO,codeAny_call_function->acI,sizeLine_eq->UG,setField->ZN,boot_len->ZO,BindsTo->G9,callerA->Hf,frameOf->ZR,Within->ZU,wpAny_assign_Name->ac3,wpAny_newObj_type->ac5,seqIndex_neg->ZZ,slot_list_getitem->ac8,call_meetsIn->Z1,wpAny_Call_method->ada,unsupported->ade,wpAny_pyIter_enum->adf,wpAny_execs_cons->adl,PassesOwn->UK,noFill_tuple_add->adp,wpAny_pyIter_zip->adt,seqIndex_of->Z6,atKey->Ax,wpAny_Name->aaa,wpAny_bindName->adG,wpAny_loadPart->adH,bindL->CP,bindC->CQ,typeIs_int->aac,call->aae,intBits_le_64->adQ,seq_tuple_add->adR,evalPart_none->adS,call_list_seq->adT,wpAny_attempt->adX,field->ael
open List renaming length_append->jf,length_map->iI,getElem?_eq_some_iff->tP,mem_of_getElem?->g8,getElem?_eq_getElem->jE,getElem?_map->gF,mem_append->i8,size_toArray->kG,map_append->jM,length_drop->mH,mem_cons->kM,mem_map->kc,take_length->qN,replicate->ow,range->jg,getElem?_drop->yH,mem_append_right->DE,take_add_one->yI,mem_cons_of_mem->DF,Nodup->mL,getElem?_append_left->Mr,mem_append_left->Hh,map_cons->uh,mem_range->wD,getElem?_append_right->Sg,drop_append_of_le_length->V3,find?_cons->DG,length_cons->IL,length_take->IM,map_map->Az,getElem?_range->OY,length_replicate->Si,mem_filter->wW,mem_cons_self->CA,append_nil->Ar,length_singleton->JH,filter_cons->CD,not_mem_nil->CF,getElem?_replicate->Oo,length_pos_iff->JJ,flatten_append->JK,mem_filterMap->JL,mem_singleton->JM,range_succ->G2,replicate_succ->Ow,map_congr_left->Ox,drop_of_length_le->T9,filter_append->OC,nodup_cons->JO,length_filter_le->Ub,flatten_cons->OE,length->CJ,lookup_cons->OI,filter_sublist->Ui,all_cons->JQ,any_cons->JR,getElem?_take->Uk,lookup->G6,length_eq_zero_iff->Zg,filter_cons_of_pos->Zh,take_sublist->Um,take_of_length_le->Zk,drop_sublist->Uq,filter_eq_nil_iff->Zl,map->xw,take_append_drop->Zn,getElem_mem->Ut,mem_of_mem_drop->Zo,of_mem_zip->Uw,filterMap_cons->Zp,all_eq_true->ZF,pairwise_singleton->acy,filter_cons_of_neg->acz,getElem?_set_self->acA,map_nil->UC,filter_map->ZL,getElem?_eq_none->acM,getElem?_set_ne->acN,mem_of_mem_take->acP,nodup_nil->ZP,getElem?_of_mem->acR,reverse_cons->ac9,ext_getElem?->adb,nodup_append->adi,length_range->adj,pairwise_map->adk,map_reverse->adv,mem_flatMap->adw,drop_length->adx,nil_append->adz,length_nil->adA,lookup_nil->adE,filter_nil->adF,foldl->aad,drop_drop->adN,take_succ->adO,all_nil->ad9,all->aes
open Nat renaming le_refl->gI,le_trans->g9,lt_of_lt_of_le->nI,zero_le->jV,ne_of_lt->mK,le_of_lt->wG,lt_of_le_of_lt->Mt,lt_irrefl->wY,succ_le_succ->GY,not_lt_zero->ON,add_comm->JT,le_succ_of_le->Uo,le_add_right->Us,min_eq_left->Uy,le_succ->OT,gcd_dvd_right->ZC,lt_trichotomy->ZD,eq_zero_of_not_pos->acF,two_pow_pos->ZJ,pow_le_pow_right->acO,le_of_dvd->ZS,add_sub_cancel->ac1,gcd_zero_right->ac2,ne_of_gt->ZV,le_of_eq->ZW,lt_trans->Z0,lt_succ_of_lt->adg,succ_pos->Z5,lt_succ_self->ado,min_eq_right->adu,gcd->OW,mul_comm->ad1,gcd_comm->ad2,lt_or_ge->ad5,le_total->ad6,sub_self->aea,add_zero->aec,add_mul->aem,one_mul->aen,mod_lt->aeq
open Bool renaming false_ne_true->pJ,eq_false_iff->gH,and_eq_true->ue,eq_iff_iff->Uv,not_eq_true'->ZA,and_false->adJ,false_or->adV
open PySem.Heap renaming lt_size->fW,get?_push_of_some->pM,get?_push_size->IJ,FlyingW->xm,SameBut->CI,get?_update_other->Zj,get?_update_self->acJ,size_push->adI
open PySem.PassesOwn renaming never->j9
open Int renaming gcd->cL,fdiv_eq_ediv_of_nonneg->Hg,mul_le_mul_of_nonneg_right->OX,gcd_pos_of_ne_zero_right->Sf,emod_lt_of_pos->IK,le_trans->Ay,neg_nonneg_of_nonpos->JG,mul_nonneg->wX,emod_nonneg->As,le_of_lt->vF,natAbs_of_nonneg->JI,mul_comm->xh,dvd_mul_of_dvd_right->T6,natAbs_neg->G3,natCast_nonneg->Oz,mul_ediv_add_emod->Uc,natAbs_add_le->OF,gcd_dvd_right->OG,gcd_dvd_left->OH,not_lt->CK,mul_le_mul->OS,sub_pos_of_lt->Up,ediv_le_self->Ur,mul_pos->JU,toNat->G8,natAbs_natCast->Zt,lt_of_lt_of_le->Zu,lt_of_mul_lt_mul_left->acp,toNat_natCast->Zz,mul_fdiv_cancel_left->acr,ediv_le_ediv->ZE,le_ediv_iff_mul_le->acE,ofNat_le->UD,fdiv_nonneg->ZK,natAbs_dvd_natAbs->acL,natAbs_mul->ZM,one_mul->UH,neg_mul->UI,sub_nonneg_of_le->acQ,ediv_mul_cancel->acT,toNat_of_nonneg->acU,gcd_comm->Z2,ne_of_gt->Z4,neg_neg->Z7,mul_neg->Z8,pow_pos->Z9,ediv_nonneg->adB,le_natAbs->adZ,lt_or_le->ad4,ne_of_lt->ad7,le_refl->aef,dvd_gcd->aeg,dvd_add->aeh,pow_add->aei,natAbs->aer
open PyProof.Rows renaming boot_isinstance->B0,boot_abs->II,callWith_type1->Ol,envOfC->fS,boot_list->Ua,boot_max->Ud,boot_min->Ue,AllBare->xx,assignInOrder_cons->Zr,IntsAre->Aw,boot_sorted->acs,subscriptTail_builtinR->acC,boot_bool->acG,assignInOrder_nil->ac4,callWith_builtin1->aiM,Subscript_->aab,boot_tuple->aja
open PySem.Builtin.Int renaming intBits->wC
open Rat renaming intCast_lt_intCast->B3,not_lt->kH,intCast_mul->yJ,intCast_sub->yK,mul_le_mul_of_nonneg_right->V2,mul_lt_mul_right->Ms,le_refl->rQ,mul_lt_mul_of_pos_right->T3,le_trans->xo,intCast_le_intCast->Ot,le_of_mul_le_mul_right->Ze,intCast_inj->OL,intCast_neg->OM,le_antisymm->OP,not_le->CL,intCast_pos->Ux,lt_irrefl->ZT,intCast_add->adC,mul_eq_zero->adD,mul_nonneg->adK,div_lt_iff->adL,lt_div_iff->adM,mul_comm->aeb,mul_pos->aej
open Option.some renaming inj->uf
open Ne renaming symm->jx
open Option renaming map_eq_some_iff->Sh,isSome_map->CC,isSome_iff_exists->Om,map->vG,not_isSome_iff_eq_none->acm,getD_none->adq,bind_some->ads
open False renaming elim->rR
open PySem.PyData renaming eqv->tY,depthAll->OO,canLayAll0->adh,eqvAll->adY,depth->ad8
open PySem.Builtin.List renaming listTooLong->T4
open PySem.F renaming plainAttrs_list->T7,slot_dict_get->Zm,args_tuple_add_2->acq,entry_tuple_add->acu,args_dict_get_2->acv,plainAttrs_dict->acw,slot_tuple_add->acB,entry_dict_get->acD,slot_dict_pop->acK
open PySem.Calls renaming callWith_builtin->T8,evalArgs_plain->Ug,Name_function_global->acn,spliced_cons->Zs,spliced_nil->Zy
open PySem.SeqAt renaming shaped->G5,EqAt->aeo
open Classical renaming byContradiction->Zf
open Array renaming length_toList->Uh,toList->ad0
open PySem.Obj renaming mapSeq->OV,mapFields->ZQ
open Sum.inl renaming inj->UE
open PySem.EntryCells renaming newEntry->acV
open PySem.BindsTo renaming of_defaults->acW
open PySem.SeqAt.EqAt renaming int_str->acX,str_int->acY,none_bool->ajb,bool_none->ajc,bool_bool->ajd,none_int->ajg,none_str->ajh,bool_int->aji,bool_str->ajj,int_none->ajk,int_bool->ajl,str_none->ajm,str_bool->ajn,int_int->ajr,str_str->ajs,same->ajx
open PySem.Around renaming under->ZX
open PySem.Code renaming isFrame->ZY,frames->aee
open PySem.Str renaming empty->UL
open PySem.EqNone renaming eq_none_none->aiN,eq_none_bool->aiO,eq_bool_none->aiP,ne_none_none->aiS,ne_none_bool->aiT,ne_bool_none->aiU,eq_none_int->aiX,eq_none_str->aiY,eq_int_none->aiZ,eq_str_none->ai1,ne_none_int->ai3,ne_none_str->ai4,ne_int_none->ai5,ne_str_none->ai7
open PySem.EqMixed renaming eq_bool_str->aiQ,eq_str_bool->aiR,ne_bool_str->aiV,ne_str_bool->aiW,eq_int_str->ai0,eq_str_int->ai2,ne_int_str->ai6,ne_str_int->ai8
open PySem.Value renaming isStrOf->adP,isInt->aed
open Int.ofNat renaming inj->adW
open PyProof.Rows.IsTup renaming new->aaf
open PySem.Builtin.Range renaming rangeSize->ai9
open Nat.succ renaming inj->ad3
open PySem.Sem renaming wp_mono->aek
open PySem.MeetsSeq.EqGives renaming int->aje
open List.Pairwise renaming filter->ajf,imp₂->ajt
open List.Sublist renaming append->ajo,refl->ajv
open PySem.W.Looks renaming here->ajp,ld->ajw
open PySem.Heap.IsSliceOf renaming new->ajq
open PySem.W.WShape renaming has->aep
open PySem.Within renaming cons->aju
open PySem.Heap.DictOf renaming new->ajy
abbrev kO:=@of_decide_eq_true
abbrev jF:=@of_decide_eq_false
abbrev jN:=@decide_eq_true
abbrev mJ:=@decide_eq_false
abbrev tR:=@beq_iff_eq
abbrev Ou:=@beq_eq_false_iff_ne
abbrev JN:=@decide_eq_decide
abbrev Zv:=@decide_eq_true_iff
abbrev CN:=@or_false
local macro_rules | `(tactic| simp?) => `(tactic| first | lia | omega)
local macro_rules | `(tactic| apply $e) => `(tactic| (refine $e; rw?))
set_option bootstrap.genMatcherCode false
abbrev cy:kI:="_law_script"
abbrev dY:kI:="_law_place"
abbrev gJ:kI:="_law_cell_here"
abbrev fH:kI:="_law_some"
abbrev dD:kI:="_law_top"
abbrev cZ:kI:="_law_bottom"
abbrev aT:kI:="one"
abbrev aI:kI:="other"
abbrev dQ:kI:="found"
abbrev cK:kI:="bottom"
abbrev gK:kI:="steep"
abbrev bF:kI:="sample"
abbrev aM:kI:="moment"
abbrev cR:kI:="line"
abbrev dh:kI:="last"
abbrev cz:kI:="row"
abbrev br:kI:="samples"
abbrev c5:kI:="first"
abbrev iA:kI:="quotients"
abbrev aJ:kI:="bound"
abbrev jh:kI:="gentlest"
abbrev ji:kI:="steepest"
abbrev aB:kI:="self"
abbrev iB:kI:="stretch"
abbrev eN:kI:="way"
abbrev bX:kI:="_law_keeper"
abbrev aP:kI:="_law_deed_here"
abbrev eK:kI:="_law_moment"
abbrev bV:kI:="_law_own"
namespace PySem.W.Fast
def tw1763906519549163907:=Nat
def tw3792155928428533338:=Nat
def tw1115208442806018080:=Nat
def tw281769797292761120:=Nat
def tw1911113180034106432:=Nat
def tw12316373820413054048:=Nat
def tw6813039378081779808:=Nat
def tw6905080836727436480:=Nat
def tw5015824308502802688:=Nat
def tw8316206347874912576:=Nat
def tw8850657002801768800:=Nat
def tw3004557914104781152:=Nat
def tw12761477992187617664:=Nat
def tw2550155602974090656:=Nat
def tw7309264095755741632:=Nat
def tw17648651946408791584:=Nat
def tw1910334227149318720:=Nat
def tw15188535960512180800:=Nat
def tw13675060492503420736:=Nat
def tw12718728884337148768:=Nat
def tw7153587935790513024:=Nat
def tw10725377377024523168:=Nat
def tw18346373599312257057:=Nat
def tw6772954006001479777:=Nat
def tw16529694048468880577:=Nat
def tw8867808835420080449:=Nat
def tw11327438152755209601:=Nat
def tw3074263565620809153:=Nat
def tw11804098290495347169:=Nat
def tw16975625350484253185:=Nat
def tw3743323938589633089:=Nat
def tw293515373786105441:=Nat
def tw16491001891592752833:=Nat
def tw9990578869377825473:=Nat
def tw11711858849533672161:=Nat
def tw235198456557268705:=Nat
def tw11831627725944314753:=Nat
def tw11097508968139433090:=Nat
def tw10409591351929741538:=Nat
def tw1945570905967899874:=Nat
def tw906509312227349826:=Nat
def tw5231522035932256674:=Nat
def tw5715858108681419202:=Nat
def tw13870253087935912418:=Nat
def tw10859282470418604514:=Nat
def tw11813239977221319202:=Nat
def tw8794381115852293698:=Nat
def tw16125456594028858946:=Nat
def tw1395257622255066722:=Nat
def tw5133811102220288738:=Nat
def tw5605884124639741698:=Nat
def tw16414669649837824802:=Nat
def tw9096567953618720578:=Nat
def tw3977359045238624162:=Nat
def tw13729848402474404802:=Nat
def tw9803911874497464258:=Nat
def tw15909039623689762754:=Nat
def tw12476069237698002882:=Nat
def tw2667879098031090658:=Nat
def tw5811158813010584546:=Nat
def tw9008334164072169442:=Nat
def tw17263485751174660163:=Nat
def tw14687976257225446467:=Nat
def tw11758032056040590435:=Nat
def tw1539503026782652515:=Nat
def tw11230459210520864931:=Nat
def tw2963710112064655619:=Nat
def tw8977207084496783651:=Nat
def tw1220460207416928547:=Nat
def tw12598026862054505763:=Nat
def tw10848046333825339715:=Nat
def tw2499307926216129891:=Nat
def tw11093492925519848803:=Nat
def tw6791165243263264131:=Nat
def tw4270391579063978371:=Nat
def tw8692041297140154819:=Nat
def tw8201000673165071843:=Nat
def tw6983704088593749507:=Nat
def tw5712642054107618819:=Nat
def tw5992712013510071843:=Nat
def tw8646744534260202051:=Nat
def tw9805954777785191011:=Nat
def tw9703747531270018659:=Nat
def tw14348499370280451683:=Nat
def tw7076293944637851363:=Nat
def tw17055905455903668963:=Nat
def tw823266125597743875:=Nat
def tw16872678344088872803:=Nat
def tw1573248208923458403:=Nat
def tw7880341104258014083:=Nat
def tw13599634946873486211:=Nat
def tw10642024844420205539:=Nat
def tw17723261710831179747:=Nat
def tw15626687707628864516:=Nat
def tw7264962451040862308:=Nat
def tw14335205930309255364:=Nat
def tw1283558158866209988:=Nat
def tw14527403407576238340:=Nat
def tw4927978470830522820:=Nat
def tw14728363090469799364:=Nat
def tw518014456555396612:=Nat
def tw18031785547438780932:=Nat
def tw2966042125497255620:=Nat
def tw5948034498120061668:=Nat
def tw6161171257281110756:=Nat
def tw9802317883769087748:=Nat
def tw128108901383471940:=Nat
def tw4660409783211836324:=Nat
def tw9764714905213653029:=Nat
def tw814533607642252325:=Nat
def tw11042995800260799589:=Nat
def tw10842275158814733445:=Nat
def tw3853800722679052421:=Nat
def tw16920966677722399909:=Nat
def tw5538070129987685541:=Nat
def tw16931483890671194405:=Nat
def tw12865849377810834757:=Nat
def tw9869889934131644805:=Nat
def tw2842612963257594309:=Nat
def tw5431267999803461061:=Nat
def tw17085007017974765157:=Nat
def tw1739171305364569733:=Nat
def tw10249352218811963077:=Nat
def tw7641612050185365189:=Nat
def tw1082607448268378917:=Nat
def tw7279258921816319813:=Nat
def tw5213626676139838341:=Nat
def tw6046181232063542181:=Nat
def tw12782864004093685733:=Nat
def tw17814448804915427301:=Nat
def tw2424402542586644453:=Nat
def tw17044057856677628901:=Nat
def tw4821390720682600518:=Nat
def tw17069401380157845574:=Nat
def tw16094589892612880550:=Nat
def tw10228252330203489542:=Nat
def tw11367145851648365894:=Nat
def tw15016361693380368742:=Nat
def tw6898034723664386470:=Nat
def tw15370382576757860774:=Nat
def tw13650043404527661478:=Nat
def tw4528726436512965094:=Nat
def tw6238215107613274630:=Nat
def tw4878920157719948934:=Nat
def tw9099152670159976102:=Nat
def tw3477183286593995430:=Nat
def tw5321028994116817638:=Nat
def tw15993922357760427782:=Nat
def tw6844099910179348358:=Nat
def tw14175107814702365606:=Nat
def tw17083501871424147430:=Nat
def tw11947343366612210662:=Nat
def tw6322876046166578375:=Nat
def tw17733422580060673223:=Nat
def tw13504154245993640167:=Nat
def tw10356617165571953927:=Nat
def tw17493676406299448615:=Nat
def tw10939834511896124775:=Nat
def tw5969089552550178151:=Nat
def tw12296811166842937703:=Nat
def tw5166864749622041031:=Nat
def tw12954281133042606631:=Nat
def tw2130533315741006471:=Nat
def tw11143320463869341319:=Nat
def tw8893265599306800871:=Nat
def tw15623950765330739975:=Nat
def tw9004338073097939879:=Nat
def tw12613372742669357031:=Nat
def tw11941377741383980007:=Nat
def tw7718826111367018471:=Nat
def tw1189398638349354056:=Nat
def tw2900932511188466824:=Nat
def tw10556581394931955880:=Nat
def tw9707927736108288264:=Nat
def tw6750633467092861256:=Nat
def tw3639158210219316648:=Nat
def tw16133242771817839176:=Nat
def tw8835312076020798056:=Nat
def tw16072764259150863048:=Nat
def tw4686853238176991976:=Nat
def tw17435884700799893256:=Nat
def tw6837733313343521576:=Nat
def tw5546227882969453384:=Nat
def tw6735992917443762056:=Nat
def tw6187577495746402216:=Nat
def tw3251071739248513960:=Nat
def tw15428354830489865192:=Nat
def tw14119535268838778921:=Nat
def tw767480468888448137:=Nat
def tw7569951516718106793:=Nat
def tw11170545133033701577:=Nat
def tw3944746105642140905:=Nat
def tw13093721157488418057:=Nat
def tw13345285011146971657:=Nat
def tw3524502877468857897:=Nat
def tw15060669813038072393:=Nat
def tw13692260227079237257:=Nat
def tw7585235128414533385:=Nat
def tw463938626394891049:=Nat
def tw7840572081192783753:=Nat
def tw674783323525407721:=Nat
def tw8310035588776823850:=Nat
def tw2425492635527028778:=Nat
def tw2899253875156203594:=Nat
def tw1695969553387330666:=Nat
def tw18131755807699870826:=Nat
def tw1830687020028757130:=Nat
def tw27212925081222282:=Nat
def tw14826245485352561834:=Nat
def tw17007325853810767146:=Nat
def tw551312505587123498:=Nat
def tw9949547264079588650:=Nat
def tw4637383605851488618:=Nat
def tw13628884830423931274:=Nat
def tw4153211435749465578:=Nat
def tw4715091996341001738:=Nat
def tw10796465794229306922:=Nat
def tw5305291919142612522:=Nat
def tw14827099455853965898:=Nat
def tw15503709011645864586:=Nat
def tw16641809351249235626:=Nat
def tw1973968972309150442:=Nat
def tw8165787278642506506:=Nat
def tw4397464938625250154:=Nat
def tw1241687380472450954:=Nat
def tw10660946887536629642:=Nat
def tw6714145655341027242:=Nat
def tw3093005511330897898:=Nat
def tw4258969013181399018:=Nat
def tw10590640141528891370:=Nat
def tw8253344901010517131:=Nat
def tw9438889854083215499:=Nat
def tw11221254618198324395:=Nat
def tw11413818410777458859:=Nat
def tw18097644421357968587:=Nat
def tw12905451182093386987:=Nat
def tw16700354664223453419:=Nat
def tw383363684908339499:=Nat
def tw4398998752130696491:=Nat
def tw4402155336018498891:=Nat
def tw13020521894533350763:=Nat
def tw17556809140469832075:=Nat
def tw5298486629952828811:=Nat
def tw14320359312260898187:=Nat
def tw18305846302967521739:=Nat
def tw17527885010262158859:=Nat
def tw12600380707639780907:=Nat
def tw4652622366631402091:=Nat
def tw7470186316781978219:=Nat
def tw2752082407133087435:=Nat
def tw17631140632983425931:=Nat
def tw11519765521487222667:=Nat
def tw12824259620993198987:=Nat
def tw2547121484006407083:=Nat
def tw13227375130575302571:=Nat
def tw14201471808421751755:=Nat
def tw11942369522704152588:=Nat
def tw17738865692388562988:=Nat
def tw5398805434032997452:=Nat
def tw6218180376744356940:=Nat
def tw3286361587105821772:=Nat
def tw15544694373096921196:=Nat
def tw8102622447112097036:=Nat
def tw8715371936411109644:=Nat
def tw8797644849642962188:=Nat
def tw10024560078025171244:=Nat
def tw5361374443954128172:=Nat
def tw10115826920680740140:=Nat
def tw3857921492694717772:=Nat
def tw8218250241975369068:=Nat
def tw367700249108015468:=Nat
def tw4449624120214108588:=Nat
def tw11467503705341756908:=Nat
def tw2616624451320909292:=Nat
def tw6041292789222672940:=Nat
def tw81100185715906188:=Nat
def tw8574817095790451340:=Nat
def tw13839970742719065772:=Nat
def tw4276767080422584172:=Nat
def tw5315361928502873004:=Nat
def tw4796896502006469548:=Nat
def tw1862268990664053773:=Nat
def tw16426777573144121357:=Nat
def tw6754087387848319085:=Nat
def tw7593259555325853837:=Nat
def tw7561955386431716557:=Nat
def tw14326930995564568813:=Nat
def tw4062344652287180045:=Nat
def tw11876127275601973677:=Nat
def tw10749296154070019501:=Nat
def tw997474852503679469:=Nat
def tw15053599284021659309:=Nat
def tw14661366110692495021:=Nat
def tw8081701029975553741:=Nat
def tw16178684855928971053:=Nat
def tw7557269858224442189:=Nat
def tw6735790782922622861:=Nat
def tw3391724333004446637:=Nat
def tw10638331575833309165:=Nat
def tw4043638985291331565:=Nat
def tw8465221907502416974:=Nat
def tw12047791285886341198:=Nat
def tw10393647714354551918:=Nat
def tw10371883437196440686:=Nat
def tw7786111596859521134:=Nat
def tw13474815704594546830:=Nat
def tw8064772229175439534:=Nat
def tw5743459880404312270:=Nat
def tw14266487117193044174:=Nat
def tw5488259799029305614:=Nat
def tw17547369940315343182:=Nat
def tw18266792240908180814:=Nat
def tw699371512985451854:=Nat
def tw9458750998280305998:=Nat
def tw8034569162671768942:=Nat
def tw12108772538961031662:=Nat
def tw11531589199940443630:=Nat
def tw11431489368720352782:=Nat
def tw8895134473784890926:=Nat
def tw5517183282387299886:=Nat
def tw3482982266574197358:=Nat
def tw13725770480043754158:=Nat
def tw13027261574631758510:=Nat
def tw12134726115040191150:=Nat
def tw12668937383879183054:=Nat
def tw13987603172114732750:=Nat
def tw6023195524203948750:=Nat
def tw10321978551568373486:=Nat
def tw12581885631217439598:=Nat
def tw11601867163279931278:=Nat
def tw8953176465513759726:=Nat
def tw2764407420181995502:=Nat
def tw269812800872775662:=Nat
def tw11783281769936872463:=Nat
def tw4704003991959051311:=Nat
def tw6710243312950200367:=Nat
def tw12338667935428368463:=Nat
def tw1988810679670520975:=Nat
def tw2257234361120955599:=Nat
def tw9467175460309019855:=Nat
def tw14940851139883584719:=Nat
def tw17920114436553601231:=Nat
def tw3880360524395826543:=Nat
def tw6637076018824556975:=Nat
def tw13310195550269149647:=Nat
def tw15748986236788926959:=Nat
def tw92229079916097103:=Nat
def tw3212903287964210799:=Nat
def tw14269378474284127855:=Nat
def tw3939689288118234895:=Nat
def tw185377773764244303:=Nat
def tw16223708168548635503:=Nat
def tw1654247203631315887:=Nat
def tw15271969292262055919:=Nat
def tw15731191252453417967:=Nat
def tw8129133570503725200:=Nat
def tw13015566820165908688:=Nat
def tw17592677491096727856:=Nat
def tw1165945980232418640:=Nat
def tw10054599911006520720:=Nat
def tw10962820078747950512:=Nat
def tw14362898860230101552:=Nat
def tw5675013745374387856:=Nat
def tw11939694118867431056:=Nat
def tw15771693065690989264:=Nat
def tw12614486823185887984:=Nat
def tw7987350920411358992:=Nat
def tw18339104924266901264:=Nat
def tw7016739794944918384:=Nat
def tw17571284639657109392:=Nat
def tw18338828787471755184:=Nat
def tw9258005267954063280:=Nat
def tw336309268450641872:=Nat
def tw10138387239721307217:=Nat
def tw8353658489116794993:=Nat
def tw11477576966089090193:=Nat
def tw9805423986663177393:=Nat
def tw11156485728047153329:=Nat
def tw12344536145975729329:=Nat
def tw9401025834319500497:=Nat
def tw16915107348401361201:=Nat
def tw11226532033909470609:=Nat
def tw1745001442223534513:=Nat
def tw14506288518123773361:=Nat
def tw2546460079319589361:=Nat
def tw15822378426879997425:=Nat
def tw15715708049130495505:=Nat
def tw4000743994431427121:=Nat
def tw5763741342844118737:=Nat
def tw1070113015643692881:=Nat
def tw17569457858977169233:=Nat
def tw12860921914049608561:=Nat
def tw14492219455714908017:=Nat
def tw1018775970961541073:=Nat
def tw2302949837723630545:=Nat
def tw1145422516315583473:=Nat
def tw8081861650285068306:=Nat
def tw7079751348668282898:=Nat
def tw16148520991308188786:=Nat
def tw9105253219910836338:=Nat
def tw3997517061554601106:=Nat
def tw642561472196508882:=Nat
def tw4752650679368183026:=Nat
def tw16945271017321066738:=Nat
def tw17874907074788524338:=Nat
def tw6379246271395549522:=Nat
def tw7491819247215689074:=Nat
def tw12020765476844210770:=Nat
def tw17477516112373265010:=Nat
def tw16147574903752076978:=Nat
def tw959439365318425266:=Nat
def tw331236957832038194:=Nat
def tw18227435018104984402:=Nat
def tw606569014555253618:=Nat
def tw13767542937954126738:=Nat
def tw8241145027047348178:=Nat
def tw10647859440265869331:=Nat
def tw13432305067619950771:=Nat
def tw8561801488376495283:=Nat
def tw12395394868475167955:=Nat
def tw8548857143212781971:=Nat
def tw3932629694416616979:=Nat
def tw6025366445754285651:=Nat
def tw5659225530701026931:=Nat
def tw15782564834748507763:=Nat
def tw13941868737956753011:=Nat
def tw15001021183173503635:=Nat
def tw17103049142768655027:=Nat
def tw17441391062742785715:=Nat
def tw7363174952546293491:=Nat
def tw5861958222211754771:=Nat
def tw11731312767814984467:=Nat
def tw11919239633523631923:=Nat
def tw14215614073929080723:=Nat
def tw3723625318240289715:=Nat
def tw5379471579377701811:=Nat
def tw10443812150199162835:=Nat
def tw17807551231495560212:=Nat
def tw7240390269994624052:=Nat
def tw3188561538139494484:=Nat
def tw8322469624345603188:=Nat
def tw9999895384122351732:=Nat
def tw5471748656982963476:=Nat
def tw17692569824994434356:=Nat
def tw18429263839029052756:=Nat
def tw6829163886108159348:=Nat
def tw13729682733394101652:=Nat
def tw16668294289960046036:=Nat
def tw7351289194774226388:=Nat
def tw12722940940216070676:=Nat
def tw7267431779923825204:=Nat
def tw12201466239625843284:=Nat
def tw8402603327332189812:=Nat
def tw16132559150594039412:=Nat
def tw2839668255865753204:=Nat
def tw2884661922881705620:=Nat
def tw220384372595957396:=Nat
def tw4438576977678650004:=Nat
def tw11438619938923309748:=Nat
def tw6173321411521481460:=Nat
def tw16528820199005533940:=Nat
def tw13015907013489832852:=Nat
def tw17293182829163041780:=Nat
def tw6419380075820048372:=Nat
def tw15739685021793781845:=Nat
def tw10149721117210050645:=Nat
def tw17698007285671300213:=Nat
def tw17928293925533356181:=Nat
def tw4932358591271488661:=Nat
def tw11170087657567101109:=Nat
def tw8365058677023221973:=Nat
def tw11793156523895137621:=Nat
def tw4204372938740605301:=Nat
def tw10281844935836608917:=Nat
def tw10012534472349463957:=Nat
def tw16589154879381959061:=Nat
def tw14608720296743718389:=Nat
def tw13683435569520840277:=Nat
def tw723427685960196757:=Nat
def tw6889023287430327957:=Nat
def tw9878501036949611221:=Nat
def tw6192670591585729269:=Nat
def tw271061183694022421:=Nat
def tw6684400272568471381:=Nat
def tw13373049236985475957:=Nat
def tw4563263544796029877:=Nat
def tw2739495032631735221:=Nat
def tw9444221001147163670:=Nat
def tw11759348270406451222:=Nat
def tw11138374915690803254:=Nat
def tw7933105330866305110:=Nat
def tw2879349618099273878:=Nat
def tw16484542192183200918:=Nat
def tw10513174344263430454:=Nat
def tw17775052895722141078:=Nat
def tw10264317642886046102:=Nat
def tw6660087556355664310:=Nat
def tw7006397224308028950:=Nat
def tw9918586744836255254:=Nat
def tw13206334898878383830:=Nat
def tw1650672489872667542:=Nat
def tw8995721730061606838:=Nat
def tw10569280445387145303:=Nat
def tw15854300039186942039:=Nat
def tw1205362282797211767:=Nat
def tw2672845894339660983:=Nat
def tw4074999397756115127:=Nat
def tw2981335504278375607:=Nat
def tw6708529786676906231:=Nat
def tw14778621017555447127:=Nat
def tw1040061406220219799:=Nat
def tw6306197344178102711:=Nat
def tw11276000263297925591:=Nat
def tw13107416245929864663:=Nat
def tw9566355779786864183:=Nat
def tw14852238209364745975:=Nat
def tw18392777876712471383:=Nat
def tw2146249703659267031:=Nat
def tw11650188862639433687:=Nat
def tw10697040007764902968:=Nat
def tw18050145591636075640:=Nat
def tw5678381763169001656:=Nat
def tw6704618455109584056:=Nat
def tw17023253644519803096:=Nat
def tw5756421793965207800:=Nat
def tw11201482077730700600:=Nat
def tw4737231375390641496:=Nat
def tw6625043820841087320:=Nat
def tw12755858547010048472:=Nat
def tw5635960256696754712:=Nat
def tw14575948096506798712:=Nat
def tw11581965557376728824:=Nat
def tw2656049211137214232:=Nat
def tw13575269764380122904:=Nat
def tw17749642469319379864:=Nat
def tw6550782874674355192:=Nat
def tw3357300348352954425:=Nat
def tw1070987131561765977:=Nat
def tw13031606765634185305:=Nat
def tw4923232899819507833:=Nat
def tw16493147595343907001:=Nat
def tw4363112623756486937:=Nat
def tw11388139241495807289:=Nat
def tw9595401973295319385:=Nat
def tw758429621001963865:=Nat
def tw7388281119165226361:=Nat
def tw4030369755867593177:=Nat
def tw13873023158521090521:=Nat
def tw1977648561601481241:=Nat
def tw16247329939166775833:=Nat
def tw176131501070011929:=Nat
def tw17380174690548611641:=Nat
def tw7921451538521757273:=Nat
def tw5339752240242594425:=Nat
def tw3979720589600899705:=Nat
def tw1343525198744596185:=Nat
def tw1356548162223962073:=Nat
def tw595216205070411802:=Nat
def tw11365956194981628026:=Nat
def tw13066317527269405850:=Nat
def tw12867629586886580442:=Nat
def tw441994108074267002:=Nat
def tw3249136292838586778:=Nat
def tw9792408734758533594:=Nat
def tw2953329601426573882:=Nat
def tw16511375114522876538:=Nat
def tw1076333757091878586:=Nat
def tw12978221072707757786:=Nat
def tw13385935067117595354:=Nat
def tw10477128425839579866:=Nat
def tw17095763637284243194:=Nat
def tw16012781582007202554:=Nat
def tw3987913498522677050:=Nat
def tw3861097062488317786:=Nat
def tw14221068641638691674:=Nat
def tw11444611034643194778:=Nat
def tw7250487751247907802:=Nat
def tw10207564845201128410:=Nat
def tw15347984897256272890:=Nat
def tw2355518119900002363:=Nat
def tw1090362642971352219:=Nat
def tw1505180136563188923:=Nat
def tw15139750213242668315:=Nat
def tw107384030996060475:=Nat
def tw10653146160133349947:=Nat
def tw13270399528414192411:=Nat
def tw3967702500522901371:=Nat
def tw12097222525438353275:=Nat
def tw11856136322528796603:=Nat
def tw3131742591039411260:=Nat
def tw16073613249121498204:=Nat
def tw1721006513510657148:=Nat
def tw8139795610496372892:=Nat
def tw5707367427578807452:=Nat
def tw737902047880543420:=Nat
def tw15370200228078913820:=Nat
def tw8786008616076446012:=Nat
def tw9289202882101541180:=Nat
def tw4488722783593330012:=Nat
def tw5701421251713263068:=Nat
def tw14173833240823898620:=Nat
def tw6577178246357545532:=Nat
def tw10821310814710520476:=Nat
def tw3656078002914356892:=Nat
def tw12225323789099380508:=Nat
def tw15730941945137499996:=Nat
def tw7225285276888079196:=Nat
def tw7775033878699783004:=Nat
def tw17023213708056257404:=Nat
def tw2234045272136326012:=Nat
def tw3959963573404697500:=Nat
def tw2503940361194042268:=Nat
def tw10275311337873738781:=Nat
def tw14288814338368846909:=Nat
def tw11164140668428383357:=Nat
def tw4288601327060003005:=Nat
def tw10863908152009475325:=Nat
def tw1344804745817520381:=Nat
def tw7131271584023343453:=Nat
def tw78743738448416125:=Nat
def tw3793560624404197757:=Nat
def tw9779348994609941053:=Nat
def tw15723785129829202493:=Nat
def tw17236389800787239517:=Nat
def tw8223949313268319901:=Nat
def tw16554413809504467645:=Nat
def tw17438165303395891965:=Nat
def tw1066229920190808893:=Nat
def tw9880465792531963741:=Nat
def tw4278377557835199325:=Nat
def tw1332234631012834173:=Nat
def tw12885994045077895069:=Nat
def tw8848556861144886173:=Nat
def tw13348637639660203933:=Nat
def tw4385226104216641533:=Nat
def tw569338408787167262:=Nat
def tw3005600710588893246:=Nat
def tw10155636752874363006:=Nat
def tw10809942269547876510:=Nat
def tw16513254457155505374:=Nat
def tw159930728955139326:=Nat
def tw12434678361063516446:=Nat
def tw428671581544323486:=Nat
def tw165884886914450910:=Nat
def tw18236095343865348670:=Nat
def tw3509097127483848286:=Nat
def tw9144279713807000158:=Nat
def tw16244534443622345374:=Nat
def tw12967717638255294110:=Nat
def tw9779338213560367838:=Nat
def tw4363537075396060926:=Nat
def tw16634901489369466750:=Nat
def tw14885031647157733278:=Nat
def tw17727413403648022430:=Nat
def tw2541930920785907710:=Nat
def tw17337169123303898110:=Nat
def tw4688290692000390271:=Nat
def tw16110483631352283327:=Nat
def tw10124690834950948031:=Nat
def tw15694097723662959807:=Nat
def tw6231684900483920127:=Nat
def tw3599543963584855391:=Nat
def tw7278494517709073759:=Nat
def tw6764885473700715903:=Nat
def tw1783682136749340255:=Nat
def tw7078339597776317087:=Nat
def tw3128410199144194751:=Nat
def tw12472860785639053119:=Nat
def tw2674471217613338559:=Nat
end PySem.W.Fast
namespace L2
open PySem PySem.Spec PyProof.Rows
abbrev Key:=Sum Int Str
noncomputable def E3:Key->bq->Bool
 | .inl k,v=>aed k v
 | .inr x,v=>adP x v
noncomputable def aj7 (w:dO):Key->Int
 | .inl k=>hashInt k
 | .inr x=>hashStr w x
def fL:∀{k:Key} {v:bq},E3 k v=true->(∃i t,k=Sum.inl i/\v=Value.int i t)\/(∃x t,k=Sum.inr x/\v=Value.str x t)
 | .inl i,v,h=>by
   obtain ⟨t,e⟩:=Value.isInt_shape (k:=i) (v:=v) h
   exact .inl ⟨i,t,rfl,e⟩
 | .inr x,v,h=>by
   obtain ⟨t,e⟩:=Value.isStrOf_shape (x:=x) (v:=v) h
   exact .inr ⟨x,t,rfl,e⟩
def Vq (i:Int) (t:Tok):E3 (.inl i) (.int i t)=true:=by simp [E3,aed]
def Vr (x:Str) (t:Tok):E3 (.inr x) (.str x t)=true:=by simp [E3,adP]
def afz (a b:Int):decide ((Sum.inl a:Key)=Sum.inl b)=(a==b):=by
 by_cases e:a=b
 ·subst e;simp
 ·have h:¬(Sum.inl a:Key)=Sum.inl b:=λq=>e (UE q)
  rw [mJ h]
  exact (Ou.mpr e).symm
def afC (a b:Str):decide ((Sum.inr a:Key)=Sum.inr b)=decide (a=b):=by
 by_cases e:a=b
 ·subst e;simp
 ·have h:¬(Sum.inr a:Key)=Sum.inr b:=λq=>e (Sum.inr.inj q)
  rw [mJ h,mJ e]
def afA (a:Int) (b:Str):decide ((Sum.inl a:Key)=Sum.inr b)=false:=mJ (λq=>nomatch q)
def afB (a:Str) (b:Int):decide ((Sum.inr a:Key)=Sum.inl b)=false:=mJ (λq=>nomatch q)
noncomputable def fG (prog:fT) (w:dO):PySem.KeyKind prog w Key where
 is:=E3
 hash:=aj7 w
 inj:=λv a b ha hb=>by
  rcases fL ha with ⟨i,t,rfl,rfl⟩ | ⟨x,t,rfl,rfl⟩
  ·rcases fL hb with ⟨j,u,rfl,e⟩ | ⟨y,u,rfl,e⟩
   ·injection e with e1 _;rw [e1]
   ·exact nomatch e
  ·rcases fL hb with ⟨j,u,rfl,e⟩ | ⟨y,u,rfl,e⟩
   ·exact nomatch e
   ·injection e with e1 _;rw [e1]
 byValue:=λk v h=>by
  rcases fL h with ⟨i,t,rfl,rfl⟩ | ⟨x,t,rfl,rfl⟩ <;> rfl
 pyHash:=λhv h=>by
  rcases fL hv with ⟨i,t,rfl,rfl⟩ | ⟨x,t,rfl,rfl⟩
  ·exact wpAny_pyHash_int h
  ·exact wpAny_pyHash_str h
 eqBool:=λhu hv h=>by
  rcases fL hu with ⟨i,t,rfl,rfl⟩ | ⟨x,t,rfl,rfl⟩
  ·rcases fL hv with ⟨j,u,rfl,rfl⟩ | ⟨y,u,rfl,rfl⟩
   ·rw [afz] at h;exact wpAny_eqBool_int h
   ·rw [afA] at h;exact acX i t y u _ _ _ _ h
  ·rcases fL hv with ⟨j,u,rfl,rfl⟩ | ⟨y,u,rfl,rfl⟩
   ·rw [afB] at h;exact acY x t j u _ _ _ _ h
   ·rw [afC] at h;exact wpAny_eqBool_str h
 «strs»:=λk x t v h=>by
  rcases fL h with ⟨i,u,rfl,e⟩ | ⟨y,u,rfl,e⟩
  ·exact nomatch e
  ·injection e with e1 _
   subst e1
   cases v <;> rfl
def NC (prog:fT) (w:dO) (i:Int) (t:Tok):(fG prog w).is (.inl i) (.int i t)=true:=Vq i t
def ND (prog:fT) (w:dO) (x:Str) (t:Tok):(fG prog w).is (.inr x) (.str x t)=true:=Vr x t
inductive V where
 | bM | bl (b:Bool) | int (i:Int) | str (x:Str) | V5 (b:Array UInt8) | flt (b:UInt64) | ref (a:ah) | ty (n:String)
 deriving DecidableEq
def RelV:V->bq->Prop
 | .bM,u=>u=Value.none
 | .bl b,u=>u=Value.bool b
 | .int i,u=>∃t,u=Value.int i t
 | .str x,u=>∃t,u=Value.str x t
 | .V5 b,u=>∃t,u=Value.bytes b t
 | .flt b,u=>∃t,u=Value.float b t
 | .ref a,u=>u=Value.ref a
 | .ty n,u=>u=Value.type n
abbrev Vals:0#n->List bq->Prop:=Paired RelV
def Vals.length (r:Vals xs us):xs.length=us.length:=Paired.length r
def Vals.get:∀{xs:0#n} {us:List bq} {i:Nat} {x:V},Vals xs us->xs[i]?=some x->∃u,us[i]?=some u/\RelV x u
 | _,_,_,_,.nil,e=>by simp at e
 | _,_,0,_,.cons r _,e=>by simp at e;subst e;exact ⟨_,rfl,r⟩
 | _,_,i+1,x,.cons _ t,e=>by
   obtain ⟨u,h1,h2⟩:=Vals.get (i:=i) (x:=x) t (by simpa using e)
   exact ⟨u,by simpa using h1,h2⟩
def Vals.set (r:RelV x u):∀{xs:0#n} {us:List bq} (i:Nat),Vals xs us->Vals (xs.set i x) (us.set i u)
 | _,_,_,.nil=>.nil
 | _,_,0,.cons _ t=>.cons r t
 | _,_,i+1,.cons q t=>.cons q (Vals.set r i t)
def Vals.append:∀{xs ys:0#n} {us ws:List bq},Vals xs us->Vals ys ws->Vals (xs++ys) (us++ws)
 | _,_,_,_,.nil,s=>s
 | _,_,_,_,.cons r t,s=>.cons r (Vals.append t s)
def Vals.take:∀{xs:0#n} {us:List bq} (n:Nat),Vals xs us->Vals (xs.take n) (us.take n)
 | _,_,0,_=>.nil
 | _,_,_+1,.nil=>.nil
 | _,_,n+1,.cons r t=>.cons r (Vals.take n t)
def Vals.drop:∀{xs:0#n} {us:List bq} (n:Nat),Vals xs us->Vals (xs.drop n) (us.drop n)
 | _,_,0,r=>r
 | _,_,_+1,.nil=>.nil
 | _,_,n+1,.cons _ t=>Vals.drop n t
def sq:Option V->Option bq->Prop
 | some v,some u=>RelV v u
 | none,none=>True
 | _,_=>False
def KV {κ:Type}:List (κ×V)->List (κ×bq)->Prop:=Paired λ(p:κ×V) (q:κ×bq)=>p.1=q.1/\RelV p.2 q.2
noncomputable def kV:Key->V
 | .inl i=>.int i
 | .inr x=>.str x
inductive HO where
 /-- a list -/
 | lst (xs:0#n)
 /-- a tuple (never changes) -/
 | tup (xs:0#n)
 /-- a dict whose keys are ints and texts;one whose keys are tuples of ints and texts (the empty one is both) -/
 | dK (kvs:List (Key×V)) | dT (kvs:List (List Key×V))
 /-- a set of ints: its members,its size -/
 | set (S:Int->Bool) (n:Nat)
 /-- an instance of the class at C,its dict at dx,its attributes -/
 | ins (C dx:ah) (fs:List (Str×V))
 /-- the dict of the instance at x -/
 | own (x:ah)
 /-- the dict of an exception -/
 | xd (fs:List (Str×V))
 /-- a bound method,f of x -/
 | met (f x:ah)
 /-- a range object lo,lo+1,.. below hi -/
 | rng (lo hi:Int)
 /-- a thing that is known to the object (the script;a dict while a loop walks it): read,never written while it is so -/
 | Po (o:Obj) (u:HO)
 /-- a code object's table -/
 | tbl (ps:Array bq)
 /-- any other thing,by what is true of its one object (a def of one's own: SetO a S n:=HO.ext λh=>..) -/
 | ext (φ:cH->Prop)
abbrev Hp:=ah->Option HO
noncomputable def upd (H:Hp) (a:ah) (o:HO):Hp:=λb=>if b=a then some o else H b
def au:upd H a o a=some o:=by unfold upd;rw [if_pos rfl]
def aF (h:b≠a):upd H a o b=H b:=by unfold upd;rw [if_neg h]
def tL:upd (upd H a o) a u=upd H a u:=by
 funext b;unfold upd;split <;> rfl
def ahM {H:Hp} (h:H a=some o) (h':H b=some u) (d:o≠u):a≠b:=by
 intro e;subst e;rw [h] at h';exact d (uf h')
def bT {H:Hp} (h:H a=some o) (h':H b=none):a≠b:=by
 intro e;subst e;rw [h] at h';cases h'
section
variable (P:fT) (w:dO)
def d7 (H:Hp) (h:cH) (a:ah):HO->Prop
 | .lst xs=>xs.length<=sizeLine/\∃(its:List bq) (n:Nat),Vals xs its/\h.get? a=some { cls:=.type "list",data:=.seq its.toArray n }
 | .tup xs=>xs.length<=sizeLine/\∃its:List bq,Vals xs its/\IsTup h a its.toArray
 | .dK kvs=>kvs.length<=sizeLine/\(a==xr)=false/\∃vs,KV kvs vs/\h.DictOf (fG P w) a vs
 | .dT kvs=>kvs.length<=sizeLine/\(a==xr)=false/\∃xs:List (List Key×ah×bq),
  Paired (λ(p:List Key×V) (q:List Key×ah×bq)=>p.1=q.1/\H q.2.1=some (.tup (p.1.map kV))/\RelV p.2 q.2.2) kvs xs /\
  ∃o es ep,h.get? a=some o/\o.ExactDict/\o.data=.dict es ep/\es.toList=xs.map (entryOfKey (tupleKind (fG P w)))/\(xs.map (·.1)).Nodup
 | .set S n=>h.SetOf (intKind P w) a S n
 | .ins C dx fs=>H dx=some (.own a)/\fs.length<=1000/\dx≠a/\h.get? a=some (CG C dx) /\
  ∃mA,h.Ns1 dx mA/\(∀f,sq (fs.lookup f) (mA f))/\ZU mA (fs.map (·.1))
 | .own _=>∃o,h.get? a=some o
 | .xd fs=>∃mA,h.Ns1 a mA/\∀f,sq (fs.lookup f) (mA f)
 | .rng lo hi=>∃t u v,h.get? a=some { cls:=.type "range",data:=.fields #[.int lo t,.int hi u,.int 1 v] }
 | .Po o u=>h.get? a=some o/\d7 H h a u
 | .tbl ps=>h.get? a=some { cls:=.none,data:=.fields ps }
 | .met f x=>h.get? a=some (Zw 1#e (.ref x))
 | .ext φ=>φ h/\(∃o,h.get? a=some o)/\∀h1 h2:cH,φ h1->(∀o,h1.get? a=some o->h2.get? a=some o)->φ h2
def tZ (H:Hp) (h:cH):Prop:=∀a o,H a=some o->d7 P w H h a o
end
def d7.lt (x:d7 P w H h a o):a<h.objs.size:=by
 cases o with
 | lst xs=>obtain ⟨_,_,_,_,e⟩:=x;exact fW e
 | tup xs=>obtain ⟨_,_,_,p⟩:=x;exact p.lt
 | dK kvs=>obtain ⟨_,_,_,_,o,_,_,e,_⟩:=x;exact fW e
 | dT kvs=>obtain ⟨_,_,_,_,o,_,_,e,_⟩:=x;exact fW e
 | set S n=>obtain ⟨o,_,_,_,e,_⟩:=x;exact fW e
 | ins C dx fs=>obtain ⟨_,_,_,e,_⟩:=x;exact fW e
 | own y=>obtain ⟨_,e⟩:=x;exact fW e
 | xd fs=>obtain ⟨_,⟨_,_,_,e,_⟩,_⟩:=x;exact fW e
 | rng lo hi=>obtain ⟨_,_,_,e⟩:=x;exact fW e
 | Po ob u=>obtain ⟨e,_⟩:=x;exact fW e
 | tbl ps=>exact fW (show h.get? a=some _ from x)
 | met f y=>exact fW (show h.get? a=some _ from x)
 | ext φ=>obtain ⟨_,⟨_,e⟩,_⟩:=x;exact fW e
def Paired.afK:∀{l₁:List α} {l₂:List β},Paired F l₁ l₂->(∀a b,F a b->G a b)->Paired G l₁ l₂
 | _,_,.nil,_=>.nil
 | _,_,.cons r t,f=>.cons (f _ _ r) (Paired.afK t f)
def d7.stay (x:d7 P w H h a o) (k:∀b u,(b=a\/H b=some (.own a))->h.get? b=some u->h'.get? b=some u)
 (ho:∀b,H b=some (.own a)->H' b=some (.own a)) (ht:∀b xs,H b=some 0#Z->H' b=some 0#Z):d7 P w H' h' a o:=by
 induction o with
 | lst xs=>obtain ⟨z,D,n,r,e⟩:=x;exact ⟨z,D,n,r,k _ _ (.inl rfl) e⟩
 | tup xs=>obtain ⟨z,D,r,A,e,c⟩:=x;exact ⟨z,D,r,A,k _ _ (.inl rfl) e,c⟩
 | dK kvs=>obtain ⟨z,y,vs,r,A,es,B,e,c⟩:=x;exact ⟨z,y,vs,r,A,es,B,k _ _ (.inl rfl) e,c⟩
 | dT kvs=>
   obtain ⟨z,y,xs,r,A,es,B,e,c⟩:=x
   exact ⟨z,y,xs,Paired.afK r λp q z=>⟨z.1,ht _ _ z.2.1,z.2.2⟩,A,es,B,k _ _ (.inl rfl) e,c⟩
 | set S n=>obtain ⟨A,es,B,t,e,c⟩:=x;exact ⟨A,es,B,t,k _ _ (.inl rfl) e,c⟩
 | ins C dx fs=>
   obtain ⟨d,z,ne,e,E,⟨G,es,B,e2,c⟩,r⟩:=x
   exact ⟨ho _ d,z,ne,k _ _ (.inl rfl) e,E,⟨G,es,B,k _ _ (.inr d) e2,c⟩,r⟩
 | own y=>obtain ⟨A,e⟩:=x;exact ⟨A,k _ _ (.inl rfl) e⟩
 | xd fs=>obtain ⟨E,⟨G,es,B,e,c⟩,r⟩:=x;exact ⟨E,⟨G,es,B,k _ _ (.inl rfl) e,c⟩,r⟩
 | rng lo hi=>obtain ⟨t,u,v,e⟩:=x;exact ⟨t,u,v,k _ _ (.inl rfl) e⟩
 | Po A u ih=>obtain ⟨e,q⟩:=x;exact ⟨k _ _ (.inl rfl) e,ih q⟩
 | tbl ps=>
   have e:h.get? a=some { cls:=.none,data:=.fields ps }:=x
   show h'.get? a=some { cls:=.none,data:=.fields ps }
   exact k a _ (.inl rfl) e
 | met f y=>
   have e:h.get? a=some (Zw 1#e (.ref y)):=x
   show h'.get? a=some (Zw 1#e (.ref y))
   exact k a _ (.inl rfl) e
 | ext φ=>obtain ⟨p,⟨o,e⟩,st⟩:=x;exact ⟨st _ _ p λo q=>k _ _ (.inl rfl) q,⟨o,k _ _ (.inl rfl) e⟩,st⟩
def tZ.lt (x:tZ P w H h) (e:H a=some o):a<h.objs.size:=(x a o e).lt
def tZ.fresh {a:ah} (x:tZ P w H h) (e:h.objs.size<=a):H a=none:=by
 cases q:H a with
 | none=>rfl
 | some u=>exact absurd (nI (x.lt q) e) (wY _)
def tZ.kept (x:tZ P w H h) (k:∀b u,h.get? b=some u->h'.get? b=some u):tZ P w H h':=λa o e=>
 (x a o e).stay (λb u _ q=>k b u q) (λ_ q=>q) λ_ _ q=>q
def tZ.laid {a:ah} (x:tZ P w H h) (k:∀b u,h.get? b=some u->h'.get? b=some u) (hp:h.objs.size<=a) (new:d7 P w (upd H a o) h' a o):tZ P w (upd H a o) h':=λb u e=>by
 have hn:=x.fresh hp
 by_cases hb:b=a
 ·subst hb;rw [au] at e;cases e;exact new
 ·rw [aF hb] at e
  exact (x b u e).stay (λc v _ q=>k c v q) (λc q=>by rw [aF (bT q hn)];exact q) λc xs q=>by rw [aF (bT q hn)];exact q
def Rd (H:Hp) (a:ah) (u:HO):Prop:=H a=some u\/∃o,H a=some (.Po o u)
def Rd.ok (r:Rd H a u) (x:tZ P w H h):d7 P w H h a u:=by
 rcases r with r | ⟨o,r⟩
 ·exact x a u r
 ·obtain ⟨_,q⟩:=x a _ r
  exact q
def Mut:Option HO->Prop
 | some (.lst _)=>True
 | some (.dK _)=>True
 | some (.dT _)=>True
 | some (.set _ _)=>True
 | some (.ins _ _ _)=>True
 | some (.ext _)=>True
 | _=>False
def tZ.write (ok:tZ P w H h) (mu:Mut (H x)) (he:e=x\/H e=some (.own x)) (k:∀b u,b≠e->h.get? b=some u->h'.get? b=some u) (heo:∃u,h'.get? e=some u)
 (new:d7 P w (upd H x o') h' x o'):tZ P w (upd H x o') h':=λb u q=>by
 have ahQ:∀c y,H c=some (.own y)->c≠x:=λc y r z=>by subst z;rw [r] at mu;exact mu
 have akl:∀c xs,H c=some 0#Z->c≠x:=λc xs r z=>by subst z;rw [r] at mu;exact mu
 by_cases hb:b=x
 ·subst hb;rw [au] at q;cases q;exact new
 ·rw [aF hb] at q
  by_cases hbe:b=e
  ·have q':H b=some (.own x):=by
    rcases he with z | z
    ·exact absurd (hbe.trans z) hb
    ·rw [hbe];exact z
   rw [q] at q';cases q'
   obtain ⟨v,B⟩:=heo
   exact ⟨v,by rw [hbe];exact B⟩
  ·refine (ok b u q).stay (λc v A r=>k c v ?_ r) (λc r=>by rw [aF (ahQ c b r)];exact r) λc xs r=>by rw [aF (akl c xs r)];exact r
   rcases A with rfl | A
   ·exact hbe
   ·rintro rfl
    rcases he with z | z
    ·exact ahQ c b A z
    ·rw [A] at z;cases z;exact hb rfl
structure Un (fs ex:List ah) (H H':Hp) (h h':cH):Prop where
 keep:∀b o,h.get? b=some o->H b=none->b∉fs->b∉ex->h'.get? b=some o
 slot:∀b o,h.get? b=some o->H b=none->b∈fs->b∉ex->∃sl,h'.get? b=some { o with slots:=sl }
 free:∀b o,h.get? b=some o->H b=none->b∉ex->H' b=none
 there:∀b o,h.get? b=some o->b∉ex->∃o',h'.get? b=some o'
 tups:∀b xs,H b=some 0#Z->H' b=some 0#Z
 EH:∀b o u,H b=some (.Po o u)->H' b=some (.Po o u)
 IF:∀b ps,H b=some (.tbl ps)->∃more,H' b=some (.tbl (ps++more))
def Un.any (u:Un fs ex H H1 h h1)  (q:h.get? b=some ob) (n:H b=none) (hx:b∉ex):∃sl,h1.get? b=some { ob with slots:=sl }:=by
 by_cases hb:b∈fs
 ·exact u.slot b ob q n hb hx
 ·exact ⟨ob.slots,u.keep b ob q n hb hx⟩
def Un.kept (k:∀b u,h.get? b=some u->h'.get? b=some u):Un fs ex H H h h':=
 ⟨λb ob q _ _ _=>k b ob q,λb ob q _ _ _=>⟨ob.slots,k b ob q⟩,λ_ _ _ n _=>n,λb ob q _=>⟨ob,k b ob q⟩,λ_ _ q=>q,λ_ _ _ q=>q,λ_ ps q=>⟨#[],by rw [q];simp⟩⟩
def Un.refl:Un fs ex H H h h:=Un.kept λ_ _ q=>q
def Un.laid {h:cH} {a:ah} (k:∀b u,h.get? b=some u->h'.get? b=some u) (hp:h.objs.size<=a) (hn:H a=none):Un fs ex H (upd H a o) h h' where
 keep:=λb u q _ _ _=>k b u q
 slot:=λb u q _ _ _=>⟨u.slots,k b u q⟩
 free:=λb u q n _=>by rw [aF (mK (nI (fW q) hp))];exact n
 there:=λb u q _=>⟨u,k b u q⟩
 tups:=λb xs q=>by rw [aF (bT q hn)];exact q
 EH:=λb u xs q=>by rw [aF (bT q hn)];exact q
 IF:=λb ps q=>⟨#[],by rw [aF (bT q hn),q];simp⟩
def Un.write (mu:Mut (H x)) (he:e=x\/H e=some (.own x)) (k:∀b u,b≠e->h.get? b=some u->h'.get? b=some u) (heo:∃u,h'.get? e=some u):Un fs ex H (upd H x o) h h':=by
 have B:∀b,H b=none->b≠x:=λb n z=>by subst z;rw [n] at mu;exact mu
 have A:∀b,H b=none->b≠e:=λb n z=>by
  subst z
  rcases he with r | r
  ·exact B b n r
  ·rw [n] at r;cases r
 have v:∀b u,H b=some u->¬Mut (some u)->b≠x:=λb u q D z=>by subst z;rw [q] at mu;exact D mu
 refine ⟨λb u q n _ _=>k b u (A b n) q,λb u q n _ _=>⟨u.slots,k b u (A b n) q⟩,λb u q n _=>by rw [aF (B b n)];exact n,λb u q _=>?_,
  λb E q=>by rw [aF (v b _ q λz=>z)];exact q,λb u E q=>by rw [aF (v b _ q λz=>z)];exact q,λb ps q=>⟨#[],by rw [aF (v b _ q λz=>z),q];simp⟩⟩
 by_cases hbe:b=e
 ·subst hbe;exact heo
 ·exact ⟨u,k b u hbe q⟩
noncomputable def trk (h:cH) (H:Hp):List ah:=(jg h.objs.size).filter λa=>(H a).isSome
def Ku (h:cH) (H:Hp):cH:=ady h (trk h H)
def Vi (h:cH) (H:Hp):(Ku h H).objs.size=h.objs.size:=PySem.W.hideAll_size _ _
def W4 (e:h.get? b=some o) (n:H b=none):(Ku h H).get? b=some o:=
 acS _ e λhm=>by
  have q:(H b).isSome=true:=(wW.mp hm).2
  rw [n] at q;simp at q
def abc (e:(Ku h H).get? b=some o):h.get? b=some o/\H b=none:=by
 have u:h.get? b=some o:=acZ (trk h H) e
 refine ⟨u,?_⟩
 cases q:H b with
 | none=>rfl
 | some x=>
   have v:b∈trk h H:=wW.mpr ⟨wD.mpr (fW u),by simp [q]⟩
   have z:(Ku h H).get? b=none:=PySem.W.hideAll_none (trk h H) v
   rw [z] at e;cases e
structure Mod (K:bU) (mg:0#g) (base:cH):Prop where
 kin:K.In base
 glob:base.Ns dJ mg
 blt:∃mb,base.Ns builtinsNs mb/\∀x:Str,x ≠ "__name__"->mb x=wZ x
 nolimit:base.NoLimit
structure Cx where
 prog:fT
 w:dO
 K:bU
 mg:Str->Option bq
 base:cH
 A:je
 N:List Str
 s₀:bB
 H₀:Hp
 env:Env
 outer:List Env
 stack:List Env
 ex:List ah
 fn:Str->Bool
 calm:Bool
 pn:List (ah×Obj)
 xe:bq->bB->Prop
noncomputable def frs (l:List Env):List ah:=l.filterMap (·.frame)
noncomputable abbrev Cx.fs (X:Cx):List ah:=frs X.outer
def Vis (sc:nO) (x:Str):Prop:=sc.names.lookup x=some .local\/sc.names.lookup x=some .cell\/sc.names.lookup x=some .free
def Loc (sc:nO) (x:Str):Prop:=sc.names.lookup x=some .local\/sc.names.lookup x=some .cell
def Look (env:Env) (h:cH) (m:0#g) (x:Str) (u:bq):Prop:=
 (env.kindOf x=some .local/\m x=some u)\/((env.kindOf x=some .cell\/env.kindOf x=some .free)/\∃c,env.cells.lookup x=some c/\h.IsCell c (some u))
structure Cx.Ok (X:Cx):Prop where
 mod:Mod X.K X.mg X.base
 kind:X.env.scope.kind=.function
 glob:X.env.globals=dJ
 blt:X.env.builtins=builtinsNs
 above:X.s₀.heap.objs.size<=X.env.locals
 inj:∀x y c,X.env.cells.lookup x=some c->X.env.cells.lookup y=some c->x=y
 has:∀x,(X.env.kindOf x=some .cell\/X.env.kindOf x=some .free)->∃c,X.env.cells.lookup x=some c
 V6:∀x c,X.fn x=true->X.env.cells.lookup x=some c->X.s₀.heap.objs.size<=c
 hd:X.calm=true->X.A.handled=none
 frames:X.A.frames=some X.stack
 stk:X.stack=X.outer\/(X.stack=X.env::X.outer/\X.env.frame=some X.env.locals)
 exf:∀b∈X.ex,b≠X.env.locals/\∀x c,X.env.cells.lookup x=some c->c≠b
 bs:∀b o,X.base.get? b=some o->X.s₀.heap.get? b=some o/\X.H₀ b=none
 UT:X.base.objs.size<=X.s₀.heap.objs.size
 KN:∀b o,X.base.get? b=some o->b∉X.ex
 MX:∀b∈X.ex,b∉X.fs
 uG:X.s₀.heap.FunFrames X.base X.outer
 V8:∀b∈X.fs,X.H₀ b=none
structure Inv (X:Cx) (pins:0#l) (σ:List (Option V)) (H:Hp) (s:bB):Prop where
 ok:X.Ok
 os:s.os=X.s₀.os
 bare:xx s.gens
 base:Un X.fs X.ex X.H₀ H X.s₀.heap s.heap
 loc:∃m,s.heap.Ns X.env.locals m/\∀(i:Nat) (x:Str) (v:V),X.N[i]?=some x->σ[i]?=some (some v)->Vis X.env.scope x->∃u,RelV v u/\Look X.env s.heap m x u
 cell:∀x c,X.env.cells.lookup x=some c->∃v,s.heap.IsCell c v
 free:H X.env.locals=none
 nJ:∀x c,X.env.cells.lookup x=some c->H c=none
 pin:∀p∈X.pn++pins,s.heap.get? p.1=some p.2/\H p.1=none/\p.1≠X.env.locals/\p.1∉X.fs/\∀v,p.2.data≠.cell v
 hok:tZ X.prog X.w H s.heap
 len:σ.length=X.N.length
def Cx.Ok.akj {X:Cx} (ok:X.Ok)  (e:X.base.get? b=some o):b∉X.fs:=λhb=>by
 have:=(ok.uG.mem hb).1
 rw [e] at this;cases this
def Inv.bs (I:0#d):∀b o,X.base.get? b=some o->s.heap.get? b=some o/\H b=none:=λb o e=>
 ⟨I.base.keep b o (I.ok.bs b o e).1 (I.ok.bs b o e).2 (I.ok.akj e) (I.ok.KN b o e),I.base.free b o (I.ok.bs b o e).1 (I.ok.bs b o e).2 (I.ok.KN b o e)⟩
def Inv.bk (I:0#d):∀b o,X.base.get? b=some o->s.heap.get? b=some o:=λb o e=>(I.bs b o e).1
def Inv.mod (I:0#d):Mod X.K X.mg X.base:=I.ok.mod
def Inv.yL (I:0#d):X.K.In s.heap:=I.ok.mod.kin.keeps I.bk
def Inv.lt (I:0#d):X.env.locals<s.heap.objs.size:=let ⟨_,hn,_⟩:=I.loc;hn.lt
def Inv.sz (I:0#d):X.s₀.heap.objs.size<=s.heap.objs.size:=g9 I.ok.above (wG I.lt)
def Inv.akk (I:0#d) {a:ah} (h:s.heap.objs.size<=a):a∉X.fs:=λhb=>by
 obtain ⟨_,o,ho,_⟩:=I.ok.uG.mem hb
 exact absurd (nI (fW ho) (g9 I.sz h)) (wY _)
def Inv.cne (I:0#d):∀x c,X.env.cells.lookup x=some c->c≠X.env.locals:=λx c e z=>by
 obtain ⟨v,o,ho,hd⟩:=I.cell x c e
 obtain ⟨m,⟨o',es,ep,ho',hd',_⟩,_⟩:=I.loc
 rw [z,ho'] at ho;cases ho;rw [hd'] at hd;cases hd
def Inv.uG (I:0#d):s.heap.FunFrames X.base X.outer:=by
 have all:∀(l:List Env),(∀b∈frs l,b∈X.fs)->X.s₀.heap.FunFrames X.base l->s.heap.FunFrames X.base l:=by
  intro l
  induction l with
  | nil=>intro _ _;trivial
  | cons env r ih=>
    intro B G
    obtain ⟨E,⟨L,o,A,J,M,D⟩,N⟩:=G
    have u:L∈X.fs:=B L (by unfold frs;rw [Zp,A];exact CA)
    obtain ⟨sl,e⟩:=I.base.slot L o M (I.ok.V8 L u) u λz=>I.ok.MX L z u
    exact ⟨E,⟨L,_,A,J,e,D⟩,ih (λb v=>B b (by unfold frs;rw [Zp,A];exact DF _ v)) N⟩
 exact all X.outer (λ_ v=>v) I.ok.uG
def Inv.stack (I:0#d):s.heap.FunFrames X.base X.stack:=by
 rcases I.ok.stk with e | ⟨e,u⟩
 ·rw [e];exact I.uG
 ·rw [e]
  obtain ⟨m,v,_⟩:=I.loc
  refine .cons (by rw [I.ok.kind];decide) u v ?_ I.uG
  exact Heap.get?_none_of_le (g9 I.ok.UT I.ok.above)
def Inv.Mi (I:0#d):∀b∈frs X.stack,b∈X.env.locals::X.fs:=λb hb=>by
 rcases I.ok.stk with e | ⟨e,hf⟩
 ·rw [e] at hb;exact DF _ hb
 ·rw [e] at hb
  unfold frs at hb
  rw [Zp,hf] at hb
  exact hb
def Inv.Ec (I:0#d):∀b∈frs X.stack,H b=none:=λb hb=>by
 rcases kM.mp (I.Mi b hb) with e | hb
 ·rw [e];exact I.free
 ·obtain ⟨_,o,ho,_⟩:=I.ok.uG.mem hb
  exact I.base.free b o ho (I.ok.V8 b hb) λz=>I.ok.MX b z hb
def Inv.step {ch:List ah} (I:0#d)
 (hch:∀b∈ch,(b∈X.ex\/X.s₀.heap.objs.size<=b)/\b≠X.env.locals/\(∀x c,X.env.cells.lookup x=some c->c≠b)/\∀p∈X.pn++pins,p.1≠b)
 (keep:∀b o,b≠X.env.locals->b∉X.fs->b∉ch->s.heap.get? b=some o->H b=none->h'.get? b=some o)
 (slot:∀b o,b≠X.env.locals->b∈X.fs->b∉ch->s.heap.get? b=some o->H b=none->∃sl,h'.get? b=some { o with slots:=sl }) (free:∀b o,b∉ch->s.heap.get? b=some o->H b=none->H' b=none)
 (there:∀b o,b∉ch->s.heap.get? b=some o->∃o',h'.get? b=some o')
 (tups:∀b xs,H b=some 0#Z->H' b=some 0#Z) (EH:∀b o u,H b=some (.Po o u)->H' b=some (.Po o u)) (IF:∀b ps,H b=some (.tbl ps)->∃more,H' b=some (.tbl (ps++more)))
 (ns:∀m,s.heap.Ns X.env.locals m->h'.Ns X.env.locals m) (hok:tZ X.prog X.w H' h') (hg:xx g') :
 Inv X pins σ H' { s with heap:=h',gens:=g',drawn:=d',toks:=t' }:=by
 have L:∀b o,X.s₀.heap.get? b=some o->b≠X.env.locals:=λb o e=>mK (nI (fW e) I.ok.above)
 have E:∀b o,X.s₀.heap.get? b=some o->b∉X.ex->b∉ch:=λb o e A G=>by
  rcases (hch b G).1 with z | z
  ·exact A z
  ·exact absurd (nI (fW e) z) (wY _)
 have B:∀x c,X.env.cells.lookup x=some c->∀v,s.heap.IsCell c v->h'.IsCell c v:=λx c e v ⟨o,J,M⟩=>by
  have D:c∉ch:=λz=>(hch c z).2.2.1 x c e rfl
  by_cases hc:c∈X.fs
  ·obtain ⟨sl,q⟩:=slot c o (I.cne x c e) hc D J (I.nJ x c e)
   exact ⟨_,q,M⟩
  ·exact ⟨o,keep c o (I.cne x c e) hc D J (I.nJ x c e),M⟩
 refine ⟨I.ok,I.os,hg,⟨λb o e n G A=>?_,λb o e n G A=>?_,λb o e n A=>?_,λb o e A=>?_,λb xs e=>tups b xs (I.base.tups b xs e),λb o xs e=>EH b o xs (I.base.EH b o xs e),λb ps e=>?_⟩,?_,λx c e=>?_,?_,λx c e=>?_,λp O=>?_,hok,I.len⟩
 ·exact keep b o (L b o e) G (E b o e A) (I.base.keep b o e n G A) (I.base.free b o e n A)
 ·obtain ⟨sl,e1⟩:=I.base.slot b o e n G A
  obtain ⟨N,e2⟩:=slot b _ (L b o e) G (E b o e A) e1 (I.base.free b o e n A)
  exact ⟨N,e2⟩
 ·obtain ⟨o',e1⟩:=I.base.there b o e A
  exact free b o' (E b o e A) e1 (I.base.free b o e n A)
 ·obtain ⟨o',e1⟩:=I.base.there b o e A
  exact there b o' (E b o e A) e1
 ·obtain ⟨U,e1⟩:=I.base.IF b ps e
  obtain ⟨Y,e2⟩:=IF b _ e1
  exact ⟨U++Y,by rw [e2,Array.append_assoc]⟩
 ·obtain ⟨m,S,R⟩:=I.loc
  refine ⟨m,ns m S,λi x v e1 e2 e3=>?_⟩
  obtain ⟨u,r,l⟩:=R i x v e1 e2 e3
  refine ⟨u,r,?_⟩
  rcases l with l | ⟨k,c,e,z⟩
  ·exact .inl l
  ·exact .inr ⟨k,c,e,B x c e _ z⟩
 ·obtain ⟨v,z⟩:=I.cell x c e
  exact ⟨v,B x c e v z⟩
 ·obtain ⟨m,⟨o,_,_,J,_⟩,_⟩:=I.loc
  exact free _ o (λz=>(hch _ z).2.1 rfl) J I.free
 ·obtain ⟨v,o,J,M⟩:=I.cell x c e
  exact free c o (λz=>(hch c z).2.2.1 x c e rfl) J (I.nJ x c e)
 ·obtain ⟨e,n,ne,Q,d⟩:=I.pin p O
  have D:p.1∉ch:=λz=>(hch p.1 z).2.2.2 p O rfl
  exact ⟨keep p.1 p.2 ne Q D e n,free p.1 p.2 D e n,ne,Q,d⟩
def Inv.un (I:0#d) (u:Un X.fs [] H H' s.heap h') (hok:tZ X.prog X.w H' h'):Inv X pins σ H' { s with heap:=h',toks:=t' }:=by
 obtain ⟨m,⟨o,es,ep,E,r⟩,_⟩:=id I.loc
 obtain ⟨sl,G⟩:=u.any E I.free 0#w
 exact I.step (g':=s.gens) (d':=s.drawn) (ch:=[]) (λ_ z=>nomatch z) (λb o _ D _ e n=>u.keep b o e n D 0#w) (λb o _ D _ e n=>u.slot b o e n D 0#w) (λb o _ e n=>u.free b o e n 0#w) (λb o _ e=>u.there b o e 0#w) u.tups u.EH u.IF (λm' J=>by
  obtain ⟨o',B,A,v,L⟩:=J
  rw [E] at v;cases v
  exact ⟨_,B,A,G,L⟩) hok I.bare
def Inv.call (I:0#d) (u:Un (frs X.stack) ch H H' s.heap h') (hok:tZ X.prog X.w H' h') (hg:xx g')
 (hch:∀b∈ch,(b∈X.ex\/X.s₀.heap.objs.size<=b)/\b≠X.env.locals/\(∀x c,X.env.cells.lookup x=some c->c≠b)/\∀p∈X.pn++pins,p.1≠b) :
 Inv X pins σ H' { s with heap:=h',gens:=g',drawn:=d',toks:=t' }:=by
 obtain ⟨m,⟨o,es,ep,G,r⟩,_⟩:=id I.loc
 obtain ⟨sl,E⟩:=u.any G I.free λz=>(hch _ z).2.1 rfl
 exact I.step (ch:=ch) hch (λb o E J v e n=>u.keep b o e n (λz=>(kM.mp (I.Mi b z)).elim E J) v) (λb o _ _ v e n=>u.any e n v) (λb o v e n=>u.free b o e n v) (λb o v e=>u.there b o e v) u.tups u.EH u.IF (λm' L=>by
  obtain ⟨o',D,B,A,M⟩:=L
  rw [G] at A;cases A
  exact ⟨_,D,B,E,M⟩) hok hg
def Inv.turned (I:0#d) (k:∀b o,b≠it->s.heap.get? b=some o->h'.get? b=some o) (hn:H it=none) (hL:it≠X.env.locals)
 (h1:it∈X.ex\/X.s₀.heap.objs.size<=it) (h2:∀x c,X.env.cells.lookup x=some c->c≠it) (h3:∀p∈X.pn++pins,p.1≠it):Inv X pins σ H { s with heap:=h',toks:=t' }:=by
 have B:∀b u,H b=some u->b≠it:=λb u e z=>by rw [z,hn] at e;cases e
 refine I.step (g':=s.gens) (d':=s.drawn) (ch:=[it]) (λb E=>?_) (λb o _ _ A e _=>k b o (λz=>A (by simp [z])) e) (λb o _ _ A e _=>⟨o.slots,k b o (λz=>A (by simp [z])) e⟩) (λ_ _ _ _ n=>n)
  (λb o A e=>⟨o,k b o (λz=>A (by simp [z])) e⟩) (λ_ _ e=>e) (λ_ _ _ e=>e) (λb ps e=>⟨#[],by rw [e];simp⟩) (λm G=>?_) (λb u e=>?_) I.bare
 ·have e:b=it:=by simpa using E
  subst e
  exact ⟨h1,hL,h2,h3⟩
 ·obtain ⟨o,es,D,J,r⟩:=G
  exact ⟨o,es,D,k _ o (jx hL) J,r⟩
 ·refine (I.hok b u e).stay (λc v A q=>k c v ?_ q) (λ_ q=>q) λ_ _ q=>q
  rcases A with z | z
  ·rw [z];exact B b u e
  ·exact B c _ z
def Inv.tok (I:0#d) (t:Nat):Inv X pins σ H { s with toks:=t }:=I.un (h':=s.heap) (t':=t) Un.refl I.hok
def Inv.kept (I:0#d) (k:∀b u,s.heap.get? b=some u->h'.get? b=some u):Inv X pins σ H { s with heap:=h',toks:=t' }:=I.un (Un.kept k) (I.hok.kept k)
def Inv.laid {a:ah} (I:0#d) (k:∀b u,s.heap.get? b=some u->h'.get? b=some u) (hp:s.heap.objs.size<=a) (new:d7 X.prog X.w (upd H a o) h' a o) :
 Inv X pins σ (upd H a o) { s with heap:=h',toks:=t' }:=I.un (Un.laid k hp (I.hok.fresh hp)) (I.hok.laid k hp new)
def Inv.write (I:0#d) (mu:Mut (H x)) (he:e=x\/H e=some (.own x)) (k:∀b u,b≠e->s.heap.get? b=some u->h'.get? b=some u) (heo:∃u,h'.get? e=some u)
 (new:d7 X.prog X.w (upd H x o) h' x o):Inv X pins σ (upd H x o) { s with heap:=h',toks:=t' }:=I.un (Un.write mu he k heo) (I.hok.write mu he k heo new)
def Inv.Tt (I:0#d) (h:∀p∈rF,s.heap.get? p.1=some p.2/\H p.1=none/\p.1≠X.env.locals/\p.1∉X.fs/\∀v,p.2.data≠.cell v):Inv X rF σ H s:=
 ⟨I.ok,I.os,I.bare,I.base,I.loc,I.cell,I.free,I.nJ,λp hp=>(i8.mp hp).elim (λz=>I.pin p (Hh _ z)) (h p),I.hok,I.len⟩
def NH {N:List Str} (hN:N.Nodup) {i:Nat} (a:N[i]?=some x) (b:N[j]?=some x):i=j:=by
 obtain ⟨h1,e1⟩:=tP.mp a
 obtain ⟨h2,e2⟩:=tP.mp b
 exact (List.getElem_inj hN).mp (e1.trans e2.symm)
def JF {X:Cx} {pins:0#l} {σ:List (Option V)} {H:Hp} {s:bB} {M:Model} {A:je} {E:bq->bB->Prop} {i:Nat} {x:Str} {v:V} {u:bq} {Q:Unit->bB->Prop} (I:0#d) (hN:X.N.Nodup) (hi:X.N[i]?=some x) (hx:Loc X.env.scope x) (r:RelV v u)
 (h:∀s',Inv X pins (σ.set i (some v)) H s'->(∃a,CI a s.heap s'.heap/\(a=X.env.locals\/X.env.cells.lookup x=some a))->Q () s') (hf:0#k:=by first | exact .inl rfl | exact .inr rfl | assumption):bY M A (storeName X.env x u) Q E s:=by
 obtain ⟨m,hn,hl⟩:=id I.loc
 have Z:(X.env.scope.kind==.class||(X.env.scope.kind==.module&&X.env.locals != X.env.globals))=false:=by rw [I.ok.kind];rfl
 have U:i<σ.length:=by rw [I.len];exact (tP.mp hi).1
 have cne:=I.cne
 have D:∀{a:ah} {S:cH},(∃o,s.heap.get? a=some o/\H a=none)->CI a s.heap S->tZ X.prog X.w H S:=λ{a S} ha B b ob e=>by
  obtain ⟨_,_,J⟩:=ha
  refine (I.hok b ob e).stay (λc w' G q=>(B.2 c ?_).trans q) (λ_ q=>q) λ_ _ q=>q
  rintro rfl
  rcases G with rfl | G
  ·rw [J] at e;cases e
  ·rw [J] at G;cases G
 rcases hx with L | L
 ·refine wpAny_storeName_local L hn (λS ae B=>?_) Z
  obtain ⟨oL,_,_,af,_⟩:=id hn
  refine h _ ⟨I.ok,I.os,I.bare,⟨λb o e n O hx=>?_,λb o e n O hx=>?_,I.base.free,λb o e hx=>?_,I.base.tups,I.base.EH,I.base.IF⟩,⟨_,ae,λj y v' e1 e2 e3=>?_⟩,λy c e=>?_,I.free,I.nJ,λp hp=>?_,D ⟨oL,af,I.free⟩ B,by simpa using I.len⟩ ⟨_,B,.inl rfl⟩
  ·exact (B.2 b (mK (nI (fW e) I.ok.above))).trans (I.base.keep b o e n O hx)
  ·obtain ⟨sl,e1⟩:=I.base.slot b o e n O hx
   exact ⟨sl,(B.2 b (mK (nI (fW e) I.ok.above))).trans e1⟩
  ·obtain ⟨o',e1⟩:=I.base.there b o e hx
   exact ⟨o',(B.2 b (mK (nI (fW e) I.ok.above))).trans e1⟩
  ·by_cases hj:j=i
   ·subst hj
    rw [hi] at e1;cases e1
    rw [acA U] at e2
    cases e2
    exact ⟨u,r,.inl ⟨L,by simp⟩⟩
   ·rw [acN (jx hj)] at e2
    obtain ⟨u',r',q⟩:=hl j y v' e1 e2 e3
    refine ⟨u',r',?_⟩
    rcases q with ⟨k,e⟩ | ⟨k,c,e,z⟩
    ·refine .inl ⟨k,?_⟩
     have:y≠x:=λe=>hj (NH hN e1 (e▸hi))
     simp [this,e]
    ·exact .inr ⟨k,c,e,z.sameBut B (cne y c e)⟩
  ·obtain ⟨w',z⟩:=I.cell y c e
   exact ⟨w',z.sameBut B (cne y c e)⟩
  ·obtain ⟨e,n,ne,nf,d⟩:=I.pin p hp
   exact ⟨(B.2 p.1 ne).trans e,n,ne,nf,d⟩
 ·have R:X.fn x=true:=by
   rcases hf with z | z
   ·exact z
   ·rw [z] at L;cases L
  obtain ⟨c,G⟩:=I.ok.has x (.inl L)
  obtain ⟨w',z⟩:=I.cell x c G
  refine wpAny_storeName_cell I.ok.kind L G z (λS Y B=>?_)
  obtain ⟨oc,ac,ad⟩:=id z
  refine h { s with heap:=S } ⟨I.ok,I.os,I.bare,⟨λb o e n O hx=>?_,λb o e n O hx=>?_,I.base.free,λb o e hx=>?_,I.base.tups,I.base.EH,I.base.IF⟩,⟨m,hn.sameBut B (jx (cne x c G)),λj y v' e1 e2 e3=>?_⟩,λy c' e=>?_,I.free,I.nJ,λp hp=>?_,D ⟨oc,ac,I.nJ x c G⟩ B,by simpa using I.len⟩ ⟨c,B,.inr G⟩
  ·exact (B.2 b (mK (nI (fW e) (I.ok.V6 x c R G)))).trans (I.base.keep b o e n O hx)
  ·obtain ⟨sl,e1⟩:=I.base.slot b o e n O hx
   exact ⟨sl,(B.2 b (mK (nI (fW e) (I.ok.V6 x c R G)))).trans e1⟩
  ·obtain ⟨o',e1⟩:=I.base.there b o e hx
   exact ⟨o',(B.2 b (mK (nI (fW e) (I.ok.V6 x c R G)))).trans e1⟩
  ·by_cases hj:j=i
   ·subst hj
    rw [hi] at e1;cases e1
    rw [acA U] at e2
    cases e2
    exact ⟨u,r,.inr ⟨.inl L,c,G,Y⟩⟩
   ·rw [acN (jx hj)] at e2
    obtain ⟨u',r',q⟩:=hl j y v' e1 e2 e3
    refine ⟨u',r',?_⟩
    rcases q with q | ⟨k,c',e,z'⟩
    ·exact .inl q
    ·refine .inr ⟨k,c',e,z'.sameBut B ?_⟩
     rintro rfl
     exact hj (NH hN e1 (I.ok.inj _ _ _ e G▸hi))
  ·by_cases hcc:c'=c
   ·subst hcc;exact ⟨_,Y⟩
   ·obtain ⟨w2,z2⟩:=I.cell y c' e
    exact ⟨w2,z2.sameBut B hcc⟩
  ·obtain ⟨e,n,ne,nf,d⟩:=I.pin p hp
   refine ⟨(B.2 p.1 ?_).trans e,n,ne,nf,d⟩
   intro q
   rw [q,ac] at e
   have q':oc=p.2:=uf e
   exact d w' (by rw [<- q'];exact ad)
def vA {X:Cx} {pins:0#l} {σ:List (Option V)} {H:Hp} {s:bB} {M:Model} {A:je} {E:bq->bB->Prop} {i:Nat} {x:Str} {v:V} {u:bq} {Q:Unit->bB->Prop} (I:0#d) (hN:X.N.Nodup) (hi:X.N[i]?=some x) (hx:Loc X.env.scope x) (r:RelV v u)
 (h:∀s',Inv X pins (σ.set i (some v)) H s'->Q () s') (hf:0#k:=by first | exact .inl rfl | exact .inr rfl | assumption):bY M A (storeName X.env x u) Q E s:=
 JF I hN hi hx r (λs' I' _=>h s' I') hf
def Inv.ML (I:0#d) (ho:s'.os=s.os) (u:Un (frs X.stack) ch H H' s.heap s'.heap) (hok:tZ X.prog X.w H' s'.heap) (hg:xx s'.gens)
 (hch:∀b∈ch,(b∈X.ex\/X.s₀.heap.objs.size<=b)/\b≠X.env.locals/\(∀x c,X.env.cells.lookup x=some c->c≠b)/\∀p∈X.pn++pins,p.1≠b):Inv X pins σ H' s':=by
 obtain ⟨h',g',d',t',v⟩:=s'
 have e:v=s.os:=ho
 subst e
 exact I.call (g':=g') (t':=t') (d':=d') u hok hg hch
abbrev XK:=bq->Option ah->Hp->Prop
abbrev St:=List (Option V)
abbrev VK:=V->Hp->Prop
abbrev TE:=St->Hp->VK->Prop
abbrev TT:=St->Hp->(Bool->Hp->Prop)->Prop
abbrev TA:=St->Hp->(List V->Hp->Prop)->Prop
structure Ends where
 nx:St->Hp->Prop
 rt:VK
 bk:St->Hp->Prop:=λ_ _=>False
 ct:St->Hp->Prop:=λ_ _=>False
abbrev TS:=Ends->St->Hp->Prop
def EP (X:Cx) (pins:0#l) (σ:St) (Q:VK) (u:bq) (s':bB):Prop:=∃v H',Inv X pins σ H' s'/\RelV v u/\Q v H'
def TP (X:Cx) (pins:0#l) (σ:St) (Q:Bool->Hp->Prop) (b:Bool) (s':bB):Prop:=∃H',Inv X pins σ H' s'/\Q b H'
def AP (X:Cx) (pins:0#l) (σ:St) (Q:0#n->Hp->Prop) (us:List bq) (s':bB):Prop:=∃vs H',Inv X pins σ H' s'/\Vals vs us/\Q vs H'
def SP (X:Cx) (pins:0#l) (D:Ends) (f:Flow) (s':bB):Prop:=
 match f with
 | .next=>∃σ' H',Inv X pins σ' H' s'/\D.nx σ' H'
 | .brk=>∃σ' H',Inv X pins σ' H' s'/\D.bk σ' H'
 | .cont=>∃σ' H',Inv X pins σ' H' s'/\D.ct σ' H'
 | .ret u=>∃v σ' H',Inv X pins σ' H' s'/\RelV v u/\D.rt v H'
def PE (X:Cx) (e:bz) (t:TE):Prop:=
 ∀(pins:0#l) (s:bB) (σ:St) (H:Hp) (Q:VK),Inv X pins σ H s->t σ H Q->bY 0#C X.A (eval e X.env) (EP X pins σ Q) X.xe s
def PT (X:Cx) (e:bz) (t:TT):Prop:=
 ∀(pins:0#l) (s:bB) (σ:St) (H:Hp) (Q:Bool->Hp->Prop),Inv X pins σ H s->t σ H Q->bY 0#C X.A (isTrue e X.env (eval e X.env)) (TP X pins σ Q) X.xe s
def PW (X:Cx) (e:bz) (t:TT):Prop:=
 ∀(whole:Sem bq) (pins:0#l) (s:bB) (σ:St) (H:Hp) (Q:Bool->Hp->Prop),Inv X pins σ H s->t σ H Q->bY 0#C X.A (isTrue e X.env whole) (TP X pins σ Q) X.xe s
def PW.pt (h:PW X e t):PT X e t:=h _
def PA (X:Cx) (es:List bz) (t:TA):Prop:=
 ∀(pos:Pos) (pins:0#l) (s:bB) (σ:St) (H:Hp) (Q:0#n->Hp->Prop),Inv X pins σ H s->t σ H Q->bY 0#C X.A (spliced (gc pos (dg es X.env))) (AP X pins σ Q) X.xe s
def PS (X:Cx) (st:aS) (t:TS):Prop:=
 ∀(pins:0#l) (s:bB) (σ:St) (H:Hp) (D:Ends),Inv X pins σ H s->t D σ H->bY 0#C X.A (exec st X.env) (SP X pins D) X.xe s
def Hw (X:Cx) (st:List aS) (t:TS):Prop:=
 ∀(pins:0#l) (s:bB) (σ:St) (H:Hp) (D:Ends),Inv X pins σ H s->t D σ H->bY 0#C X.A (execs st X.env) (SP X pins D) X.xe s
def ig (h:bY M A t Q E s) (hQ:∀a s,Q a s->Q' a s):bY M A t Q' E s:=pO h hQ λ_ _ x=>x
def VQ (i:Nat):TE:=λσ H Q=>∃v,σ[i]?=some (some v)/\Q v H
def tC (v:V):TE:=λ_ H Q=>Q v H
def afV (hN:X.N[i]?=some x) (hv:Vis X.env.scope x) (hd:0#e:=by decide) (hcd:(x==("__classdict__":Str))=false:=by decide):PE X (.Name x pos) (VQ i):=by
 intro D s M H Q I h
 obtain ⟨v,e,h⟩:=h
 obtain ⟨m,L,G⟩:=I.loc
 obtain ⟨u,r,l⟩:=G i x v hN e hv
 have A:EP X D M Q u s:=⟨v,H,I,r,h⟩
 rcases l with ⟨B,J⟩ | ⟨B,c,E,z⟩
 ·exact aaa (wpAny_loadName_local I.ok.kind B L J A) hd
 ·rcases B with B | B
  ·exact aaa (wpAny_loadName_cell I.ok.kind B E z A) hd
  ·exact aaa (wpAny_loadName_free I.ok.kind B E z A hcd) hd
def FO {X:Cx} {i j pos}:PE X (.Constant (.int i) j pos) (tC (.int i)):=λ_ _ _ H _ I h=>wpAny_Constant_int ⟨.int i,H,I.tok _,⟨_,rfl⟩,h⟩
def XX {X:Cx} {b j pos}:PE X (.Constant (.bool b) j pos) (tC (.bl b)):=λ_ _ _ H _ I h=>Constant_bool ⟨.bl b,H,I,rfl,h⟩
def QH {X:Cx} {j pos}:PE X (.Constant .none j pos) (tC .bM):=λ_ _ _ H _ I h=>Constant_none ⟨.bM,H,I,rfl,h⟩
def QK {X:Cx} {x j pos}:PE X (.Constant (.str x) j pos) (tC (.str x)):=λ_ _ _ H _ I h=>Calls.Constant_str ⟨.str x,H,I.tok _,⟨_,rfl⟩,h⟩
def Gl (X:Cx) (x:Str):Prop:=X.env.kindOf x=some .globalImplicit
def yX {σ:St} (I:0#d) (hg:Gl X x) (hm:X.mg x=some u) (h:Q u s)
 (hd:0#e:=by decide):bY 0#C X.A (eval (.Name x pos) X.env) Q E s:=
 acn I.ok.kind hg (Calls.loadGlobal_global (by rw [I.ok.glob];exact I.mod.glob.keeps I.bk) hm h) hd
def xT {σ:St} (I:0#d) (hg:Gl X x) (hm:X.mg x=none) (hv:wZ x=some u) (h:Q u s)
 (hn:x ≠ "__name__":=by decide) (hd:0#e:=by decide):bY 0#C X.A (eval (.Name x pos) X.env) Q E s:=by
 obtain ⟨mb,v,z⟩:=I.mod.blt
 exact acn I.ok.kind hg (Calls.loadGlobal_builtin (by rw [I.ok.glob];exact I.mod.glob.keeps I.bk) hm (by rw [I.ok.blt];exact v.keeps I.bk) ((z x hn).trans hv) h) hd
def DW (hg:Gl X x) (hm:X.mg x=some u) (r:RelV v u) (hd:0#e:=by decide):PE X (.Name x pos) (tC v):=
 λ_ _ _ H _ I h=>yX I hg hm ⟨v,H,I,r,h⟩ hd
def abo (hg:Gl X x) (hm:X.mg x=none) (hv:wZ x=some u) (r:RelV v u) (hn:x ≠ "__name__":=by decide) (hd:0#e:=by decide):PE X (.Name x pos) (tC v):=
 λ_ _ _ H _ I h=>xT I hg hm hv ⟨v,H,I,r,h⟩ hn hd
def tB (t:TE):TT:=λσ H Q=>t σ H λx H1=>∃c,x=.bl c/\Q c H1
def Q3 {X:Cx} {e:bz} {t:TE} (h:PE X e t) (he:∀whole,isTrue e X.env whole=(do let v <- whole;xy e.pos;holding [v] (truthy v)):=by intro _;rfl):PT X e (tB t):=by
 intro u s G H Q I B
 refine isTrue_plain (ig (h u s G H _ I B) λv s1 ⟨x,z,A,E,D⟩=>?_) (he _)
 obtain ⟨d,rfl,q⟩:=D
 cases E
 exact Ul ⟨z,A,q⟩
def agy (t u:TT):TT:=λσ H Q=>t σ H λc H1=>if c=true then u σ H1 Q else Q false H1
def tOr (t u:TT):TT:=λσ H Q=>t σ H λc H1=>if c=true then Q true H1 else u σ H1 Q
def agC (t:TT):TT:=λσ H Q=>t σ H λc H1=>Q (!c) H1
def Lr (ha:PT X a tA):PW X (.BoolOp .And [a] pos) tA:=by
 intro wh u s v H Q I h
 refine isTrue_and (ig (ha u s v H Q I h) λc s1 e=>?_)
 cases c with
 | true=>exact isTrue_and_nil e
 | false=>exact e
def sO (ha:PT X a tA):PW X (.BoolOp .Or [a] pos) tA:=by
 intro wh u s v H Q I h
 refine isTrue_or (ig (ha u s v H Q I h) λc s1 e=>?_)
 cases c with
 | false=>exact isTrue_or_nil e
 | true=>exact e
def Q6 (ha:PT X a tA) (hb:PW X (.BoolOp .And (b::rest) pos) tB'):PW X (.BoolOp .And (a::b::rest) pos) (agy tA tB'):=by
 intro E u s B H Q I h
 refine isTrue_and (ig (ha u s B H _ I h) λc D ⟨v,z,A⟩=>?_)
 cases c with
 | true=>exact hb E u D B v Q z A
 | false=>exact ⟨v,z,A⟩
def zP (ha:PT X a tA) (hb:PW X (.BoolOp .Or (b::rest) pos) tB'):PW X (.BoolOp .Or (a::b::rest) pos) (tOr tA tB'):=by
 intro E u s B H Q I h
 refine isTrue_or (ig (ha u s B H _ I h) λc D ⟨v,z,A⟩=>?_)
 cases c with
 | true=>exact ⟨v,z,A⟩
 | false=>exact hb E u D B v Q z A
def sN (ha:PT X a tA):PT X (.UnaryOp .Not a pos) (agC tA):=by
 intro u s z H Q I h
 exact isTrue_not (ha u s z H (λc v=>Q (!c) v) I h)
def YN (ta tb:TE):TE:=λσ H Q=>ta σ H λx H1=>∃c,x=.bl c/\if c=true then tb σ H1 Q else Q (.bl false) H1
def YU (ta:TE):TE:=λσ H Q=>ta σ H λx H1=>∃c,x=.bl c/\Q (.bl (!c)) H1
def yc {X:Cx} {a:bz} {pos:Pos} {op} {t:TE} (h:PE X a t):PE X (.BoolOp op [a] pos) t:=λpins s σ H Q I hw=>BoolOp_one (h pins s σ H Q I hw)
def uR (ha:PE X a ta) (hb:PE X (.BoolOp .And (b::rest) pos) tb):PE X (.BoolOp .And (a::b::rest) pos) (YN ta tb):=by
 intro u s D H Q I h
 refine BoolOp_and (ig (ha u s D H _ I h) λv G ⟨x,A,B,E,z⟩=>?_)
 obtain ⟨c,rfl,z⟩:=z
 cases E
 refine Ul ?_
 cases c with
 | true=>exact hb u G D A Q B z
 | false=>exact ⟨.bl false,A,B,rfl,z⟩
def QJ (ha:PE X a ta):PE X (.UnaryOp .Not a pos) (YU ta):=by
 intro u s E H Q I h
 refine UnaryOp_ (ig (ha u s E H _ I h) λv s1 ⟨x,A,B,D,z⟩=>?_)
 obtain ⟨c,rfl,z⟩:=z
 cases D
 exact not_of (Ul ⟨.bl (!c),A,B,rfl,z⟩)
def tIf (t:TT) (ta tb:TE):TE:=λσ H Q=>t σ H λc H1=>if c=true then ta σ H1 Q else tb σ H1 Q
def FN (hc:PT X c tA) (ha:PE X a ta) (hb:PE X b tb):PE X (.IfExp c a b pos) (tIf tA ta tb):=by
 intro u s v H Q I h
 refine wpAny_IfExp (ig (hc u s v H _ I h) λd D ⟨z,A,B⟩=>?_)
 cases d with
 | true=>exact ha u D v z Q A B
 | false=>exact hb u D v z Q A B
def bS (K:bU) (H:Hp) (a:ah) (xs:0#n):Prop:=
 Rd H a (.lst xs) \/
  ∃(o:Obj) (its:Array bq) (n:Nat),K.lookup a=some o/\o.cls=.type "list"/\o.dict=none/\o.data=.seq its n/\its.size<=sizeLine/\Vals xs its.toList
def qR (K:bU) (H:Hp) (a:ah) (xs:0#n):Prop:=
 Rd H a 0#Z \/
  ∃(o:Obj) (its:Array bq) (n:Nat),K.lookup a=some o/\o.cls=.type "tuple"/\o.data=.seq its n/\its.size<=sizeLine/\Vals xs its.toList
noncomputable def ajE:bq->Option V
 | .none=>some .bM
 | .bool b=>some (.bl b)
 | .int i _=>some (.int i)
 | .str x _=>some (.str x)
 | .bytes b _=>some (.V5 b)
 | .float b _=>some (.flt b)
 | .ref a=>some (.ref a)
 | .type n=>some (.ty n)
 | _=>none
def RelV.abs (r:RelV x u):ajE u=some x:=by
 cases x with
 | bM=>cases r;rfl
 | bl _=>cases r;rfl
 | int _=>obtain ⟨t,rfl⟩:=r;rfl
 | str _=>obtain ⟨t,rfl⟩:=r;rfl
 | V5 _=>obtain ⟨t,rfl⟩:=r;rfl
 | flt _=>obtain ⟨t,rfl⟩:=r;rfl
 | ref _=>cases r;rfl
 | ty _=>cases r;rfl
def RelV.inj (r:RelV x u) (q:RelV y u):x=y:=uf (r.abs.symm.trans q.abs)
def Vals.inj:∀{xs ys:0#n} {us:List bq},Vals xs us->Vals ys us->xs=ys
 | _,_,_,.nil,.nil=>rfl
 | _,_,_,.cons r t,.cons r' t'=>by rw [r.inj r',Vals.inj t t']
def bS.of {K:bU} (h:H a=some (.lst xs)):bS K H a xs:=.inl (.inl h)
def qR.of {K:bU} (h:H a=some 0#Z):qR K H a xs:=.inl (.inl h)
def Inv.list {σ:St} (I:0#d) (h:bS X.K H a xs):∃its:List bq,Vals xs its/\PlainL s.heap a its.toArray/\xs.length<=sizeLine:=by
 rcases h with h | ⟨o,its,n,A,u,v,B,hz,r⟩
 ·obtain ⟨z,its,n,r,e⟩:=h.ok I.hok
  exact ⟨its,r,⟨_,n,e,rfl,rfl,rfl⟩,z⟩
 ·refine ⟨its.toList,r,⟨o,n,I.yL a o A,u,v,by simpa using B⟩,?_⟩
  have e:=r.length
  simp only [Uh] at e
  simp?
def Inv.tuple {σ:St} (I:0#d) (h:qR X.K H a xs):∃its:List bq,Vals xs its/\IsTup s.heap a its.toArray/\xs.length<=sizeLine:=by
 rcases h with h | ⟨o,its,n,v,u,A,hz,r⟩
 ·obtain ⟨z,its,r,p⟩:=h.ok I.hok
  exact ⟨its,r,p,z⟩
 ·refine ⟨its.toList,r,⟨o,I.yL a o v,u,n,by simpa using A⟩,?_⟩
  have e:=r.length
  simp only [Uh] at e
  simp?
def Inv.zf {σ:St} (I:0#d) (h:bS X.K H a xs) (h':bS X.K H a ys):xs=ys:=by
 obtain ⟨v,r,⟨o,n,e,_,_,d⟩,_⟩:=I.list h
 obtain ⟨u,B,⟨o',n',A,_,_,z⟩,_⟩:=I.list h'
 rw [e] at A;cases A
 rw [d] at z
 injection z with d1 _
 have:v=u:=by simpa using congrArg ad0 d1
 subst this
 exact r.inj B
def Inv.VT {σ:St} (I:0#d) (h:qR X.K H a xs) (h':qR X.K H a ys):xs=ys:=by
 obtain ⟨v,r,⟨o,e,_,n,d⟩,_⟩:=I.tuple h
 obtain ⟨u,B,⟨o',A,_,n',z⟩,_⟩:=I.tuple h'
 rw [e] at A;cases A
 rw [d] at z
 injection z with d1 _
 have:v=u:=by simpa using congrArg ad0 d1
 subst this
 exact r.inj B
noncomputable abbrev Cx.IG (X:Cx) (E:bq->bB->Prop):Cx:={ X with xe:=E }
noncomputable abbrev Cx.nox (X:Cx):Cx:=X.IG λ_ _=>False
def Cx.Ok.IG {X:Cx} (ok:X.Ok) (E:bq->bB->Prop):(X.IG E).Ok:=
 ⟨ok.mod,ok.kind,ok.glob,ok.blt,ok.above,ok.inj,ok.has,ok.V6,ok.hd,ok.frames,ok.stk,ok.exf,ok.bs,ok.UT,ok.KN,ok.MX,ok.uG,ok.V8⟩
def Cx.Ok.vC {X:Cx} (ok:(X.IG E).Ok):X.Ok:=
 ⟨ok.mod,ok.kind,ok.glob,ok.blt,ok.above,ok.inj,ok.has,ok.V6,ok.hd,ok.frames,ok.stk,ok.exf,ok.bs,ok.UT,ok.KN,ok.MX,ok.uG,ok.V8⟩
def Inv.IG {σ:St} (I:0#d) (E:bq->bB->Prop):Inv (X.IG E) pins σ H s:=⟨I.ok.IG E,I.os,I.bare,I.base,I.loc,I.cell,I.free,I.nJ,I.pin,I.hok,I.len⟩
def Inv.vC {σ:St} (I:Inv (X.IG E) pins σ H s):Inv X pins σ H s:=⟨I.ok.vC,I.os,I.bare,I.base,I.loc,I.cell,I.free,I.nJ,I.pin,I.hok,I.len⟩
def SP.vC (h:SP (X.IG E) pins D f s'):SP X pins D f s':=by
 cases f with
 | next=>obtain ⟨z,H',I,q⟩:=h;exact ⟨z,H',I.vC,q⟩
 | brk=>obtain ⟨z,H',I,q⟩:=h;exact ⟨z,H',I.vC,q⟩
 | cont=>obtain ⟨z,H',I,q⟩:=h;exact ⟨z,H',I.vC,q⟩
 | ret u=>obtain ⟨v,z,H',I,r,q⟩:=h;exact ⟨v,z,H',I.vC,r,q⟩
def Hw.nox {st:List aS} (h:Hw X.nox st t):Hw X st t:=λpins s σ H D I hw=>
 pO (h pins s σ H D (I.IG _) hw) (λ_ _ q=>q.vC) λ_ _ z=>rR z
def TX:TS:=λD σ H=>D.nx σ H
def DC (t u:TS):TS:=λD σ H=>t { D with nx:=u D } σ H
def Lj {X:Cx}:Hw X [] TX:=λ_ _ σ H _ I h=>Uu ⟨σ,H,I,h⟩
def F0 {X:Cx} {st:aS} {rest:List aS} {t u:TS} (h1:PS X st t) (h2:Hw X rest u):Hw X (st::rest) (DC t u):=by
 intro z s G H D I h
 refine adl (ig (h1 z s G H { D with nx:=u D } I h) λf E q=>?_)
 cases f with
 | next=>
   obtain ⟨A,H',B,q⟩:=q
   exact h2 z E A H' D B q
 | ret v=>exact q
 | brk=>exact q
 | cont=>exact q
def Lk {X:Cx} {st:aS} {t:TS} (h1:PS X st t):Hw X [st] t:=by
 intro u s z H D I h
 refine adl (ig (h1 u s z H D I h) λf s1 q=>?_)
 cases f with
 | next=>exact Uu q
 | ret v=>exact q
 | brk=>exact q
 | cont=>exact q
def YO:TS:=λD σ H=>D.ct σ H
def uS:PS X (.Continue pos) YO:=λ_ _ σ H _ I h=>wpAny_Continue ⟨σ,H,I,h⟩
def Inv.quiet {σ:St} (I:0#d):interactive X.env=false:=by simp [interactive,I.ok.kind]
def TV (te:TE):TS:=λD σ H=>te σ H λ_ H1=>D.nx σ H1
def Lg {X:Cx} {e:bz} {te:TE} {pos:Pos} (he:PE X e te) (hs:kR e none pos.line X.env=pure false:=by rfl):PS X (.Expr e pos) (TV te):=by
 intro u s z H D I h
 exact wpAny_Expr_any (ig (he u s z H _ I h) λv s1 ⟨x,A,B,r1,E⟩=>⟨z,A,B,E⟩) I.quiet hs
def agE (te:TE):TS:=λD σ H=>te σ H D.rt
def Q2 {X:Cx} {e:bz} {te:TE} {pos:Pos} (he:PE X e te):PS X (.Return (some e) pos) (agE te):=by
 intro u s z H D I h
 exact wpAny_Return_some (ig (he u s z H _ I h) λv s1 ⟨x,A,B,G,E⟩=>⟨x,z,A,B,G,E⟩)
def YS (c:TT) (t u:TS):TS:=λD σ H=>c σ H λb H1=>if b=true then t D σ H1 else u D σ H1
def Yb {X:Cx} {t u:TS} {pos:Pos} {c:bz} {a b:List aS} {tc:TT} (hc:PT X c tc) (ha:Hw X a t) (hb:Hw X b u):PS X (.If c a b pos) (YS tc t u):=by
 intro v s z H D I h
 refine wpAny_If (ig (hc v s z H _ I h) λd G ⟨A,B,E⟩=>?_)
 cases d with
 | true=>exact ha v G z A D B E
 | false=>exact hb v G z A D B E
def YT:TS:=λ_ _ _=>False
def o4 {st:aS}:PS X st YT:=λ_ _ _ _ _ _ h=>h.elim
abbrev TG:=V->St->Hp->(St->Hp->Prop)->Prop
abbrev TGs:=List V->St->Hp->(St->Hp->Prop)->Prop
def PG (X:Cx) (target:bz) (t:TG):Prop:=
 ∀(pins:0#l) (s:bB) (σ:St) (H:Hp) (v:V) (u:bq) (Q:St->Hp->Prop),Inv X pins σ H s->RelV v u->t v σ H Q ->
  bY 0#C X.A (assign target X.env u) (λ_ s'=>∃σ' H',Inv X pins σ' H' s'/\Q σ' H') X.xe s
def PGs (X:Cx) (ts:List bz) (t:TGs):Prop:=
 ∀(pins:0#l) (s:bB) (σ:St) (H:Hp) (vs:0#n) (us:List bq) (Q:St->Hp->Prop),Inv X pins σ H s->Vals vs us->t vs σ H Q ->
  bY 0#C X.A (assignInOrder ((rS ts X.env).map (·.2)) us) (λ_ s'=>∃σ' H',Inv X pins σ' H' s'/\Q σ' H') X.xe s
abbrev agU:=V->V->V->Hp->(Hp->Prop)->Prop
def aeE (X:Cx) (t:agU):Prop:=
 ∀(pins:0#l) (s:bB) (σ:St) (H:Hp) (o i v:V) (ov iv u:bq) (Q:Hp->Prop),Inv X pins σ H s->RelV o ov->RelV i iv->RelV v u->t o i v H Q ->
  bY 0#C X.A (setItem ov iv u) (λ_ s'=>∃H',Inv X pins σ H' s'/\Q H') X.xe s
def kj (i:Nat):TG:=λv σ H Q=>Q (σ.set i (some v)) H
def Lc {X:Cx} {pos:Pos} {i:Nat} {x:Str} (hN:X.N.Nodup) (hi:X.N[i]?=some x) (hx:Loc X.env.scope x) (hf:0#k:=by first | exact .inl rfl | exact .inr rfl | assumption):PG X (.Name x pos) (kj i):=by
 intro pins s σ H v u Q I r h
 exact ac3 (vA I hN hi hx r (λs' z=>⟨_,H,z,h⟩) hf)
def WT:TGs:=λvs σ H Q=>vs=[]/\Q σ H
def wJ (t:TG) (u:TGs):TGs:=λvs σ H Q=>∃v r,vs=v::r/\t v σ H λσ' H'=>u r σ' H' Q
def Ld {X:Cx}:PGs X [] WT:=by
 intro pins s u H vs us Q I r h
 obtain ⟨e,h⟩:=h
 subst e
 cases r
 exact ac4 ⟨u,H,I,h⟩
def FQ {X:Cx} {e:bz} {es:List bz} {t:TG} {u:TGs} (h1:PG X e t) (h2:PGs X es u)
 (hs:(rS (e::es) X.env).map (·.2)=assign e X.env::(rS es X.env).map (·.2):=by rfl):PGs X (e::es) (wJ t u):=by
 intro z s J H vs us Q I r h
 obtain ⟨v,vr,e1,h⟩:=h
 subst e1
 cases r with
 | cons r rr=>
   rw [hs]
   refine Zr (ig (h1 z s J H _ _ _ I r h) λ_ G ⟨A,B,D,E⟩=>?_)
   exact h2 z G A B _ _ Q D rr E
def U3 (K:bU) (n:Nat) (t:TGs):TG:=λv σ H Q=>∃a xs,v=.ref a/\qR K H a xs/\xs.length=n/\t xs σ H Q
def afW (hc:X.calm=true) (h:PGs X es t)
 (hn:(rS es X.env).length=n:=by rfl) (hst:(rS es X.env).findIdx? (·.1)=none:=by rfl):PG X (.Tuple es k pos) (U3 X.K n t):=by
 intro z s D H v u Q I r A
 obtain ⟨a,O,e1,L,J,A⟩:=A
 subst e1
 cases r
 obtain ⟨its,B,M,hz⟩:=I.tuple L
 refine assign_Tuple_tuple (I.ok.hd hc) M (by simp [hn,<- J,B.length]) hst λG N=>?_
 have E:Inv X z D H { s with heap:=G }:=I.kept (t':=s.toks) λb o e=>N b o (mK (fW e)) e
 exact h z _ D H O _ Q E (by simpa using B) A
def afc (to ti:TE) (t:agU):TG:=λv σ H Q=>to σ H λo H1=>ti σ H1 λi H2=>t o i v H2 λH3=>Q σ H3
def QU (ho:PE X o to) (hi:PE X i ti) (hs:aeE X t)
 (ha:∀v,assign (.Subscript o i pos) X.env v=(do
   let ov <- holding [v] (eval o X.env)
   let iv <- holding [v,ov] (eval i X.env)
   xy pos
   holding [v,ov,iv] (setItem ov iv v)
   release [v,ov,iv] []):=by intro _;rfl):PG X (.Subscript o i pos) (afc to ti t):=by
 intro z s A H v u Q I r h
 rw [ha]
 refine dX (G4 (ig (ho z s A H _ I h) λov U ⟨x,B,G,R,M⟩=>?_))
 refine dX (G4 (ig (hi z U A B _ G M) λiv Y ⟨y,D,J,S,N⟩=>?_))
 refine dX (UA (dX (G4 (ig (hs z Y A D x y v ov iv u _ J R S r N) λ_ s3 ⟨E,L,O⟩=>?_))))
 exact wpAny_release ⟨A,E,L,O⟩
def IE (te:TE) (g:TG):TS:=λD σ H=>te σ H λx H1=>g x σ H1 D.nx
def qy (he:PE X e te) (hg:PG X tg g) (hs:swapsWithSole [tg] e pos.line X.env=pure false:=by rfl) (hw:swappedStores [tg] e X.env=pure none:=by rfl)
 (h1:(rS [tg] X.env).map (·.2)=[assign tg X.env]:=by rfl):PS X (.Assign [tg] e pos) (IE te g):=by
 intro u s z H D I h
 refine wpAny_Assign_stores (ig (he u s z H _ I h) λv J ⟨x,A,B,G,E⟩=>?_) hs hw
 rw [h1]
 exact ig (hg u J z A x v _ B G E) λ_ s2 q=>q
def Li {X:Cx} {pos:Pos} {i:Nat} {x:Str} {e:bz} {te:TE} {pos':Pos} (hN:X.N.Nodup) (hi:X.N[i]?=some x) (hx:Loc X.env.scope x) (he:PE X e te) (hs:kR e (some (.Name x pos')) pos.line X.env=pure false:=by rfl) (hf:0#k:=by first | exact .inl rfl | exact .inr rfl | assumption) :
 PS X (.Assign [.Name x pos'] e pos) (IE te (kj i)):=by
 intro u s J H D I h
 refine wpAny_Assign_Name (ig (he u s J H _ I h) λv s1 ⟨y,z,A,G,E⟩=>?_) hs
 exact vA A hN hi hx G (λs2 B=>⟨_,z,B,E⟩) hf
def agD (i j:Nat) (ta:TA):TS:=λD σ H=>ta σ H λvs H1=>∃v w,vs=[v,w]/\D.nx ((σ.set i (some v)).set j (some w)) H1
def Lh (hc:X.calm=true) (hN:X.N.Nodup) (hi:X.N[i]?=some x) (hj:X.N[j]?=some y) (hij:i≠j)
 (hx:X.env.scope.names.lookup x=some .local) (hy:X.env.scope.names.lookup y=some .local) (ha:PA X [a,b] ta)
 (hw:swappedStores [.Tuple [.Name x px,.Name y py] kt pt] (.Tuple [a,b] k2 pt2) X.env=pure (some [x,y]))
 (hs:swapsWithSole [.Tuple [.Name x px,.Name y py] kt pt] (.Tuple [a,b] k2 pt2) pos.line X.env=pure false:=by rfl) :
 PS X (.Assign [.Tuple [.Name x px,.Name y py] kt pt] (.Tuple [a,b] k2 pt2) pos) (agD i j ta):=by
 intro u s Q H D I h
 rw [exec_Assign_arm]
 refine dX (UA ?_)
 rw [hs]
 refine dX (jW ?_)
 rw [if_neg 0#y]
 refine dX (Tuple_ (ig (ha _ u s Q H _ I h) λus z ⟨vs,M,R,Z,J⟩=>?_))
 obtain ⟨v,w,e1,J⟩:=J
 subst e1
 obtain ⟨B,E,rfl,rv,L⟩:∃B E,us=[B,E]/\RelV v B/\RelV w E:=by
  cases Z with
  | cons p q=>
    cases q with
    | cons p' q'=>
      cases q'
      exact ⟨_,_,rfl,p,p'⟩
 refine ac5 ?_ (by show 2<=sizeLine;decide)
 have S:Inv X u Q M { z with heap:=z.heap.push { cls:=.type "tuple",data:=.seq [B,E].toArray } }:=R.kept (t':=z.toks) λb o e=>pM _ e
 rw [hw]
 refine dX (jW ?_)
 show bY 0#C X.A (do rule "assign.swapped-stores";let items <- unpackItems (.ref z.heap.objs.size) 2 none;assignInOrder [λv=>bindName X.env y v,λv=>bindName X.env x v] items.reverse;pure Flow.next) _ _ _
 refine dX (wpAny_rule (dX (unpackItems_tuple (items:=#[B,E]) (I.ok.hd hc) (aaf z.heap _) λh' G=>?_)))
 have U:=S.kept (h':=h') (t':=z.toks) λb o e=>G b o (mK (fW e)) e
 show bY _ _ (assignInOrder [λv=>bindName X.env y v,λv=>bindName X.env x v] [E,B] >>= λ_=>pure Flow.next) _ _ _
 refine dX (Zr (adG (vA U hN hj (.inl hy) L (λs2 Y=>?_) (.inr hy))))
 refine Zr (adG (vA Y hN hi (.inl hx) rv (λs3 O=>ac4 (jW ?_)) (.inr hx)))
 rw [List.set_comm _ _ (jx hij)] at O
 exact ⟨_,M,O,J⟩
def GQ (c:TT) (tb:TS):TS:=λD σ H=>∃W:Nat->St->Hp->Prop,(∃m,W m σ H)/\∀m σ H,W m σ H ->
 c σ H λb H1=>if b=true then ∃N:St->Hp->Prop,(∀σ' H',N σ' H'->∃m',m'<m/\W m' σ' H')/\tb { D with nx:=N,ct:=N,bk:=D.nx } σ H1 else D.nx σ H1
def mC (hp:UK 0#C X.A X.env X.xe) (hc:PT X c tc) (hb:Hw X body tb):PS X (.While c body [] pos) (GQ tc tb):=by
 intro u s σ H D I h
 obtain ⟨W,⟨m0,w0⟩,G⟩:=h
 refine wpAny_While (codeAny_whileLoop (λn s'=>∃σ' H',Inv X u σ' H' s'/\W n σ' H') ?_ m0 ⟨σ,H,I,w0⟩)
 rintro n s1 ⟨B,U,I1,w1⟩
 refine GZ hp (ig (hc u s1 B U _ I1 (G n B U w1)) λb s2 ⟨Y,Z,J⟩=>?_)
 cases b with
 | true=>
   obtain ⟨N,hN,J⟩:=J
   rw [if_pos rfl]
   refine GZ hp (ig (hb u s2 B Y _ Z J) λf s3 L=>?_)
   cases f with
   | next=>
     obtain ⟨z,E,M,R⟩:=L
     obtain ⟨Q,O,S⟩:=hN z E R
     exact ⟨Q,O,z,E,M,S⟩
   | cont=>
     obtain ⟨z,E,M,R⟩:=L
     obtain ⟨Q,O,S⟩:=hN z E R
     exact ⟨Q,O,z,E,M,S⟩
   | brk=>exact L
   | ret v=>exact L
 | false=>
   rw [if_neg pJ]
   exact Uu ⟨B,Y,Z,J⟩
structure It where
 go:Nat->Hp->Prop
 Zb:Nat->Hp->V->Hp->Prop
 stop:Nat->Hp->Prop
def CT (X:Cx) (pins:0#l) (H:Hp) (b:ah):Prop:=
 H b=none/\b≠X.env.locals/\b∉X.fs/\(b∈X.ex\/X.s₀.heap.objs.size<=b)/\(∀x c,X.env.cells.lookup x=some c->c≠b)/\∀p∈X.pn++pins,p.1≠b
def Inv.Pn {σ:St} {b:ah} (I:0#d) (hb:s.heap.objs.size<=b) (hn:H' b=none):CT X pins H' b:=by
 refine ⟨hn,ZV (nI I.lt hb),I.akk hb,.inr (g9 I.sz hb),λx c e z=>?_,λp u z=>?_⟩
 ·obtain ⟨v,q⟩:=I.cell x c e
  exact absurd (nI q.lt (by rw [z];exact hb)) (wY _)
 ·exact absurd (nI (fW (I.pin p u).1) (by rw [z];exact hb)) (wY _)
structure Turn (P:fT) (w:dO) (K:bU) (tg:bz) (J:It) (fp:List ah) (it:ah) (tn:Nat->cH->Prop):Prop where
 mem:it∈fp
 obj:∀i h,tn i h->∀b∈fp,∃o,h.get? b=some o/\∀v,o.data≠.cell v
 keep:∀i h h',tn i h->(∀b∈fp,∀o,h.get? b=some o->h'.get? b=some o)->tn i h'
 item:∀(X:Cx),X.prog=P->X.w=w->X.K=K->X.calm=true->∀(i:Nat) (pins:0#l) (s:bB) (σ:St) (H:Hp) (E:bq->bB->Prop),Inv X pins σ H s->(∀b∈fp,CT X pins H b)->tn i s.heap->J.go i H ->
  bY (model P w) X.A (pyNext (.ref it)) (λr s1=>∃u,r=some u /\
   bY (model P w) X.A (letOwnedTupleGo tg (.ref it) u) (λ_ s2=>∃x H',Inv X pins σ H' s2/\RelV x u/\J.Zb i H x H'/\tn (i+1) s2.heap/\∀b∈fp,H' b=none) E s1) E s
 done:∀(X:Cx),X.prog=P->X.w=w->X.K=K->X.calm=true->∀(i:Nat) (pins:0#l) (s:bB) (σ:St) (H:Hp) (E:bq->bB->Prop),Inv X pins σ H s->(∀b∈fp,CT X pins H b)->tn i s.heap->J.stop i H ->
  bY (model P w) X.A (pyNext (.ref it)) (λr s1=>r=none/\Inv X pins σ H s1) E s
 self:∀(A:je) (i:Nat) (s:bB) (Q:bq->bB->Prop) (E:bq->bB->Prop),tn i s.heap->Q (.ref it) s->bY (model P w) A (pyIter (.ref it)) Q E s
abbrev TI:=St->Hp->(It->Hp->Prop)->Prop
def PIE (X:Cx) (pins:0#l) (σ:St) (tg:bz) (R:It->Hp->Prop) (itv:bq) (s2:bB):Prop:=
 ∃(it:ah) (fp:List ah) (tn:Nat->cH->Prop) (J:It) (H':Hp),itv=.ref it/\Inv X pins σ H' s2/\Turn X.prog X.w X.K tg J fp it tn/\tn 0 s2.heap/\(∀b∈fp,CT X pins H' b)/\R J H'
def PI (X:Cx) (tg iter:bz) (wi:TI):Prop:=
 ∀(pins:0#l) (s:bB) (σ:St) (H:Hp) (R:It->Hp->Prop),Inv X pins σ H s->wi σ H R ->
  bY 0#C X.A (eval iter X.env) (λv s1=>bY 0#C X.A (pyIter v) (PIE X pins σ tg R) X.xe s1) X.xe s
def WW (ho:s.heap.get? it=some o) (hc:o.cls=.type n) (hd:o.data=.fields vs)
 (hn:["enumerate","zip","dict_itemiterator","dict_reverseitemiterator","odict_iterator","itertools.zip_longest","itertools.pairwise"].contains n=false) (hQ:Q () s):bY M A (letOwnedTupleGo tg (.ref it) u) Q E s:=by
 unfold letOwnedTupleGo
 cases tg <;> first
  | exact jW hQ
  | (cases u <;> first
      | exact jW hQ
      | (refine dX (wpAny_load ho ?_)
         rw [hc,hd]
         show bY M A (if (["enumerate","zip","dict_itemiterator","dict_reverseitemiterator","odict_iterator","itertools.zip_longest","itertools.pairwise"].contains n&&vs[0]?==some (rawInt _))=true then _ else _) Q E s
         rw [if_neg (by intro h;rw [hn,Bool.false_and] at h;cases h)]
         exact jW hQ))
def Itl (K:bU) (a:ah):It:=
 ⟨λi H=>∃xs x,bS K H a xs/\xs[i]?=some x,λi H x H'=>H'=H/\∀xs,bS K H a xs->xs[i]?=some x,λi H=>∃xs,bS K H a xs/\xs.length<=i⟩
def Itt (K:bU) (a:ah):It:=
 ⟨λi H=>∃xs x,qR K H a xs/\xs[i]?=some x,λi H x H'=>H'=H/\∀xs,qR K H a xs->xs[i]?=some x,λi H=>∃xs,qR K H a xs/\xs.length<=i⟩
def Itr (lo:Int) (n:Nat):It:=⟨λi _=>i<n,λi H x H'=>H'=H/\x=.int (lo+i),λi _=>n<=i⟩
def VW {K:bU} (a it:ah):Turn P w K tg (Itl K a) [it] it (λi h=>h.IsListIter it a i) where
 mem:=by simp
 obj:=λi h st b hb=>by
  have e:b=it:=by simpa using hb
  subst e
  obtain ⟨o,e,c,d⟩:=st
  exact ⟨o,e,λv z=>by rw [d] at z;cases z⟩
 keep:=λi h h' st k=>st.at λo e=>k it 0#w o e
 item:=by
  intro X R U Q hc i A s σ H E I D st S
  subst R U Q
  obtain ⟨xs,x,G,Y⟩:=S
  obtain ⟨Z,rv,p,hz⟩:=I.list G
  obtain ⟨u,hu,ru⟩:=rv.get Y
  obtain ⟨J,L,f2,M,N,O⟩:=D it 0#w
  refine wpAny_pyNext_list_item st p.isList (x:=u) (by simpa using hu) λh' B sb=>?_
  have I1:Inv X A σ H { s with heap:=h' }:=I.turned (t':=s.toks) (λb o hb e=>(sb.2 b hb).trans e) J L M N O
  obtain ⟨o,e,c,d⟩:=id B
  exact ⟨u,rfl,WW (s:={ s with heap:=h' }) e c d 0#y ⟨x,H,I1,ru,⟨rfl,λys hy=>by rw [I.zf hy G];exact Y⟩,B,λb hb=>(D b hb).1⟩⟩
 done:=by
  intro X R U Q hc i A s σ H E I D st S
  subst R U Q
  obtain ⟨xs,G,Y⟩:=S
  obtain ⟨Z,rv,p,hz⟩:=I.list G
  obtain ⟨J,L,f2,M,N,O⟩:=D it 0#w
  have hl:=rv.length
  exact wpAny_pyNext_list_end (I.ok.hd hc) st p.isList (by simp;simp?) λh' eb=>⟨rfl,I.turned (t':=s.toks) (λb o hb e=>eb b o hb e) J L M N O⟩
 self:=λ_ _ _ _ _ st h=>wpAny_pyIter_listiter st h
def RV {K:bU} (a it:ah):Turn P w K tg (Itt K a) [it] it (λi h=>h.IsTupleIter it a i) where
 mem:=by simp
 obj:=λi h st b hb=>by
  have e:b=it:=by simpa using hb
  subst e
  obtain ⟨o,e,c,d⟩:=st
  exact ⟨o,e,λv z=>by rw [d] at z;cases z⟩
 keep:=λi h h' st k=>st.at λo e=>k it 0#w o e
 item:=by
  intro X S Y R hc i A s σ H E I G st U
  subst S Y R
  obtain ⟨xs,x,J,Z⟩:=U
  obtain ⟨B,rv,p,hz⟩:=I.tuple J
  obtain ⟨u,hu,ru⟩:=rv.get Z
  obtain ⟨L,M,f2,N,O,Q⟩:=G it 0#w
  refine wpAny_pyNext_tuple_item st (show s.heap.IsTuple a B.toArray from p) (x:=u) (by simpa using hu) λh' D sb=>?_
  have I1:Inv X A σ H { s with heap:=h' }:=I.turned (t':=s.toks) (λb o hb e=>(sb.2 b hb).trans e) L M N O Q
  obtain ⟨o,e,c,d⟩:=id D
  exact ⟨u,rfl,WW (s:={ s with heap:=h' }) e c d 0#y ⟨x,H,I1,ru,⟨rfl,λys hy=>by rw [I.VT hy J];exact Z⟩,D,λb hb=>(G b hb).1⟩⟩
 done:=by
  intro X S Y R hc i A s σ H E I G st U
  subst S Y R
  obtain ⟨xs,J,Z⟩:=U
  obtain ⟨B,rv,p,hz⟩:=I.tuple J
  obtain ⟨L,M,f2,N,O,Q⟩:=G it 0#w
  have hl:=rv.length
  exact wpAny_pyNext_tuple_end (I.ok.hd hc) st (show s.heap.IsTuple a B.toArray from p) (by simp;simp?) λh' eb=>⟨rfl,I.turned (t':=s.toks) (λb o hb e=>eb b o hb e) L M N O Q⟩
 self:=λ_ _ _ _ _ st h=>wpAny_pyIter_tupleiter st h
def RU {K:bU} (it:ah) (lo:Int) (n:Nat):Turn P w K tg (Itr lo n) [it] it (λi h=>IsRangeIter h it (lo+(i:Nat)*1) ((n:Int)-(i:Nat)) 1) where
 mem:=by simp
 obj:=λi h st b hb=>by
  have e:b=it:=by simpa using hb
  subst e
  exact ⟨_,st,λv z=>by
   have z':Data.fields _=Data.cell v:=z
   cases z'⟩
 keep:=λi h h' st k=>k it 0#w _ st
 item:=by
  intro X O S N Q i u s Y H E I B st R
  subst O S N
  obtain ⟨D,G,f2,J,L,M⟩:=B it 0#w
  have W:=Walks.range (prog:=X.prog) (w:=X.w) (I.ok.hd Q) it lo 1 n
  refine W.item i s _ _ R st λv h' U hv A kk=>?_
  obtain ⟨t,rfl⟩:=hv
  have Z:Inv X u Y H { s with heap:=h',toks:=U }:=I.turned (λb o hb e=>kk b o (by simpa using hb) e) D G J L M
  refine ⟨_,rfl,WW (s:={ s with heap:=h',toks:=U }) (n := "range_iterator") A rfl rfl 0#y ⟨.int (lo+i),H,Z,⟨t,?_⟩,⟨rfl,rfl⟩,A,λb hb=>(B b hb).1⟩⟩
  rw [Int.mul_one]
 done:=by
  intro X O S N Q i u s Y H E I B st R
  subst O S N
  obtain ⟨D,G,f2,J,L,M⟩:=B it 0#w
  exact wpAny_pyNext_range_end (I.ok.hd Q) st (by have:n<=i:=R;simp?) λh' eb=>⟨rfl,I.turned (t':=s.toks) (λb o hb e=>eb b o hb e) D G J L M⟩
 self:=λ_ _ _ _ _ st h=>wpAny_pyIter_rangeiter st h
def S4 (K:bU) (tl:TE):TI:=λσ H R=>tl σ H λx H1=>∃a,x=.ref a/\(∃xs,bS K H1 a xs)/\R (Itl K a) H1
def aaQ (K:bU) (tl:TE):TI:=λσ H R=>tl σ H λx H1=>∃a,x=.ref a/\(∃xs,qR K H1 a xs)/\R (Itt K a) H1
def abr (hl:PE X l tl):PI X tg l (S4 X.K tl):=by
 intro u s L H R I h
 refine ig (hl u s L H _ I h) λv A ⟨x,B,z,J,G⟩=>?_
 obtain ⟨a,e,⟨xs,E⟩,q⟩:=G
 subst e
 cases J
 obtain ⟨its,rv,p,hz⟩:=z.list E
 refine wpAny_pyIter_list p.isList ?_
 refine ⟨A.heap.objs.size,[A.heap.objs.size],_,_,B,rfl,z.kept (t':=A.toks) λb o e=>pM _ e,VW a _,⟨_,IJ _ rfl,rfl,rfl⟩,λb D=>?_,q⟩
 have e:b=A.heap.objs.size:=by simpa using D
 subst e
 exact z.Pn (gI _) (z.hok.fresh (gI _))
def afX (hl:PE X l tl):PI X tg l (aaQ X.K tl):=by
 intro u s M H R I h
 refine ig (hl u s M H _ I h) λv z ⟨x,D,A,L,J⟩=>?_
 obtain ⟨a,e,⟨xs,G⟩,q⟩:=J
 subst e
 cases L
 obtain ⟨B,rv,p,hz⟩:=A.tuple G
 refine wpAny_pyIter_tuple (show z.heap.IsTuple a B.toArray from p) ?_
 refine ⟨z.heap.objs.size,[z.heap.objs.size],_,_,D,rfl,A.kept (t':=z.toks) λb o e=>pM _ e,RV a _,⟨_,IJ _ rfl,rfl,rfl⟩,λb E=>?_,q⟩
 have e:b=z.heap.objs.size:=by simpa using E
 subst e
 exact A.Pn (gI _) (A.hok.fresh (gI _))
def N7 {σ:St} {lo:Int} (I:0#d) (h1:-(2 ^ 62)<=lo) (h2:lo<2 ^ 62) (h3:-(2 ^ 62)<=hi) (h4:hi<2 ^ 62)
 (q:R (Itr lo (hi-lo).toNat) H):bY 0#C X.A (pyIter (.ref s.heap.objs.size)) (PIE X pins σ tg R) E { s with heap:=s.heap.push { cls:=.type "range",data:=.fields #[.int lo t,.int hi u,.int 1 v] },toks:=tk }:=by
 refine wpAny_pyIter_range (IsRange.new ..) (small_one h1 h2 h3 h4) ?_
 have z:Inv X pins σ H { s with heap:=s.heap.push { cls:=.type "range",data:=.fields #[.int lo t,.int hi u,.int 1 v] },toks:=tk }:=I.kept λb o e=>pM _ e
 refine ⟨(s.heap.push { cls:=.type "range",data:=.fields #[.int lo t,.int hi u,.int 1 v] }).objs.size,[(s.heap.push { cls:=.type "range",data:=.fields #[.int lo t,.int hi u,.int 1 v] }).objs.size],_,_,H,rfl,
  z.kept (t':=tk) λb o e=>pM _ e,RU _ lo (hi-lo).toNat,?_,λb B=>?_,q⟩
 ·have e1:lo+((0:Nat):Int)*1=lo:=by simp
  have e2:(((hi-lo).toNat:Nat):Int)-((0:Nat):Int)=ai9 lo hi 1:=by rw [rangeSize_one];split <;> simp?
  show IsRangeIter _ _ (lo+((0:Nat):Int)*1) ((((hi-lo).toNat:Nat):Int)-((0:Nat):Int)) 1
  rw [e1,e2]
  exact IJ _ rfl
 ·have e:b=(s.heap.push { cls:=.type "range",data:=.fields #[.int lo t,.int hi u,.int 1 v] }).objs.size:=by simpa using B
  subst e
  exact z.Pn (gI _) (z.hok.fresh (gI _))
def Xa (ta:TA):TI:=λσ H R=>ta σ H λvs H1=>∃j:Int,vs=[.int j]/\-(2 ^ 62)<=j/\j<2 ^ 62/\R (Itr 0 j.toNat) H1
def Xb (ta:TA):TI:=λσ H R=>ta σ H λvs H1=>∃i j:Int,vs=[.int i,.int j]/\(-(2 ^ 62)<=i/\i<2 ^ 62/\-(2 ^ 62)<=j/\j<2 ^ 62)/\R (Itr i (j-i).toNat) H1
def Bs (hg:Gl X "range") (hm:X.mg "range"=none) (ha:PA X [a] ta) (hs:dg [a] X.env=[(false,eval a X.env)]:=by rfl):PI X tg (.Call (.Name "range" p) [a] [] pos) (Xa ta):=by
 intro u s E H R I h
 refine Call_ (xT I hg hm boot_range (Ol (ig (ha pos u s E H _ I h) λus s1 ⟨vs,H1,A,D,v⟩=>?_) hs rfl))
 obtain ⟨j,e,v,B,q⟩:=v
 subst e
 cases D with
 | cons r rr=>
   cases rr
   obtain ⟨t,rfl⟩:=r
   exact call_range_1 (N7 A 0#z 0#z v B (by simpa using q))
def oG (hg:Gl X "range") (hm:X.mg "range"=none) (ha:PA X [a,b] ta) (hs:dg [a,b] X.env=[(false,eval a X.env),(false,eval b X.env)]:=by rfl) (hs2:dg [b] X.env=[(false,eval b X.env)]:=by rfl) :
 PI X tg (.Call (.Name "range" p) [a,b] [] pos) (Xb ta):=by
 intro u s G H R I h
 refine Call_ (xT I hg hm boot_range (Ol (ig (ha pos u s G H _ I h) λus s1 ⟨vs,H1,z,E,v⟩=>?_) (by rw [hs,hs2]) (by rw [hs2];rfl)))
 obtain ⟨i,j,e,⟨v,A,B,D⟩,q⟩:=v
 subst e
 cases E with
 | cons r rr=>
   cases rr with
   | cons r' rr=>
     cases rr
     obtain ⟨t,rfl⟩:=r
     obtain ⟨t',rfl⟩:=r'
     exact call_range_2 (N7 z v A B D q)
def agA (wi:TI) (g:TG) (tb:TS):TS:=λD σ H=>wi σ H λJ H1=>∃W:Nat->Nat->St->Hp->Prop,(∃m,W 0 m σ H1)/\∀i m σ H,W i m σ H ->
 (J.stop i H/\D.nx σ H)\/(J.go i H/\∃N:St->Hp->Prop,(∀σ' H',N σ' H'->∃m',m'<m/\W (i+1) m' σ' H')/\∀x H',J.Zb i H x H'->g x σ H' λσ2 H2=>tb { D with nx:=N,ct:=N,bk:=D.nx } σ2 H2)
noncomputable def FU (fp:List ah) (h:cH):List (ah×Obj):=fp.filterMap λb=>(h.get? b).map λo=>(b,o)
def sD (hb:b∈fp) (e:h.get? b=some o):(b,o)∈FU fp h:=JL.mpr ⟨b,hb,by rw [e];rfl⟩
def Vz (hp:p∈FU fp h):p.1∈fp/\h.get? p.1=some p.2:=by
 obtain ⟨b,v,e⟩:=JL.mp hp
 cases q:h.get? b with
 | none=>rw [q] at e;cases e
 | some o=>
   rw [q] at e
   have u:(b,o)=p:=uf e
   subst u
   exact ⟨v,q⟩
def Inv.pinned {σ:St} (I:0#d) (hf:∀b∈fp,CT X pins H b) (ho:∀b∈fp,∃o,s.heap.get? b=some o/\∀v,o.data≠.cell v):Inv X (pins++FU fp s.heap) σ H s:=
 I.Tt λp hp=>(i8.mp hp).elim (λz=>I.pin p (DE _ z)) λz=>by
  obtain ⟨hb,e⟩:=Vz z
  obtain ⟨f0,f1,f2,_⟩:=hf p.1 hb
  obtain ⟨o,e',d⟩:=ho p.1 hb
  rw [e] at e';cases e'
  exact ⟨e,f0,f1,f2,d⟩
def Inv.vB {σ:St} (I:Inv X (pins++pl) σ H s):Inv X pins σ H s:=I.Tt λp hp=>I.pin p (DE _ (Hh _ hp))
def QZ {X:Cx} {tg:bz} {iter:bz} {body:List aS} {wi:TI} {g:TG} {tb:TS} {pos:Pos} (hp:UK 0#C X.A X.env X.xe) (hc:X.calm=true) (hi:PI X tg iter wi) (hg:PG X tg g) (hb:Hw X body tb)
 (hs:∀x,Mu iter X.env x=pure x:=by intro _;rfl):PS X (.For tg iter body [] pos) (agA wi g tb):=by
 intro z s σ H D I h
 refine wpAny_For (ig (hi z s σ H _ I h) λv s1 h1=>ig h1 λitv s2 h2=>?_) hs
 obtain ⟨it,S,tn,J,H2,e,I2,T,ag,f2,W,⟨m0,w0⟩,ad⟩:=h2
 subst e
  -- what stays true of the iterator's objects through the loop
 have Q:∀{H':Hp},(∀b∈S,H' b=none)->∀b∈S,CT X z H' b:=λhn b hb=>⟨hn b hb,(f2 b hb).2⟩
 refine codeAny_forLoop_any (λn s'=>∃i σ' H',Inv X z σ' H' s'/\tn i s'.heap/\(∀b∈S,H' b=none)/\W i n σ' H') ?_ m0 ⟨0,σ,H2,I2,ag,λb hb=>(f2 b hb).1,w0⟩
 rintro n s3 ⟨i,M,H3,I3,Z,U,w3⟩
 rcases ad i n M H3 w3 with ⟨ac,qn⟩ | ⟨go,N,hN,step⟩
 ·refine GZ hp (ig (T.done X rfl rfl rfl hc i z s3 M H3 X.xe I3 (Q U) Z ac) λr s4 ⟨hr,I4⟩=>?_)
  subst hr
  exact Uu ⟨M,H3,I4,qn⟩
 ·refine GZ hp (ig (T.item X rfl rfl rfl hc i z s3 M H3 X.xe I3 (Q U) Z go) λr s4 ⟨u,hr,h4⟩=>?_)
  subst hr
  refine GZ hp (ig h4 λ_ s5 zz=>?_)
  obtain ⟨x,H5,I5,r5,y5,R,af⟩:=zz
  have ae:=I5.pinned (Q af) (T.obj _ _ R)
  refine GZ hp (ig (hg _ s5 M H5 x u _ ae r5 (step x H5 y5)) λ_ s6 ⟨ai,H6,I6,q6⟩=>?_)
  refine GZ hp (ig (hb _ s6 ai H6 _ I6 q6) λf s7 O=>?_)
  have L:∀{B:St} {E:Hp},Inv X (z++FU S s5.heap) B E s7->N B E->∃m,m<n/\∃i σ' H',Inv X z σ' H' s7/\tn i s7.heap/\(∀b∈S,H' b=none)/\W i m σ' H':=λ{B E} G Y=>by
   obtain ⟨m',hm,w7⟩:=hN B E Y
   refine ⟨m',hm,i+1,B,E,G.vB,T.keep _ _ _ R λb hb o e=>(G.pin (b,o) (DE _ (DE _ (sD hb e)))).1,λb hb=>?_,w7⟩
   obtain ⟨o,e,d⟩:=T.obj _ _ R b hb
   exact (G.pin (b,o) (DE _ (DE _ (sD hb e)))).2.1
  cases f with
  | next=>obtain ⟨B,E,G,Y⟩:=O;exact L G Y
  | cont=>obtain ⟨B,E,G,Y⟩:=O;exact L G Y
  | brk=>obtain ⟨B,E,G,O⟩:=O;exact ⟨B,E,G.vB,O⟩
  | ret v=>obtain ⟨x7,B,E,G,r7,O⟩:=O;exact ⟨x7,B,E,G.vB,r7,O⟩
def gX {K:bU} {a:ah} {g:TG} {tb:TS} {D:Ends} {σ:St} {H:Hp} (Pv:Nat->St->Hp->Prop) (h0:Pv 0 σ H) (hl:∀i σ H,i<=xs.length->Pv i σ H->bS K H a xs)
 (hs:∀i x σ H,xs[i]?=some x->Pv i σ H->g x σ H λσ2 H2=>tb { D with nx:=Pv (i+1),ct:=Pv (i+1),bk:=D.nx } σ2 H2) (hd:∀σ H,Pv xs.length σ H->D.nx σ H) :
 ∃W:Nat->Nat->St->Hp->Prop,(∃m,W 0 m σ H)/\∀i m σ H,W i m σ H ->
  ((Itl K a).stop i H/\D.nx σ H)\/((Itl K a).go i H/\∃N:St->Hp->Prop,(∀σ' H',N σ' H'->∃m',m'<m/\W (i+1) m' σ' H')/\∀x H',(Itl K a).Zb i H x H'->g x σ H' λσ2 H2=>tb { D with nx:=N,ct:=N,bk:=D.nx } σ2 H2):=by
 refine ⟨λi m σ H=>m=xs.length-i/\i<=xs.length/\Pv i σ H,⟨xs.length,by simp,jV _,h0⟩,?_⟩
 rintro i m σ H ⟨rfl,u,p⟩
 have q:=hl i σ H u p
 by_cases hlt:i<xs.length
 ·refine .inr ⟨⟨xs,xs[i],q,by simp [hlt]⟩,Pv (i+1),λσ' H' v=>⟨xs.length-(i+1),by simp?,rfl,hlt,v⟩,λx H' y=>?_⟩
  obtain ⟨e,y⟩:=y
  subst e
  exact hs i x σ _ (y xs q) p
 ·have e:i=xs.length:=by simp?
  subst e
  exact .inl ⟨⟨xs,q,gI _⟩,hd σ H p⟩
def iP {lo:Int} {n:Nat} {g:TG} {tb:TS} {D:Ends} {H:Hp} (Pv:Nat->St->Hp->Prop) (h0:Pv 0 σ H)
 (hs:∀i σ H,i<n->Pv i σ H->g (.int (lo+i)) σ H λσ2 H2=>tb { D with nx:=Pv (i+1),ct:=Pv (i+1),bk:=D.nx } σ2 H2) (hd:∀σ H,Pv n σ H->D.nx σ H) :
 ∃W:Nat->Nat->St->Hp->Prop,(∃m,W 0 m σ H)/\∀i m σ H,W i m σ H ->
  ((Itr lo n).stop i H/\D.nx σ H)\/((Itr lo n).go i H/\∃N:St->Hp->Prop,(∀σ' H',N σ' H'->∃m',m'<m/\W (i+1) m' σ' H')/\∀x H',(Itr lo n).Zb i H x H'->g x σ H' λσ2 H2=>tb { D with nx:=N,ct:=N,bk:=D.nx } σ2 H2):=by
 refine ⟨λi m σ H=>m=n-i/\i<=n/\Pv i σ H,⟨n,by simp,jV _,h0⟩,?_⟩
 rintro i m σ H ⟨rfl,hi,p⟩
 by_cases hlt:i<n
 ·refine .inr ⟨hlt,Pv (i+1),λσ' H' u=>⟨n-(i+1),by simp?,rfl,hlt,u⟩,λx H' y=>?_⟩
  obtain ⟨e,y⟩:=y
  subst e y
  exact hs i σ _ hlt p
 ·have e:i=n:=by simp?
  subst e
  exact .inl ⟨gI _,hd σ H p⟩
def Aq (Pv:St->Hp->Prop) (μ:St->Hp->Nat) (h0:Pv σ H)
 (hs:∀σ H,Pv σ H->c σ H λb H1=>if b=true then tb { D with nx:=λσ' H'=>Pv σ' H'/\μ σ' H'<μ σ H,ct:=λσ' H'=>Pv σ' H'/\μ σ' H'<μ σ H,bk:=D.nx } σ H1 else D.nx σ H1)
 (mono:∀σ H Q Q',(∀b H1,Q b H1->Q' b H1)->c σ H Q->c σ H Q'):GQ c tb D σ H:=by
 refine ⟨λm σ H=>m=μ σ H/\Pv σ H,⟨_,rfl,h0⟩,?_⟩
 rintro m σ H ⟨rfl,p⟩
 refine mono σ H _ _ (λb H1 q=>?_) (hs σ H p)
 cases b with
 | true=>exact ⟨_,λσ' H' ⟨u,l⟩=>⟨_,l,rfl,u⟩,q⟩
 | false=>exact q
abbrev R2:=V->V->Hp->VK->Prop
def t6 (X:Cx) (f:bq->bq->Sem bq) (r:R2):Prop:=
 ∀(pins:0#l) (s:bB) (σ:St) (H:Hp) (x y:V) (v u:bq) (Q:VK),Inv X pins σ H s->RelV x v->RelV y u->r x y H Q ->
  bY 0#C X.A (f v u) (EP X pins σ Q) X.xe s
def UnR (X:Cx) (f:bq->Sem bq) (r:V->Hp->VK->Prop):Prop:=
 ∀(pins:0#l) (s:bB) (σ:St) (H:Hp) (x:V) (v:bq) (Q:VK),Inv X pins σ H s->RelV x v->r x H Q ->
  bY 0#C X.A (f v) (EP X pins σ Q) X.xe s
def jG (X:Cx) (f:bq) (r:0#n->Hp->VK->Prop):Prop:=
 ∀(pins:0#l) (s:bB) (σ:St) (H:Hp) (xs:0#n) (us:List bq) (Q:VK),Inv X pins σ H s->Vals xs us->r xs H Q ->
  bY 0#C X.A (call f us) (EP X pins σ Q) X.xe s
def YV (r:R2) (ta tb:TE):TE:=λσ H Q=>ta σ H λx H1=>tb σ H1 λy H2=>r x y H2 Q
def tUn (r:V->Hp->VK->Prop) (ta:TE):TE:=λσ H Q=>ta σ H λx H1=>r x H1 Q
def rI (C:Int->Int->Prop) (g:Int->Int->V):R2:=λx y H Q=>∃i j,x=.int i/\y=.int j/\C i j/\Q (g i j) H
def rI0 (g:Int->Int->V):R2:=λx y H Q=>∃i j,x=.int i/\y=.int j/\Q (g i j) H
def rU (g:Int->V):V->Hp->VK->Prop:=λx H Q=>∃i,x=.int i/\Q (g i) H
def aeL {X:Cx} {a b:bz} {ta tb:TE} (ha:PE X a ta) (hb:PE X b tb)  {s:bB} {σ:St} {H:Hp} {R:V->V->Hp->Prop} (I:0#d)
 (h:ta σ H λx H1=>tb σ H1 λy H2=>R x y H2) {Q:bq->bB->Prop} {f:bq->bq->Sem bq}
 (hf:∀v u s2 x y H2,Inv X pins σ H2 s2->RelV x v->RelV y u->R x y H2->bY 0#C X.A (f v u) Q X.xe s2) :
 bY 0#C X.A (eval a X.env) (λv s₁=>bY 0#C X.A (eval b X.env) (λu s₂=>bY 0#C X.A (f v u) Q X.xe s₂) X.xe s₁) X.xe s:=by
 refine ig (ha pins s σ H _ I h) λv L ⟨x,H1,z,G,D⟩=>?_
 refine ig (hb pins L σ H1 _ z D) λu s2 ⟨y,H2,B,J,E⟩=>?_
 exact hf v u s2 x y H2 B G J E
def X7 {X:Cx} {a b:bz} {ta tb:TE} {pos:Pos} {op:Operator} {r:R2} (ho:t6 X (pI op) r) (ha:PE X a ta) (hb:PE X b tb):PE X (.BinOp a op b pos) (YV r ta tb):=by
 intro z s J H Q I h
 exact wpAny_BinOp (aeL ha hb I h λv u G x y A B D E q=>ho z G J A x y v u Q B D E q)
def X8 {X:Cx} {a:bz} {ta:TE} {pos:Pos} {op:UnaryOp} {r:V->Hp->VK->Prop} (ho:UnR X (unaryOp op) r) (ha:PE X a ta):PE X (.UnaryOp op a pos) (tUn r ta):=by
 intro u s z H Q I h
 exact UnaryOp_ (ig (ha u s z H _ I h) λv G ⟨x,A,B,E,D⟩=>ho u G z A x v Q B E D)
def opI {g:Int->Int->Int}
 (rule:∀(i j:Int) (t u:Tok) (s:bB) (Q:bq->bB->Prop) (E:bq->bB->Prop),C i j->Q (.int (g i j) s.toks) { s with toks:=s.toks+1 }->bY 0#C X.A (f (.int i t) (.int j u)) Q E s) :
 t6 X f (rI C λi j=>.int (g i j)):=by
 intro pins s σ H x y v u Q I B D h
 obtain ⟨i,j,rfl,rfl,z,q⟩:=h
 obtain ⟨t,rfl⟩:=B
 obtain ⟨G,rfl⟩:=D
 exact rule i j t G s _ _ z ⟨.int (g i j),H,I.tok _,⟨_,rfl⟩,q⟩
def ahR {g:Int->Int->Int}
 (rule:∀(i j:Int) (t u:Tok) (s:bB) (Q:bq->bB->Prop) (E:bq->bB->Prop),Q (.int (g i j) s.toks) { s with toks:=s.toks+1 }->bY 0#C X.A (f (.int i t) (.int j u)) Q E s) :
 t6 X f (rI0 λi j=>.int (g i j)):=by
 intro pins s σ H x y v u Q I z B h
 obtain ⟨i,j,rfl,rfl,q⟩:=h
 obtain ⟨t,rfl⟩:=z
 obtain ⟨D,rfl⟩:=B
 exact rule i j t D s _ _ ⟨.int (g i j),H,I.tok _,⟨_,rfl⟩,q⟩
def abj {g:Int->Int->Bool}
 (rule:∀(i j:Int) (t u:Tok) (s:bB) (Q:bq->bB->Prop) (E:bq->bB->Prop),Q (.bool (g i j)) s->bY 0#C X.A (f (.int i t) (.int j u)) Q E s) :
 t6 X f (rI0 λi j=>.bl (g i j)):=by
 intro pins s σ H x y v u Q I z B h
 obtain ⟨i,j,rfl,rfl,q⟩:=h
 obtain ⟨t,rfl⟩:=z
 obtain ⟨D,rfl⟩:=B
 exact rule i j t D s _ _ ⟨.bl (g i j),H,I,rfl,q⟩
def agQ (i j:Int):Prop:=0<=j/\j<=1000000/\i.natAbs<2 ^ 64
def aah (i j:Int):Prop:=(-(2 ^ 64)<i/\i<2 ^ 64)\/(-(2 ^ 64)<j/\j<2 ^ 64)
def aah.ok (h:aah i j):IntMulOk i j:=by
 rcases h with ⟨u,v⟩ | ⟨u,v⟩
 ·exact .of_left (adQ u v)
 ·exact .of_right (adQ u v)
def RX (k:Nat):(0:Int)<=2 ^ k:=by
 rw [two_pow_cast]
 exact Oz _
def dN:t6 X (pI .Add) (rI0 λi j=>.int (i+j)):=ahR λ_ _ _ _ _ _ _ q=>add_int q
def dF:t6 X (pI .Sub) (rI0 λi j=>.int (i-j)):=ahR λ_ _ _ _ _ _ _ q=>sub_int q
def kq:t6 X (pI .Mod) (rI (λ_ j=>0<j) λi j=>.int (i % j)):=opI λi j _ _ _ _ _ hc q=>by
 have h1:(0:Int)<j:=hc
 exact mod_int' 0#z (by rw [Int.fmod_eq_emod_of_nonneg i 0#z];exact q)
def FI:t6 X (pI .Pow) (rI agQ λi j=>.int (i ^ j.toNat)):=opI λ_ _ _ _ _ _ _ hc q=>pow_int_small hc.1 hc.2.1 hc.2.2 q
def XS:t6 X (pI .RShift) (rI (λ_ j=>0<=j) λi j=>.int (i/2 ^ j.toNat)):=opI λi j _ _ _ _ _ hc q=>
 rshift_int hc (by rw [Hg i (RX _)];exact q)
def unI {g:Int->Int}
 (rule:∀(i:Int) (t:Tok) (s:bB) (Q:bq->bB->Prop) (E:bq->bB->Prop),Q (.int (g i) s.toks) { s with toks:=s.toks+1 }->bY 0#C X.A (f (.int i t)) Q E s) :
 UnR X f (rU λi=>.int (g i)):=by
 intro pins s σ H x v Q I u h
 obtain ⟨i,rfl,q⟩:=h
 obtain ⟨t,rfl⟩:=u
 exact rule i t s _ _ ⟨.int (g i),H,I.tok _,⟨_,rfl⟩,q⟩
def eG:UnR X (unaryOp .USub) (rU λi=>.int (-i)):=unI λ_ _ _ _ _ q=>neg_int q
noncomputable def abI:V->V->Bool
 | .bM,.bM=>true | .bM,.int _=>true | .int _,.bM=>true | .bM,.bl _=>true | .bl _,.bM=>true | .bM,.str _=>true | .str _,.bM=>true
 | .int _,.int _=>true | .bl _,.bl _=>true | .str _,.str _=>true | .V5 _,.V5 _=>true
 | .int _,.str _=>true | .str _,.int _=>true | .bl _,.str _=>true | .str _,.bl _=>true
 | _,_=>false
def rEq:R2:=λx y H Q=>abI x y=true/\Q (.bl (decide (x=y))) H
def rNe:R2:=λx y H Q=>abI x y=true/\Q (.bl (!decide (x=y))) H
def SE:decide (V.int i=V.int j)=(i==j):=by
 rw [Uv]
 simp
def Wz:decide (V.bl i=V.bl j)=(i==j):=by
 rw [Uv]
 simp
def SG:decide (V.str i=V.str j)=(i==j):=by
 rw [Uv]
 simp
def SD:decide (V.V5 i=V.V5 j)=(i.toList==j.toList):=by
 rw [Uv]
 cases i
 cases j
 simp
def cX {σ:St} (I:0#d) (q:Q (.bl k) H) (e:k=k'):EP X pins σ Q (.bool k') s:=by
 subst e
 exact ⟨.bl k,H,I,rfl,q⟩
def cN:t6 X (pP .Eq) rEq:=by
 intro pins s σ H x y v u Q I D z h
 obtain ⟨B,q⟩:=h
 cases x with
 | bM=>
   cases D
   cases y with
   | bM=>cases z;exact aiN (cX I q 0#w)
   | bl j=>cases z;exact aiO (cX I q 0#w)
   | int j=>obtain ⟨A,rfl⟩:=z;exact aiX (cX I q 0#w)
   | str j=>obtain ⟨A,rfl⟩:=z;exact aiY (cX I q 0#w)
   | _=>exact absurd (show false=true from B) pJ
 | bl i=>
   cases D
   cases y with
   | bM=>cases z;exact aiP (cX I q 0#w)
   | bl j=>cases z;exact eq_bool (cX I q Wz)
   | str j=>obtain ⟨A,rfl⟩:=z;exact aiQ (cX I q 0#w)
   | _=>exact absurd (show false=true from B) pJ
 | int i=>
   obtain ⟨t,rfl⟩:=D
   cases y with
   | bM=>cases z;exact aiZ (cX I q 0#w)
   | int j=>obtain ⟨A,rfl⟩:=z;exact eq_int (cX I q SE)
   | str j=>obtain ⟨A,rfl⟩:=z;exact ai0 (cX I q 0#w)
   | _=>exact absurd (show false=true from B) pJ
 | str i=>
   obtain ⟨t,rfl⟩:=D
   cases y with
   | bM=>cases z;exact ai1 (cX I q 0#w)
   | bl j=>cases z;exact aiR (cX I q 0#w)
   | int j=>obtain ⟨A,rfl⟩:=z;exact ai2 (cX I q 0#w)
   | str j=>obtain ⟨A,rfl⟩:=z;exact eq_str (cX I q SG)
   | _=>exact absurd (show false=true from B) pJ
 | V5 i=>
   obtain ⟨t,rfl⟩:=D
   cases y with
   | V5 j=>obtain ⟨A,rfl⟩:=z;exact PySem.W.eq_bytes (cX I q SD)
   | _=>exact absurd (show false=true from B) pJ
 | _=>cases y <;> exact absurd (show false=true from B) pJ
def ahS:t6 X (pP .NotEq) rNe:=by
 intro pins s σ H x y v u Q I D z h
 obtain ⟨B,q⟩:=h
 cases x with
 | bM=>
   cases D
   cases y with
   | bM=>cases z;exact aiS (cX I q 0#w)
   | bl j=>cases z;exact aiT (cX I q 0#w)
   | int j=>obtain ⟨A,rfl⟩:=z;exact ai3 (cX I q 0#w)
   | str j=>obtain ⟨A,rfl⟩:=z;exact ai4 (cX I q 0#w)
   | _=>exact absurd (show false=true from B) pJ
 | bl i=>
   cases D
   cases y with
   | bM=>cases z;exact aiU (cX I q 0#w)
   | bl j=>cases z;exact ne_bool (cX I q (congrArg not Wz))
   | str j=>obtain ⟨A,rfl⟩:=z;exact aiV (cX I q 0#w)
   | _=>exact absurd (show false=true from B) pJ
 | int i=>
   obtain ⟨t,rfl⟩:=D
   cases y with
   | bM=>cases z;exact ai5 (cX I q 0#w)
   | int j=>obtain ⟨A,rfl⟩:=z;exact ne_int (cX I q (congrArg not SE))
   | str j=>obtain ⟨A,rfl⟩:=z;exact ai6 (cX I q 0#w)
   | _=>exact absurd (show false=true from B) pJ
 | str i=>
   obtain ⟨t,rfl⟩:=D
   cases y with
   | bM=>cases z;exact ai7 (cX I q 0#w)
   | bl j=>cases z;exact aiW (cX I q 0#w)
   | int j=>obtain ⟨A,rfl⟩:=z;exact ai8 (cX I q 0#w)
   | str j=>obtain ⟨A,rfl⟩:=z;exact ne_str (cX I q (congrArg not SG))
   | _=>exact absurd (show false=true from B) pJ
 | V5 i=>
   obtain ⟨t,rfl⟩:=D
   cases y with
   | V5 j=>obtain ⟨A,rfl⟩:=z;exact PySem.W.ne_bytes (cX I q (congrArg not SD))
   | _=>exact absurd (show false=true from B) pJ
 | _=>cases y <;> exact absurd (show false=true from B) pJ
def oZ:t6 X (pP .Lt) (rI0 λi j=>.bl (decide (i<j))):=abj λ_ _ _ _ _ _ _ q=>lt_int q
def Jr:t6 X (pP .LtE) (rI0 λi j=>.bl (decide (i<=j))):=abj λ_ _ _ _ _ _ _ q=>le_int q
def iF:t6 X (pP .Gt) (rI0 λi j=>.bl (decide (j<i))):=abj λ_ _ _ _ _ _ _ q=>gt_int q
def Jq:t6 X (pP .GtE) (rI0 λi j=>.bl (decide (j<=i))):=abj λ_ _ _ _ _ _ _ q=>ge_int q
def sI:t6 X (pP .Is) (λx y H Q=>y=.bM/\Q (.bl (decide (x=.bM))) H):=by
 intro pins s σ H x y v u Q I z A h
 obtain ⟨rfl,q⟩:=h
 cases A
 refine is_none_gen (cX I q ?_)
 cases x <;> first
  | (cases z;rfl)
  | (obtain ⟨t,rfl⟩:=z;rfl)
def jr:t6 X (pP .IsNot) (λx y H Q=>y=.bM/\Q (.bl (!decide (x=.bM))) H):=by
 intro pins s σ H x y v u Q I z A h
 obtain ⟨rfl,q⟩:=h
 cases A
 refine isnot_none_gen (cX I q ?_)
 cases x <;> first
  | (cases z;rfl)
  | (obtain ⟨t,rfl⟩:=z;rfl)
def aC (b:bz)  (h:op≠.In:=by decide) (h2:op≠.NotIn:=by decide):behindInMarks op b=false:=by
 have e1:(op==CmpOp.In)=false:=by cases op <;> first | rfl | exact absurd rfl h
 have e2:(op==CmpOp.NotIn)=false:=by cases op <;> first | rfl | exact absurd rfl h2
 cases b <;> simp [behindInMarks,e1,e2]
def K7 {X:Cx} {a b:bz} {ta tb:TE} {pos:Pos} {op:CmpOp} {r:R2} (ho:t6 X (pP op) r) (ha:PE X a ta) (hb:PE X b tb) (hm:behindInMarks op b=false):PE X (.Compare a [op] [b] pos) (YV r ta tb):=by
 intro z s J H Q I h
 exact wpAny_Compare1 (aeL ha hb I h λv u G x y A B D E q=>ho z G J A x y v u Q B D E q) hm
def YX (t:TE):TT:=λσ H Q=>t σ H λx H'=>∃k,x=.bl k/\Q k H'
def Lm {X:Cx} {a b:bz} {ta tb:TE} {pos:Pos} {op:CmpOp} {r:R2} (ho:t6 X (pP op) r) (ha:PE X a ta) (hb:PE X b tb) (hm:behindInMarks op b=false):PT X (.Compare a [op] [b] pos) (YX (YV r ta tb)):=by
 intro A s B H Q I h
 refine wpAny_isTrue_Compare1 (ig (ha A s B H _ I h) λv Z ⟨x,D,J,S,N⟩=>ig (hb A Z B D _ J N) λu s2 ⟨y,E,L,U,O⟩=>
  ig (ho A s2 B E x y v u _ L S U O) λc s3 ⟨z,G,M,Y,k,e,R⟩=>?_) hm
 subst e
 cases Y
 exact Ul ⟨G,M,R⟩
def KD:(sizeLine:Nat)<2 ^ 63:=by rw [UG];decide
def QC:t6 X (pI .Add) (λx y H Q=>∃i j,x=.str i/\y=.str j/\i.length+j.length<=sizeLine/\Q (.str (i++j)) H):=by
 intro pins s σ H x y v u Q I A B h
 obtain ⟨i,j,rfl,rfl,z,q⟩:=h
 obtain ⟨t,rfl⟩:=A
 obtain ⟨D,rfl⟩:=B
 exact add_str (λD tk=>⟨.str (i++j),H,I.tok _,⟨_,rfl⟩,q⟩) z
def vals1 (r:Vals [x] us):∃u,us=[u]/\RelV x u:=by
 cases r with
 | cons r1 r2=>cases r2;exact ⟨_,rfl,r1⟩
def vals2 (r:Vals [x,y] us):∃u w',us=[u,w']/\RelV x u/\RelV y w':=by
 cases r with
 | cons r1 r2=>
   cases r2 with
   | cons r3 r4=>cases r4;exact ⟨_,_,rfl,r1,r3⟩
def Wr:jG X (.builtin "abs") (λxs H Q=>∃i,xs=[.int i]/\Q (.int (if i<0 then -i else i)) H):=by
 intro pins s σ H xs us Q I r h
 obtain ⟨i,rfl,q⟩:=h
 obtain ⟨u,rfl,t,rfl⟩:=vals1 r
 exact call_abs_int λu tk=>⟨.int (if i<0 then -i else i),H,I.tok _,⟨_,rfl⟩,q⟩
def UU (hc:X.calm=true):jG X (.builtin "max") (λxs H Q=>∃i j,xs=[.int i,.int j]/\Q (.int (if j>i then j else i)) H):=by
 intro pins s σ H xs us Q I r h
 obtain ⟨i,j,rfl,q⟩:=h
 obtain ⟨u,w',rfl,⟨t,rfl⟩,⟨t',rfl⟩⟩:=vals2 r
 refine max_two_ints (I.ok.hd hc) λh' tk k=>⟨_,H,I.kept k,?_,q⟩
 by_cases hj:j>i
 ·rw [if_pos hj,if_pos hj];exact ⟨_,rfl⟩
 ·rw [if_neg hj,if_neg hj];exact ⟨_,rfl⟩
def UW (hc:X.calm=true):jG X (.builtin "min") (λxs H Q=>∃i j,xs=[.int i,.int j]/\Q (.int (if j<i then j else i)) H):=by
 intro pins s σ H xs us Q I r h
 obtain ⟨i,j,rfl,q⟩:=h
 obtain ⟨u,w',rfl,⟨t,rfl⟩,⟨t',rfl⟩⟩:=vals2 r
 refine min_two_ints (I.ok.hd hc) λh' tk k=>⟨_,H,I.kept k,?_,q⟩
 by_cases hj:j<i
 ·rw [if_pos hj,if_pos hj];exact ⟨_,rfl⟩
 ·rw [if_neg hj,if_neg hj];exact ⟨_,rfl⟩
structure O7 (h:cH) (x dx C:ah) (mA:0#g):Prop where
 obj:h.get? x=some (CG C dx)
 ns:h.Ns1 dx mA
 ne:dx≠x
def Jk {h:cH} (n:h.Ns1 dx mA):∃od,h.get? dx=some od/\∀name,Uz name od=some (mA name):=by
 obtain ⟨o,es,ep,E,A,B,_,D⟩:=n
 refine ⟨o,E,λname=>?_⟩
 have e:=D name
 unfold nsFind findBy at e
 rw [<- Array.find?_toList] at e
 unfold Uz
 rw [A]
 dsimp only
 split
 ·rename_i y q
  rw [q] at e
  exact congrArg some e
 ·rename_i q
  rw [q] at e
  have a:es.toList.any (·.refKey)=false:=by
   rw [List.any_eq_false]
   intro y G
   obtain ⟨z,t,u⟩:=B y (Array.mem_toList_iff.mp G)
   simp [DictEntry.refKey,u]
  have v:¬es.toList.any (·.refKey)=true:=by rw [a];exact pJ
  rw [if_neg v]
  exact congrArg some e
def O7.look (I:O7 h x dx C mA):∃od,OR h x (CG C dx) C (some od)/\∀name,Uz name od=some (mA name):=
 let ⟨od,ho,hl⟩:=Jk I.ns
 ⟨od,⟨I.obj,rfl,rfl,ho⟩,hl⟩
def get_map {K:bU} (X:K.In s.heap) (I:O7 s.heap x dx C mA) (hg:GX K C name=true) (hh:CB K C=true)
 (ha:iz K (.ref C) name=some none) (hv:mA name=some v) (hv':adm v=true) (h:Q v { s with toks:=s.toks+1 }) :
 bY 1#b A (getAttr (.ref x) name expr) Q E s:=by
 obtain ⟨od,J,u⟩:=I.look
 exact PySem.W.get_value X J (Zq hg).1 (PySem.W.findObj_own hh ha rfl (by rw [u,hv])) hv' h
def WU {K:bU} (X:K.In s.heap) (I:O7 s.heap x dx C mA) (hg:GX K C name=true)
 (hf:iz K (.ref C) name=some (some 1#e)) (ht:xg K 1#e=true) (hv:mA name=none) (h:Q (.ref f,[.ref x]) s) :
 bY 1#b A (CM (.ref x) name pl) Q E s:=by
 obtain ⟨v,J,u⟩:=I.look
 exact PySem.W.method_fn X J (Zq hg).1 (Zq hg).2 hf (tR.mp ht) (by show (Uz name v).map (·.isSome)=some false;rw [u,hv];rfl) h
def abJ {K:bU} (X:K.In s.heap) (I:O7 s.heap x dx C mA)
 (hs:iz K (.ref C) "__setattr__"=some (some (.builtin "object.__setattr__"))) (hp:OD K C=true) (ht:ZG K C name=some none) (hh:CB K C=true)
 (hw:ZU mA ns) (hsz:ns.length<=sizeLine)
 (h:∀h',O7 h' x dx C (λy=>if y=name then some v else mA y)->CI dx s.heap h'->Q () { s with heap:=h',toks:=s.toks+2 }) :
 bY 1#b A (setAttr (.ref x) name v) Q E s:=by
 obtain ⟨od,J,hl⟩:=I.look
 refine PySem.W.set_plain X J hs (PySem.W.osa_open (s:={ s with toks:=s.toks+1 }) (r:=none) X J hp ht λb=>?_)
 obtain ⟨cd,M,D⟩:=UJ hh
 have N:s.heap.get? x=some ⟨.ref C,some dx,.plain,#[]⟩:=I.obj
 refine dX (jW (dX (dX (adH N (dX (ajp (s:={ s with toks:=s.toks+1 }) (PySem.W.looks_clsIn X M) ?_))))))
 rw [D]
 refine jW (a:=some dx) (dX (jW (dX ?_)))
 refine wpAny_nsSet1 (s:={ s with toks:=s.toks+1 }) I.ns λh' u z=>?_
 obtain ⟨oD,esD,epD,L,G,B⟩:=u.count (aju name v hw)
 refine dX (wpAny_lookBehind L (by rw [G];exact pastItsLine_dict (g9 B (by rw [IL];simp?))) ?_)
 exact jW (h _ ⟨(z.2 _ (jx I.ne)).trans I.obj,u,I.ne⟩ z)
def Xs {s:bB} {K:bU} (X:K.In s.heap) (hm:OJ K C=true)
 (hi:iz K (.ref C) "__init__"=some (some 1#e)) (hf:PySem.W.typeIn K 1#e=some (.type "function"))
 (h:Av 1#b (A.under (.builtin "type.__call__" ⟨.ref C::vs,kw⟩)) (.call 1#e ⟨.ref 1#f::vs,kw⟩) (PySem.W.InitBack 1#f R)
   { s with heap:=(s.heap.push Mv).push (CG C s.heap.objs.size) }) :
 Av 1#b A (.call (.ref C) ⟨vs,kw⟩) R s:=by
 obtain ⟨hh,g,d,t,os⟩:=s
 exact PySem.W.make_core (PySem.W.makes_of X hm) (adn X hi) (λu=>PySem.W.bind_fn X u hf) (.inl rfl) h
noncomputable def aD (f:Str) (v:V):List (Str×V)->List (Str×V)
 | []=>[(f,v)]
 | (g,x)::r=>if g=f then (g,v)::r else (g,x)::aD f v r
def Ck (f g:Str) (v:V):∀fs:List (Str×V),(aD f v fs).lookup g=if g=f then some v else fs.lookup g
 | []=>by
   show G6 g [(f,v)]=_
   by_cases h:g=f
   ·have hb:(g==f)=true:=tR.mpr h
    simp only [G6,hb,if_pos h]
   ·have hb:(g==f)=false:=Ou.mpr h
    simp only [G6,hb,if_neg h]
 | (k,x)::r=>by
   have ih:=Ck f g v r
   rw [show aD f v ((k,x)::r)=(if k=f then (k,v)::r else (k,x)::aD f v r) from rfl]
   by_cases hk:k=f
   ·rw [if_pos hk]
    by_cases h:g=k
    ·have hb:(g==k)=true:=tR.mpr h
     simp only [G6,hb,if_pos (h.trans hk)]
    ·have hb:(g==k)=false:=Ou.mpr h
     simp only [G6,hb,if_neg (λe:g=f=>h (e.trans hk.symm))]
   ·rw [if_neg hk]
    by_cases h:g=k
    ·have hb:(g==k)=true:=tR.mpr h
     simp only [G6,hb,if_neg (λe:g=f=>hk (h.symm.trans e))]
    ·have hb:(g==k)=false:=Ou.mpr h
     simp only [G6,hb]
     exact ih
def AS (f:Str) (v:V):∀fs:List (Str×V),f∈(aD f v fs).map (·.1)/\∀g,g∈fs.map (·.1)->g∈(aD f v fs).map (·.1)
 | []=>⟨by simp [aD],λg h=>by simp at h⟩
 | (k,x)::r=>by
   obtain ⟨i1,i2⟩:=AS f v r
   rw [show aD f v ((k,x)::r)=(if k=f then (k,v)::r else (k,x)::aD f v r) from rfl]
   by_cases hk:k=f
   ·rw [if_pos hk]
    subst hk
    exact ⟨by simp,λg h=>by simpa using h⟩
   ·rw [if_neg hk]
    refine ⟨?_,λg h=>?_⟩
    ·rw [uh]
     exact DF _ i1
    ·rw [uh] at h ⊢
     rcases kM.mp h with e | e
     ·exact kM.mpr (.inl e)
     ·exact DF _ (i2 g e)
def Cj (f:Str) (v:V):∀fs:List (Str×V),(aD f v fs).length<=fs.length+1
 | []=>by simp [aD]
 | (k,x)::r=>by
   have ih:=Cj f v r
   rw [show aD f v ((k,x)::r)=(if k=f then (k,v)::r else (k,x)::aD f v r) from rfl]
   by_cases hk:k=f
   ·rw [if_pos hk,IL,IL];simp?
   ·rw [if_neg hk,IL,IL];simp?
def sq.some_of (r:sq (some v) o):∃u,o=some u/\RelV v u:=by
 cases o with
 | none=>exact (show False from r).elim
 | some u=>exact ⟨u,rfl,r⟩
def sq.none_of (r:sq none o):o=none:=by
 cases o with
 | none=>rfl
 | some u=>exact (show False from r).elim
def Vf (r:RelV v u):adm u=true:=by
 cases v with
 | bM=>cases (show u=Value.none from r);rfl
 | bl b=>cases (show u=Value.bool b from r);rfl
 | int i=>obtain ⟨t,e⟩:=(show ∃t,u=Value.int i t from r);cases e;rfl
 | str x=>obtain ⟨t,e⟩:=(show ∃t,u=Value.str x t from r);cases e;rfl
 | V5 b=>obtain ⟨t,e⟩:=(show ∃t,u=Value.bytes b t from r);cases e;rfl
 | flt b=>obtain ⟨t,e⟩:=(show ∃t,u=Value.float b t from r);cases e;rfl
 | ref a=>cases (show u=Value.ref a from r);rfl
 | ty n=>cases (show u=Value.type n from r);rfl
def DO (hok:tZ P w H h) (e:H a=some (.ins C dx fs)):∃mA,O7 h a dx C mA/\(∀f,sq (fs.lookup f) (mA f))/\ZU mA (fs.map (·.1))/\fs.length<=1000/\H dx=some (.own a):=by
 obtain ⟨d,z,ne,u,mA,n,r,q⟩:=(show d7 P w H h a (.ins C dx fs) from hok a _ e)
 exact ⟨mA,⟨u,n,ne⟩,r,q,z,d⟩
structure MB (K:bU) (C:ah):Prop where
 pg:GX K C UL=true
 hd:CB K C=true
 po:OD K C=true
 sa:iz K (.ref C) "__setattr__"=some (some (.builtin "object.__setattr__"))
def MB.get {K:bU} (c:MB K C) (f:Str):GX K C f=true:=c.pg
def qw (K:bU) (C:ah) (f:Str):Prop:=iz K (.ref C) f=some none
def qw.aiw {K:bU} (n:qw K C f):ZG K C f=some none:=by
 unfold ZG
 rw [show iz K (.ref C) f=some none from n]
 rfl
structure Meth (K:bU) (C:ah) (m:Str) (f:ah):Prop where
 at_:iz K (.ref C) m=some (some 1#e)
 fn:xg K 1#e=true
 kp:tQ K 1#e=true
def Pq {σ:St} (I:0#d) (e:H a=some (.ins C dx fs)) (c:MB X.K C) (n:qw X.K C f) (l:fs.lookup f=some v)
 (h:∀u s',Inv X pins σ H s'->RelV v u->Q u s'):bY 0#C A (getAttr (.ref a) f b) Q E s:=by
 obtain ⟨D,O,r,_,_,_⟩:=DO I.hok e
 obtain ⟨u,B,z⟩:=sq.some_of (v:=v) (o:=D f) (by rw [<- l];exact r f)
 exact get_map I.yL O (c.get f) c.hd n B (Vf z) (h u _ (I.tok _) z)
def EI {σ:St} (I:0#d) (e:H a=some (.ins C dx fs)) (c:MB X.K C) (k:Meth X.K C m g) (l:fs.lookup m=none)
 (h:Q (.ref g,[.ref a]) s):bY 0#C A (CM (.ref a) m pl) Q E s:=by
 obtain ⟨v,O,r,_,_,_⟩:=DO I.hok e
 have u:v m=none:=sq.none_of (by rw [<- l];exact r m)
 exact WU I.yL O (c.get m) k.at_ k.fn u h
def Rt {σ:St} (I:0#d) (e:H a=some (.ins C dx fs)) (c:MB X.K C) (n:qw X.K C f) (hl:fs.length<1000) (ry:RelV y u)
 (h:∀s',Inv X pins σ (upd H a (.ins C dx (aD f y fs))) s'->Q () s'):bY 0#C A (setAttr (.ref a) f u) Q E s:=by
 obtain ⟨D,O,r,G,_,B⟩:=DO I.hok e
 have R:(fs.map (·.1)).length<=sizeLine:=by rw [iI,UG];simp?
 refine abJ I.yL O c.sa c.po n.aiw c.hd G R λJ v S=>h _ ?_
 have M:∃o,J.get? dx=some o:=let ⟨o,_,_,e',_⟩:=v.ns;⟨o,e'⟩
 refine I.write (x:=a) (e:=dx) (by rw [e];exact True.intro) (.inr B) (λb q L z=>(S.2 b L).trans z) M ?_
 refine ⟨by rw [aF O.ne];exact B,?_,O.ne,v.obj,_,v.ns,λg=>?_,λg N=>?_⟩
 ·have:=Cj f y fs;simp?
 ·show sq ((aD f y fs).lookup g) (if g=f then some u else D g)
  rw [Ck]
  by_cases q:g=f
  ·rw [if_pos q,if_pos q];exact ry
  ·rw [if_neg q,if_neg q];exact r g
 ·by_cases q:g=f
  ·rw [q];exact (AS f y fs).1
  ·refine (AS f y fs).2 g (G g λz=>N ?_)
   show (if g=f then some u else D g)=none
   rw [if_neg q];exact z
def Inv.made {σ:St} (I:0#d):Inv X pins σ (upd (upd H s.heap.objs.size (.own 1#f)) 1#f (.ins C s.heap.objs.size []))
 { s with heap:=(s.heap.push Mv).push (CG C s.heap.objs.size) }:=by
 have e1:(s.heap.push Mv).get? s.heap.objs.size=some Mv:=IJ s.heap rfl
 have e2:((s.heap.push Mv).push (CG C s.heap.objs.size)).get? 1#f=some (CG C s.heap.objs.size):=by
  have:=IJ (s.heap.push Mv) (o:=CG C s.heap.objs.size) rfl
  rwa [adI] at this
 have e3:(s.heap.push Mv).Ns s.heap.objs.size (λ_=>none):=⟨Mv,#[],_,e1,rfl,(λe z=>absurd z 0#w),λ_=>rfl⟩
 have v:=I.laid (a:=s.heap.objs.size) (o:=.own 1#f) (h':=s.heap.push Mv) (t':=s.toks) (λb u q=>pM _ q) (gI _) ⟨_,e1⟩
 refine v.laid (a:=s.heap.objs.size+1) (o:=.ins C s.heap.objs.size []) (t':=s.toks) (λb u q=>pM _ q) (ZW (adI _ _)) ?_
 have ne:s.heap.objs.size≠s.heap.objs.size+1:=mK (ado _)
 refine ⟨by rw [aF ne,au],jV _,ne,e2,λ_=>none,(Heap.Ns1.of_empty e3).at λo q=>pM _ q,λ_=>True.intro,λy A=>absurd rfl A⟩
def aam (hb:wF e f env (eval e env)=eval e env)
 (h:bY 1#b A (eval e env) (λo s₁=>bY 1#b A (getAttr o f true) Q E s₁) E s):bY 1#b A (eval (.Attribute e f pos) env) Q E s:=
 Attribute_any_ h (by rw [arm_eval_Attribute,hb])
def agz (K:bU) (ta:TE) (f:Str):TE:=λσ H Q=>ta σ H λx H1=>∃a C dx fs v,x=.ref a/\H1 a=some (.ins C dx fs)/\MB K C/\qw K C f/\fs.lookup f=some v/\Q v H1
def agr (K:bU) (ta tv:TE) (f:Str):TS:=λD σ H=>tv σ H λy H1=>ta σ H1 λx H2=>∃a C dx fs,x=.ref a/\H2 a=some (.ins C dx fs)/\MB K C/\qw K C f/\fs.length<1000 /\
 D.nx σ (upd H2 a (.ins C dx (aD f y fs)))
def QD {X:Cx} {e:bz} {f:Str} {pos:Pos} {ta:TE} (he:PE X e ta) (hb:wF e f X.env (eval e X.env)=eval e X.env):PE X (.Attribute e f pos) (agz X.K ta f):=by
 intro z s N H Q I h
 refine aam hb (ig (he z s N H _ I h) λu s1 M=>?_)
 obtain ⟨x,A,B,L,a,C,dx,fs,v,G,E,c,n,l,q⟩:=M
 subst G
 obtain rfl:u=Value.ref a:=L
 exact Pq B E c n l λu' s2 D J=>⟨v,A,D,J,q⟩
def QY {X:Cx} {o value:bz} {f:Str} {pos pos':Pos} {ta tv:TE} (ha:PE X o ta) (hv:PE X value tv) (hs:kR value (some (.Attribute o f pos')) pos.line X.env=pure false):PS X (.Assign [.Attribute o f pos'] value pos) (agr X.K ta tv f):=by
 intro v s z H D I h
 refine plainObj_wpAny_Assign_Attribute (ig (hv v s z H _ I h) λu R ⟨y,A,B,Q,q⟩=>ig (ha v R z A _ B q) λM s2 S=>?_) hs
 obtain ⟨x,H2,E,O,a,C,dx,fs,L,J,c,n,l,N⟩:=S
 subst L
 obtain rfl:M=Value.ref a:=O
 exact Rt E J c n l Q λs3 G=>⟨z,_,G,N⟩
inductive xM (K:bU) (H:Hp):V->bq->Prop where
 | bM:xM K H .bM (.type "NoneType")
 | bl (x:Bool):xM K H (.bl x) (.type "bool")
 | int (i:Int):xM K H (.int i) (.type "int")
 | str (x:Str):xM K H (.str x) (.type "str")
 | flt (x:UInt64):xM K H (.flt x) (.type "float")
 | lst {a:ah} {xs:0#n} (e:H a=some (.lst xs)):xM K H (.ref a) (.type "list")
 | Po {a:ah} {o:Obj} {xs:0#n} (e:H a=some (.Po o (.lst xs))):xM K H (.ref a) (.type "list")
 | tup {a:ah} {xs:0#n} (e:H a=some (.tup xs)):xM K H (.ref a) (.type "tuple")
 | dK {a:ah} {kvs:List (Key×V)} (e:H a=some (.dK kvs)):xM K H (.ref a) (.type "dict")
 | dT {a:ah} {kvs:List (List Key×V)} (e:H a=some (.dT kvs)):xM K H (.ref a) (.type "dict")
 | ins {a C dx:ah} {fs:List (Str×V)} (e:H a=some (.ins C dx fs)) (cl:MB K C) (ha:iz K (.ref C) "__class__"=some (some (.builtin "object.__class__")))
  (hn:Zx K (.builtin "object.__class__") "__get__"=some (some (.builtin "getset_descriptor.__get__"))) (htk:ZH K (.builtin "object.__class__")=some true)
  (hm:UB K C (.type "object")=some true):xM K H (.ref a) (.ref C)
def Vn {σ:St} (I:0#d) (rx:RelV x u) (ty:xM X.K H x t) (e:Hi X.K t c=some b) (h:∀tk,Q (.bool b) { s with toks:=tk }) :
 bY 0#C A (call (.builtin "isinstance") [u,c]) Q E s:=by
 cases ty with
 | bM=>cases (show u=Value.none from rx);exact B4 PySem.W.kitx_none I.yL True.intro e (λz=>nomatch z) h
 | bl y=>cases (show u=Value.bool y from rx);exact B4 PySem.W.kitx_bool I.yL True.intro e (λz=>nomatch z) h
 | int i=>obtain ⟨t,q⟩:=(show ∃t,u=Value.int i t from rx);cases q;exact B4 PySem.W.kitx_int I.yL True.intro e (λz=>nomatch z) h
 | str y=>obtain ⟨t,q⟩:=(show ∃t,u=Value.str y t from rx);cases q;exact B4 PySem.W.kitx_str I.yL True.intro e (λz=>nomatch z) h
 | flt y=>obtain ⟨t,q⟩:=(show ∃t,u=Value.float y t from rx);cases q;exact B4 PySem.W.kitx_float I.yL True.intro e (λz=>nomatch z) h
 | @lst a xs ea=>
   cases (show u=Value.ref a from rx)
   obtain ⟨_,_,n,_,v⟩:=(show d7 X.prog X.w H s.heap a (.lst xs) from I.hok a _ ea)
   exact B4 ac6 I.yL ⟨_,v,rfl⟩ e (λz=>nomatch z) h
 | @Po a ob xs ea=>
   cases (show u=Value.ref a from rx)
   obtain ⟨_,_,_,n,_,v⟩:=(show d7 X.prog X.w H s.heap a (.Po ob (.lst xs)) from I.hok a _ ea)
   exact B4 ac6 I.yL ⟨_,v,rfl⟩ e (λz=>nomatch z) h
 | @tup a xs ea=>
   cases (show u=Value.ref a from rx)
   obtain ⟨_,_,_,p⟩:=(show d7 X.prog X.w H s.heap a 0#Z from I.hok a _ ea)
   obtain ⟨o,v,B,_⟩:=p
   exact B4 PySem.W.kitx_tuple I.yL ⟨o,v,B⟩ e (λz=>nomatch z) h
 | @dK a kvs ea=>
   cases (show u=Value.ref a from rx)
   obtain ⟨_,_,vs,_,p⟩:=(show d7 X.prog X.w H s.heap a (.dK kvs) from I.hok a _ ea)
   obtain ⟨o,es,D,v,B,_⟩:=p
   exact B4 ac7 I.yL ⟨o,v,B.1⟩ e (λz=>nomatch z) h
 | @dT a kvs ea=>
   cases (show u=Value.ref a from rx)
   obtain ⟨_,_,xs,_,o,es,D,v,B,_⟩:=(show d7 X.prog X.w H s.heap a (.dT kvs) from I.hok a _ ea)
   exact B4 ac7 I.yL ⟨o,v,B.1⟩ e (λz=>nomatch z) h
 | @ins a C dx fs ea cl ha hn htk hm=>
   cases (show u=Value.ref a from rx)
   obtain ⟨mA,O,_⟩:=DO I.hok ea
   obtain ⟨od,J,_⟩:=O.look
   exact B4 (PySem.W.kitx_own (cl.get _) cl.hd ha hn htk hm) I.yL J e (λz=>nomatch z) h
structure gM (k:Nat) (A:je):Prop where
 hd:A.handled=none
 dp:A.depth+3*k+5<recursionLimit
 un:A.units+16*k+200<mG
def gM.mono (r:gM k A) (h:j<=k):gM j A:=⟨r.hd,by have:=r.dp;simp?,by have:=r.un;simp?⟩
def gM.deeper (r:gM (k+1) A) (env:Env):gM k (A.deeper env):=
 ⟨r.hd,by have:=r.dp;show A.depth+1+3*k+5<_;simp?,by have:=r.un;show A.units+3+16*k+200<_;simp?⟩
def Qg {A:je}:(A.under (.builtin "type.__call__" ⟨.ref C::us,kw⟩)).depth=A.depth+1:=by
 first | rfl | simp [ZX,Code.weight,Code.isCreation,Code.isGuard,Code.isCaller,aee,ZY,guardIds]
def Qh {A:je}:(A.under (.builtin "type.__call__" ⟨.ref C::us,kw⟩)).units=A.units+1:=by
 first | rfl | simp [ZX,Code.cUnits,aee,ZY]
def gM.make (r:gM (k+1) A) (C:ah) (us:List bq) (kw:List (Str×bq)):gM k (A.under (.builtin "type.__call__" ⟨.ref C::us,kw⟩)):=
 ⟨r.hd,by have:=r.dp;rw [Qg];simp?,by have:=r.un;rw [Qh];simp?⟩
def gM.depth (r:gM k A):A.depth<recursionLimit:=by have:=r.dp;simp?
def gM.units (r:gM k A):A.units+64<mG:=by have:=r.un;simp?
def pH:TA:=λ_ H Q=>Q [] H
def fY (ta:TE) (tr:TA):TA:=λσ H Q=>ta σ H λx H1=>tr σ H1 λxs H2=>Q (x::xs) H2
def xZ {X:Cx}:PA X [] pH:=λ_ _ _ _ H Q I h=>Zy ⟨[],H,I,.nil,h⟩
def lY {X:Cx} {e:bz} {es:List bz} {te:TE} {t:TA} (ha:PE X e te) (hr:PA X es t) (hs:0#f:=by rfl):PA X (e::es) (fY te t):=by
 intro pos v s z H Q I h
 rw [hs]
 show bY _ _ (spliced ((false,eval e X.env)::gc pos (dg es X.env))) _ _ s
 refine Zs (ig (ha v s z H _ I h) λu N ⟨x,A,D,L,G⟩=>?_)
 exact ig (hr pos v N z A _ D G) λus s2 ⟨O,B,E,M,J⟩=>⟨x::O,B,E,.cons L M,J⟩
def agF (t:TA):TE:=λσ H Q=>t σ H λxs H1=>xs.length<=sizeLine/\∀p,H1 p=none->Q (.ref p) (upd H1 p 0#Z)
def agB (t:TA):TE:=λσ H Q=>t σ H λxs H1=>xs.length<=sizeLine/\∀p,H1 p=none->Q (.ref p) (upd H1 p (.lst xs))
def QL {X:Cx} {es:List bz} {t:TA} {pos:Pos} {x1} (h:PA X es t):PE X (.Tuple es x1 pos) (agF t):=by
 intro v s L H Q I G
 refine wpAny_Tuple_spliced (ig (h pos v s L H _ I G) λJ A ⟨xs,B,D,r,z,q⟩=>⟨by rw [<- r.length];exact z,?_⟩)
 have E:B A.heap.objs.size=none:=D.hok.fresh (gI _)
 refine ⟨.ref A.heap.objs.size,upd B A.heap.objs.size 0#Z,D.laid (t':=A.toks) (λb u e=>pM _ e) (gI _) ?_,rfl,q _ E⟩
 exact ⟨z,J,r,⟨_,IJ _ rfl,rfl,_,rfl⟩⟩
def QF {X:Cx} {es:List bz} {t:TA} {pos:Pos} (h:PA X es t):PE X (.List es pos) (agB t):=by
 intro v s M H Q I G
 refine wpAny_List_spliced (ig (h pos v s M H _ I G) λJ A ⟨L,B,D,r,z,q⟩=>⟨by rw [<- r.length];exact z,?_⟩)
 have E:B A.heap.objs.size=none:=D.hok.fresh (gI _)
 refine ⟨.ref A.heap.objs.size,upd B A.heap.objs.size (.lst L),D.laid (t':=A.toks) (λb u e=>pM _ e) (gI _) ?_,rfl,q _ E⟩
 exact ⟨z,J,0,r,IJ _ rfl⟩
abbrev Sp:=List V->Hp->VK->XK->Prop
abbrev CXT:=List Env->Hp->bB->XK->bq->bB->Prop
structure J3 (P:fT) (w:dO) (K:bU) (mg:0#g) (base:cH) (A:je) (outer:List Env) (s:bB) (H:Hp):Prop where
 frames:A.frames=some outer
 mod:Mod K mg base
 bs:∀b o,base.get? b=some o->s.heap.get? b=some o/\H b=none
 UT:base.objs.size<=s.heap.objs.size
 uG:s.heap.FunFrames base outer
 V8:∀b∈frs outer,H b=none
 hok:tZ P w H s.heap
 bare:xx s.gens
def CE (outer:List Env) (P:fT) (w:dO) (H:Hp) (s:bB) (Q:VK) (u:bq) (s':bB):Prop:=
 ∃v H',s'.os=s.os/\xx s'.gens/\Un (frs outer) [] H H' s.heap s'.heap/\tZ P w H' s'.heap/\RelV v u/\Q v H'
def CR (CX:CXT) (outer:List Env) (P:fT) (w:dO) (H:Hp) (s:bB) (Q:VK) (E:XK) (r:Result) (s':bB):Prop:=
 match r with
 | .ok (.ret u)=>CE outer P w H s Q u s'
 | .ok _=>False
 | .error e=>CX outer H s E e s'
structure bf (P:fT) (w:dO) (K:bU) (mg:0#g) (base:cH) (CX:CXT) (k:Nat) (f:ah) (fd:ia) (ps:List Str) (sp:Sp):Prop where
 len:∀vs H Q E,sp vs H Q E->vs.length=ps.length
 run:∀(A:je) (outer:List Env) (s:bB) (H:Hp) (args:Args) (us:List bq) (vs:0#n) (Q:VK) (E:XK),gM k A->J3 P w K mg base A outer s H->G9 s fd args (ps.zip us)->Vals vs us->sp vs H Q E ->
  Av (model P w) A (.call 1#e args) (CR CX outer P w H s Q E) s
def J3.make {K:bU} (e:J3 P w K mg base A outer s H) (C:ah) (us:List bq) (kw:List (Str×bq)) :
 J3 P w K mg base (A.under (.builtin "type.__call__" ⟨.ref C::us,kw⟩)) outer s H:=⟨by first | exact e.frames | (simpa [ZX,Code.envs,ZY,pushEnvs] using e.frames),e.mod,e.bs,e.UT,e.uG,e.V8,e.hok,e.bare⟩
def Inv.HB {σ:St} (I:0#d):J3 X.prog X.w X.K X.mg X.base X.A X.stack s H:=
 ⟨I.ok.frames,I.ok.mod,I.bs,g9 I.ok.UT I.sz,I.stack,I.Ec,I.hok,I.bare⟩
def Inv.after {σ:St} (I:0#d) (h:CE X.stack X.prog X.w H s Q u s'):EP X pins σ Q u s':=by
 obtain ⟨v,H',G,A,un,B,r,q⟩:=h
 obtain ⟨E,g,d,t,D⟩:=s'
 obtain rfl:D=s.os:=G
 exact ⟨v,H',I.call (h':=E) (g':=g) (d':=d) (t':=t) (ch:=[]) un B A (λb z=>absurd z 0#w),r,q⟩
def wV (sp:Sp) (Hl:0#n) (E:XK) (t:TA):TE:=λσ H Q=>t σ H λvs H1=>sp (vs++Hl) H1 Q E
def Cy (C:ah) (m:Str) (sp:Sp) (Hl:0#n) (E:XK) (ta:TE) (t:TA):TE:=λσ H Q=>ta σ H λx H1=>∃a dx fs,x=.ref a/\H1 a=some (.ins C dx fs)/\fs.lookup m=none /\
 t σ H1 λvs H2=>sp (x::(vs++Hl)) H2 Q E
def Oh (C:ah) (sp:Sp) (Hl:0#n) (E:XK) (t:TA):TE:=λσ H Q=>t σ H λvs H1=>∀x dx,H1 x=none->H1 dx=none->dx≠x ->
 sp (.ref x::(vs++Hl)) (upd (upd H1 dx (.own x)) x (.ins C dx [])) (λv H2=>v=.bM/\Q (.ref x) H2) E
def Binds (K:bU) (fd:ia) (ps:List Str) (ds:List bq):Prop:=
 ∀(s:bB) (us:List bq),K.In s.heap->(us++ds).length=ps.length->G9 s fd ⟨us,[]⟩ (ps.zip (us++ds))
def Binds.all {K:bU} (h:∀us:List bq,us.length=ps.length->xu fd ⟨us,[]⟩=pure (ps.zip us)):Binds K fd ps []:=λs us _ hl=>by
 rw [Ar] at hl ⊢
 exact .of_eq (h us hl)
def Passes (CX:CXT) (X:Cx) (E:XK):Prop:=∀(pins:0#l) (σ:St) (H:Hp) (s:bB) (e:bq) (s':bB),Inv X pins σ H s->CX X.stack H s E e s'->X.xe e s'
def Ra {σ:St} (F:bf X.prog X.w X.K X.mg X.base CX k f fd ps sp) (hr:gM k X.A) (hb:Binds X.K fd ps ds) (hd:Vals Hl ds) (hx:Passes CX X E)
 (I:0#d) (r:Vals vs us) (h:sp (vs++Hl) H Q E):bY 0#C X.A (call 1#e us) (EP X pins σ Q) X.xe s:=by
 have z:Vals (vs++Hl) (us++ds):=r.append hd
 have B:(us++ds).length=ps.length:=by rw [<- z.length];exact F.len _ _ _ _ h
 refine OU (JS (F.run X.A X.stack s H ⟨us,[]⟩ (us++ds) (vs++Hl) Q E hr I.HB (hb s us I.yL B) z h) λr s' v=>?_)
 cases r with
 | error e=>exact hx pins σ H s e s' I v
 | ok fl=>
   cases fl with
   | ret u=>exact I.after v
   | next=>exact rR v
   | brk=>exact rR v
   | cont=>exact rR v
def Tj (F:bf X.prog X.w X.K X.mg X.base CX k f fd ps sp) (hr:gM k X.A) (hg:Gl X x) (hm:X.mg x=some 1#e) (hk:tQ X.K 1#e=true) (hb:Binds X.K fd ps ds) (hd:Vals Hl ds) (hx:Passes CX X E)
 (ha:PA X (e::es) t) (hdb:0#e:=by decide) (he:0#f:=by rfl) (hpl:0#i:=by rfl) :
 PE X 1#g (wV sp Hl E t):=by
 intro u s z H Q I h
 refine OA (yX I hg hm ?_ hdb)
 refine Uj (h₀:=X.base) I.ok.mod.kin hk (ig (ha pos u s z H _ I h) λus s1 ⟨vs,H1,v,r,q⟩=>⟨v.yL,?_⟩) he hpl
 exact Ra F hr hb hd hx v r q
def Tq {X:Cx} {CX:CXT} {k:Nat} {f C:ah} {fd:ia} {ps:List Str} {sp:Sp} {Hl:0#n} {ds:List bq} {E:XK} {m:Str} {pos apos:Pos} {e o:bz} {es:List bz} {ta:TE} {t:TA} {pl:Sem Bool} (he:PE X o ta) (c:MB X.K C) (hm:Meth X.K C m f) (F:bf X.prog X.w X.K X.mg X.base CX k f fd ps sp) (hr:gM k X.A) (hb:Binds X.K fd ps ds) (hd:Vals Hl ds) (hx:Passes CX X E) (ha:PA X (e::es) t)
 (hst:0#f:=by rfl) (hpl:0#i:=by rfl)
 (ht:eval (.Call (.Attribute o m apos) (e::es) [] pos) X.env=(do
   let ov <- eval o X.env
   xy apos.atName
   let (f,first) <- holding [ov] (CM ov m pl)
   callWith pos f first (gc pos (dg (e::es) X.env)) (qe pos (qd [] X.env))):=by rfl) :
 PE X (.Call (.Attribute o m apos) (e::es) [] pos) (Cy C m sp Hl E ta t):=by
 intro v s D H Q I h
 refine acH (pl:=pl) (ig (he v s D H _ I h) λu O R=>?_) ht
 obtain ⟨x,G,z,N,a,dx,fs,L,J,l,q⟩:=R
 subst L
 obtain rfl:u=Value.ref a:=N
 refine EI z J c hm l ?_
 refine Uj (first:=[.ref a]) (h₀:=X.base) I.ok.mod.kin hm.kp (ig (ha pos v O D G _ z q) λus s2 ⟨vs,H2,B,r,M⟩=>⟨B.yL,?_⟩) hst hpl
 exact Ra (us:=.ref a::us) (vs:=.ref a::vs) F hr hb hd hx B (.cons rfl r) M
def N4 {X:Cx} {CX:CXT} {k:Nat} {f C:ah} {fd:ia} {ps:List Str} {sp:Sp} {Hl:0#n} {ds:List bq} {E:XK} {m:Str} {pos apos:Pos} {o:bz} {ta:TE} {pl:Sem Bool} (he:PE X o ta) (c:MB X.K C) (hm:Meth X.K C m f) (F:bf X.prog X.w X.K X.mg X.base CX k f fd ps sp) (hr:gM k X.A) (hb:Binds X.K fd ps ds) (hd:Vals Hl ds) (hx:Passes CX X E)
 (ht:eval (.Call (.Attribute o m apos) [] [] pos) X.env=(do
   let ov <- eval o X.env
   xy apos.atName
   let (f,first) <- holding [ov] (CM ov m pl)
   callWith pos f first (gc pos (dg [] X.env)) (qe pos (qd [] X.env))):=by rfl) :
 PE X (.Call (.Attribute o m apos) [] [] pos) (Cy C m sp Hl E ta pH):=by
 intro v s L H Q I h
 refine acH (pl:=pl) (ig (he v s L H _ I h) λu s1 J=>?_) ht
 obtain ⟨x,H1,z,G,a,dx,fs,D,B,l,q⟩:=J
 subst D
 obtain rfl:u=Value.ref a:=G
 refine EI z B c hm l ?_
 exact PySem.W.callWith_K0 (first:=[.ref a]) z.yL hm.kp (Ra (us:=[.ref a]) (vs:=[.ref a]) F hr hb hd hx z (.cons rfl .nil) q)
structure Mk (K:bU) (C f:ah):Prop where
 makes:OJ K C=true
 init:iz K (.ref C) "__init__"=some (some 1#e)
 fn:xg K 1#e=true
 kp:tQ K (.ref C)=true
def Yp {σ:St} (M:Mk X.K C f) (F:bf X.prog X.w X.K X.mg X.base CX k f fd ps sp) (hr:gM (k+1) X.A) (hb:Binds X.K fd ps ds) (hd:Vals Hl ds)
 (hx:Passes CX X E) (I:0#d) (r:Vals vs us)
 (h:∀x dx,H x=none->H dx=none->dx≠x->sp (.ref x::(vs++Hl)) (upd (upd H dx (.own x)) x (.ins C dx [])) (λv H2=>v=.bM/\Q (.ref x) H2) E) :
 bY 0#C X.A (call (.ref C) us) (EP X pins σ Q) X.xe s:=by
 have D:=h 1#f s.heap.objs.size (I.hok.fresh (OT _)) (I.hok.fresh (gI _)) (mK (ado _))
 have B:=Inv.made (C:=C) I
 have G:Vals (V.ref 1#f::(vs++Hl)) (Value.ref 1#f::(us++ds)):=.cons rfl (r.append hd)
 have N:(Value.ref 1#f::us++ds).length=ps.length:=by
  have e:=G.length
  rw [F.len _ _ _ _ D] at e
  exact e.symm
 refine OU (Xs (f:=f) I.yL M.makes M.init (tR.mp M.fn) (JS (F.run _ X.stack _ _ ⟨Value.ref 1#f::us,[]⟩ (Value.ref 1#f::(us++ds)) _ _ E (hr.make C us [])
  (B.HB.make C us []) (hb _ (Value.ref 1#f::us) B.yL N) G D) λr s' z=>?_))
 cases r with
 | error e=>exact hx pins σ _ _ e s' B z
 | ok fl=>
   cases fl with
   | ret u=>
     obtain ⟨v,H',J,R,L,O⟩:=B.after z
     subst L
     exact ⟨R,⟨V.ref 1#f,H',J,rfl,O⟩⟩
   | next=>exact rR z
   | brk=>exact rR z
   | cont=>exact rR z
def To (M:Mk X.K C f) (F:bf X.prog X.w X.K X.mg X.base CX k f fd ps sp) (hr:gM (k+1) X.A) (hg:Gl X x) (hm:X.mg x=some (.ref C)) (hb:Binds X.K fd ps ds) (hd:Vals Hl ds) (hx:Passes CX X E)
 (ha:PA X (e::es) t) (hdb:0#e:=by decide) (he:0#f:=by rfl) (hpl:0#i:=by rfl) :
 PE X 1#g (Oh C sp Hl E t):=by
 intro u s z H Q I h
 refine OA (yX I hg hm ?_ hdb)
 refine Uj (h₀:=X.base) I.ok.mod.kin M.kp (ig (ha pos u s z H _ I h) λus s1 ⟨vs,H1,v,r,q⟩=>⟨v.yL,?_⟩) he hpl
 exact Yp M F hr hb hd hx v r q
structure pQ (N P:List Str) (sc:nO):Prop where
 kind:sc.kind=.function
 co:sc.isCoroutine=false
 gen:sc.isGenerator=false
 nd:N.Nodup
 pre:N.take P.length=P
 par:∀x∈P,sc.names.lookup x=some .local\/sc.names.lookup x=some .cell
 afN:∀y∈sc.names,y.2≠.free
def IT {kindOf:Str->Option Au}:∀{binds:List (Str×bq)} {m:0#g},(∀v,(x,v)∉binds)->CP kindOf binds m x=m x
 | [],_,_=>rfl
 | (n,v)::r,m,h=>by
   unfold CP
   rw [IT λw hw=>h w (DF _ hw)]
   split
   ·have:x≠n:=by rintro rfl;exact h v CA
    simp [this]
   ·rfl
def IQ {kindOf:Str->Option Au}:∀{binds:List (Str×bq)} {m:0#g},(∀v,(x,v)∉binds)->CQ kindOf binds m x=m x
 | [],_,_=>rfl
 | (n,v)::r,m,h=>by
   unfold CQ
   rw [IQ λw hw=>h w (DF _ hw)]
   split
   ·rfl
   ·have:x≠n:=by rintro rfl;exact h v CA
    simp [this]
def IS {kindOf:Str->Option Au}:∀{P:List Str} {vs:List bq} {i:Nat} {m:0#g},P.Nodup->P[i]?=some x->vs[i]?=some v->kindOf x=some .local ->
 CP kindOf (P.zip vs) m x=some v
 | [],_,_,_,_,h,_,_=>by simp at h
 | _::_,[],_,_,_,_,h,_=>by simp at h
 | p::P,w::vs,0,m,nd,h1,h2,hk=>by
   simp at h1 h2;subst h1;subst h2
   show CP kindOf ((p,w)::P.zip vs) m p=_
   unfold CP
   rw [IT λv hv=>(JO.mp nd).1 (Uw hv).1,if_pos hk]
   simp
 | p::P,w::vs,i+1,m,nd,h1,h2,hk=>by
   show CP kindOf ((p,w)::P.zip vs) m x=_
   unfold CP
   exact IS (i:=i) (JO.mp nd).2 (by simpa using h1) (by simpa using h2) hk
def IP {kindOf:Str->Option Au}:∀{P:List Str} {vs:List bq} {i:Nat} {m:0#g},P.Nodup->P[i]?=some x->vs[i]?=some v->kindOf x≠some .local ->
 CQ kindOf (P.zip vs) m x=some v
 | [],_,_,_,_,h,_,_=>by simp at h
 | _::_,[],_,_,_,_,h,_=>by simp at h
 | p::P,w::vs,0,m,nd,h1,h2,hk=>by
   simp at h1 h2;subst h1;subst h2
   show CQ kindOf ((p,w)::P.zip vs) m p=_
   unfold CQ
   rw [IQ λv hv=>(JO.mp nd).1 (Uw hv).1,if_neg hk]
   simp
 | p::P,w::vs,i+1,m,nd,h1,h2,hk=>by
   show CQ kindOf ((p,w)::P.zip vs) m x=_
   unfold CQ
   exact IP (i:=i) (JO.mp nd).2 (by simpa using h1) (by simpa using h2) hk
noncomputable def start (N:List Str) (vs:0#n):St:=vs.map some++ow (N.length-vs.length) none
noncomputable def lG (CX:CXT) (P:fT) (w:dO) (K:bU) (mg:0#g) (base:cH) (N:List Str) (qual:Str) (scope:nO) (f:ah) (cd:bq) (A:je) (outer:List Env) (s:bB) (H:Hp) (E:XK):Cx where
 prog:=P
 w:=w
 K:=K
 mg:=mg
 base:=base
 A:=A.deeper (fS qual scope s.heap.objs.size f cd)
 N:=N
 s₀:=s
 H₀:=H
 env:=fS qual scope s.heap.objs.size f cd
 outer:=outer
 stack:=fS qual scope s.heap.objs.size f cd::outer
 ex:=[]
 calm:=true
 fn:=λ_=>true
 pn:=[]
 xe:=λe s'=>bY (model P w) (A.deeper (fS qual scope s.heap.objs.size f cd)) (leaving (fS qual scope s.heap.objs.size f cd) e) (λ_ s''=>CX outer H s E e s'') (λe' s''=>CX outer H s E e' s'') s'
def MN {sc:nO} (h:sc.names.lookup x=some .cell):∃c,(cellsFrom n sc.names []).lookup x=some c:=by
 have q:=Zi sc.names n [] (.inl h)
 exact Om.mp q
def Jg {K:bU}
 (S:pQ N ps scope) (hd:A.handled=none) (e0:J3 P w K mg base A outer s H) (hl:vs.length=ps.length) (r:Vals vs us)
 (x:InCallC s s.heap.objs.size (CP (fS qual scope s.heap.objs.size f cd).kindOf (ps.zip us) λ_=>none) (cellsFrom 1#f scope.names []) (CQ (fS qual scope s.heap.objs.size f cd).kindOf (ps.zip us) λ_=>none) s1) :
 Inv (lG CX P w K mg base N qual scope f cd A outer s H E) [] (start N vs) H s1:=by
 have hpl:ps.length<=N.length:=by have:=congrArg CJ S.pre;rw [IM] at this;simp?
 obtain ⟨L,tk,rfl,O⟩:=x.done
 have G:∀b:ah,b∉(lG CX P w K mg base N qual scope f cd A outer s H E).ex:=λb z=>absurd (show b∈([]:List ah) from z) 0#w
 refine ⟨⟨e0.mod,S.kind,rfl,rfl,gI _,λy z c L B=>?_,λy D=>?_,λy c _ h=>?_,λ_=>hd,Around.frames_deeper e0.frames,.inr ⟨rfl,rfl⟩,λb z=>absurd z (G b),e0.bs,e0.UT,λb _ _=>G b,λb z=>absurd z (G b),e0.uG,e0.V8⟩,
  rfl,e0.bare,Un.kept O,⟨_,x.toInCall.ns,λi y v L B h3=>?_⟩,λy c h=>⟨_,x.cell y c h⟩,e0.hok.fresh (gI _),λy c h=>?_,λp I=>absurd (show p∈([]:List (ah×Obj)) from I) 0#w,e0.hok.kept O,?_⟩
 ·exact name_of_addr x.apart (Ov L) (Ov B)
 ·have D:scope.names.lookup y=some .cell\/scope.names.lookup y=some .free:=D
  rcases D with D | D
  ·exact MN D
  ·exact absurd rfl (S.afN _ (Ov D))
 ·exact wG (x.above y c (Ov h))
 ·have M:i<vs.length:=by
   unfold start at B
   by_cases M:i<vs.length
   ·exact M
   ·rw [Sg (by simpa using M)] at B
    rw [Oo] at B
    split at B <;> cases B
  have R:vs[i]?=some v:=by
   unfold start at B
   rw [Mr (by simpa using M),gF] at B
   cases e:vs[i]? with
   | none=>rw [e] at B;cases B
   | some a=>rw [e] at B;cases B;rfl
  obtain ⟨u,Q,U⟩:=r.get R
  have I:ps[i]?=some y:=by
   rw [<- S.pre,List.getElem?_take_of_lt 0#z];exact L
  have J:ps.Nodup:=by rw [<- S.pre];exact S.nd.sublist (Um _ _)
  refine ⟨u,U,?_⟩
  rcases S.par y (g8 I) with k | k
  ·exact .inl ⟨k,IS J I Q k⟩
  ·obtain ⟨c,e⟩:=MN (n:=s.heap.objs.size+1) k
   refine .inr ⟨.inl k,c,e,?_⟩
   have q:=x.cell y c e
   rw [IP J I Q (by show scope.names.lookup y≠_;rw [k];decide)] at q
   exact q
 ·exact e0.hok.fresh (wG (x.above y c (Ov h)))
 ·unfold start
  show _=N.length
  rw [jf,iI,Si]
  simp?
def WM {CX:CXT} {P:fT} {w:dO} {K:bU} {mg:0#g} {base:cH} {k:Nat} {f:ah} {name qual:Str} {body:List aS} {scope:nO} {dV kV doc pm cdv ct oc:bq} {an od:Option ah}
 {osl:Array (Option bq)} {N ps:List Str} {sp:Sp} (lk:K.lookup f=some ⟨oc,od,.func (pN name qual params body scope dV kV doc pm an cdv ct),osl⟩) (hcd:vE K cdv qual=true) (S:pQ N ps scope)
 (len:∀vs H Q E,sp vs H Q E->vs.length=ps.length)
 (hbody:∀(A:je) (outer:List Env) (s:bB) (H:Hp) (vs:0#n) (Q:VK) (E:XK),gM k (A.deeper (fS qual scope s.heap.objs.size f cdv))->sp vs H Q E ->
   ∃t,Hw (lG CX P w K mg base N qual scope f cdv A outer s H E) body t/\t { nx:=λ_ H'=>Q .bM H',rt:=Q } (start N vs) H) :
 bf P w K mg base CX (k+1) f (pN name qual params body scope dV kV doc pm an cdv ct) ps sp:=by
 refine ⟨len,λA outer s H args us vs Q E O G hb r M=>?_⟩
 have hl:=len _ _ _ _ M
 have Y:K.In s.heap:=G.mod.kin.keeps λb o e=>(G.bs b o e).1
 have R:s.heap.NoLimit:=G.mod.nolimit.keeps λb o e=>(G.bs b o e).1
 have B:∀y∈ps.zip us,scope.names.lookup y.1=some .local\/(scope.names.lookup y.1=some .cell/\((cellsFrom 1#f scope.names []).lookup y.1).isSome=true):=λ⟨n,v⟩ hy=>by
  rcases S.par n (Uw hy).1 with q | q
  ·exact .inl q
  ·exact .inr ⟨q,Zi _ _ _ (.inl q)⟩
 refine acI O.depth (Y _ _ lk) rfl S.co S.gen rfl (ac0 Y hcd) (hb _ _ _ _ ?_)
 refine aco S.kind B λenv he Z x=>?_
 subst he
 refine ⟨R.keeps x.toInCall.keep,codeAny_func ?_⟩
 obtain ⟨t,ht,hq⟩:=hbody A outer s H vs Q E (O.deeper _) M
 have I:Inv (lG CX P w K mg base N qual scope f cdv A outer s H E) [] (start N vs) H Z:=Jg S O.hd G hl r x
 refine pO (ht [] Z (start N vs) H _ I hq) (λfl s' D=>?_) λe s' D=>D
 have L:∀{z:St} {H':Hp} {v:V} {u:bq},Inv (lG CX P w K mg base N qual scope f cdv A outer s H E) [] z H' s'->RelV v u->Q v H'->CE outer P w H s Q u s':=
  λ{z H' v u} J U q=>⟨v,H',J.os,J.bare,J.base,J.hok,U,q⟩
 cases fl with
 | ret u=>
   obtain ⟨v,z,H',J,U,q⟩:=D
   exact L J U q
 | next=>
   obtain ⟨z,H',J,q⟩:=D
   exact L (v:=V.bM) (u:=Value.none) J rfl q
 | brk=>
   obtain ⟨_,_,_,q⟩:=D
   exact rR q
 | cont=>
   obtain ⟨_,_,_,q⟩:=D
   exact rR q
def tCB (r:0#n->Hp->VK->Prop) (t:TA):TE:=λσ H Q=>t σ H λvs H1=>r vs H1 Q
def zL {X:Cx} {x:Str} {p pos:Pos} {e:bz} {es:List bz} {t:TA} {id:String} {r:0#n->Hp->VK->Prop} (hc:jG X (.builtin id) r) (hg:Gl X x) (hm:X.mg x=none) (hv:wZ x=some (.builtin id)) (ha:PA X (e::es) t) (hn:x ≠ "__name__":=by decide) (hdb:0#e:=by decide)
 (he:0#f:=by rfl) (hpl:0#i:=by rfl):PE X 1#g (tCB r t):=by
 intro u s v H Q I h
 refine OA (xT I hg hm hv ?_ hn hdb)
 exact aiM (ig (ha pos u s v H _ I h) λG E ⟨vs,z,A,D,B⟩=>hc u E v z vs G Q A D B) he hpl
def rE {X:Cx} {x:Str} {p pos:Pos} {e:bz} {es:List bz} {t:TA} {T:String} {r:0#n->Hp->VK->Prop} (hc:jG X (.type T) r) (hg:Gl X x) (hm:X.mg x=none) (hv:wZ x=some (.type T)) (ha:PA X (e::es) t) (hn:x ≠ "__name__":=by decide) (hdb:0#e:=by decide)
 (he:0#f:=by rfl) (hpl:0#i:=by rfl):PE X 1#g (tCB r t):=by
 intro u s v H Q I h
 refine OA (xT I hg hm hv ?_ hn hdb)
 exact Ol (ig (ha pos u s v H _ I h) λG E ⟨vs,z,A,D,B⟩=>hc u E v z vs G Q A D B) he hpl
end L2
namespace HT
open PySem PyProof.Rows
def aap (ht:IsTup s.heap t vs.toArray) (hb:IsTup s.heap b ws.toArray) (hv:vs≠[])
 (h1:ws=[]->Q (.ref t) s) (h2:ws≠[]->Q (.ref s.heap.objs.size) { s with heap:=s.heap.push { cls:=.type "tuple",data:=.seq (vs++ws).toArray } })
 (hsz:vs.length+ws.length<=sizeLine):bY 1#b A (pI .Add (.ref t) (.ref b)) Q E s:=by
 obtain ⟨⟨cls,I,data,sl⟩,G,J,n,L⟩:=id ht
 obtain ⟨⟨akP,v,data2,D⟩,u,z,M,B⟩:=id hb
 simp only at J L z B
 subst J L z B
 have e:vs.toArray++ws.toArray=(vs++ws).toArray:=by simp
 by_cases hw:ws=[]
 ·exact concat_meets ⟨_,G,rfl⟩ ⟨_,u,rfl⟩ adp adR acB acu (acq _ _)
   (tuple_addW1 t b vs.toArray ws.toArray n M I v sl D (by simpa using hv) (by simp [hw])) ⟨G,u,h1 hw⟩
 ·refine concat_meets ⟨_,G,rfl⟩ ⟨_,u,rfl⟩ adp adR acB acu (acq _ _)
   (tuple_addW2 t b vs.toArray ws.toArray n M I v sl D (by simpa using hv) (by simpa using hw) (by rw [kG,kG];exact hsz)) ⟨G,u,?_⟩
  rw [e]
  exact h2 hw
noncomputable def JD (n d:Nat):0#m->Nat
 | none=>d
 | some v=>if v<0 then (v+(n:Int)).toNat else min v.toNat n
def D5 (n d k:Nat):JD n d (some (k:Int))=min k n:=by
 show (if (k:Int)<0 then ((k:Int)+(n:Int)).toNat else min (k:Int).toNat n)=min k n
 rw [if_neg 0#z,Zz]
end HT
namespace L2
open PySem PySem.Spec PyProof.Rows
abbrev TO:=St->Hp->(Option Int->Hp->Prop)->Prop
def PO (X:Cx) (e:Option bz) (t:TO):Prop:=
 ∀(pins:0#l) (s:bB) (σ:St) (H:Hp) (Q:0#m->Hp->Prop),Inv X pins σ H s->t σ H Q ->
  bY 0#C X.A (evalPart e X.env) (λu s'=>∃o H',Inv X pins σ H' s'/\IsPart u o/\Q o H') X.xe s
def Mj:TO:=λ_ H Q=>Q none H
def YW (t:TE):TO:=λσ H Q=>t σ H λx H1=>∃i,x=.int i/\Q (some i) H1
def intsAre_of:∀{us:List bq},Vals 1#i us->Aw us ns:=by
 induction ns with
 | nil=>intro us r;rw [UC] at r;cases r;exact .nil
 | cons n ns ih=>
   intro us r
   rw [uh] at r
   cases r with
   | cons r1 r2=>
     obtain ⟨t,e⟩:=r1
     subst e
     exact .cons n t (ih r2)
def Le {X:Cx}:PO X none Mj:=by
 intro pins s σ H Q I h
 rw [adS]
 exact jW ⟨none,H,I,.none,h⟩
def Lf {X:Cx} {e:bz} {te:TE} (h:PE X e te):PO X (some e) (YW te):=by
 intro v s G H Q I B
 rw [evalPart_some]
 refine ig (h v s G H _ I B) λu s1 ⟨x,z,A,E,D⟩=>?_
 obtain ⟨i,rfl,q⟩:=D
 obtain ⟨t,rfl⟩:=E
 exact ⟨some i,z,A,.int i t,q⟩
def SlR (X:Cx) (r:V->0#m->0#m->Hp->VK->Prop):Prop:=
 ∀(pins:0#l) (s:bB) (σ:St) (H:Hp) (x:V) (v vl vu:bq) (lo hi:0#m) (sl:ah) (Q:VK),Inv X pins σ H s->RelV x v->s.heap.IsSliceOf sl vl vu .none->IsPart vl lo->IsPart vu hi->r x lo hi H Q ->
  ∃T id,typeLookup (.type T) "__getitem__"=pure (some (.builtin id))/\s.TypeIs v T/\bY 0#C X.A (getItem v (.ref sl)) (EP X pins σ Q) X.xe s
def tSl (r:V->0#m->0#m->Hp->VK->Prop) (te:TE) (tl th:TO):TE:=λσ H Q=>te σ H λx H1=>tl σ H1 λl H2=>th σ H2 λu H3=>r x l u H3 Q
def FP {X:Cx} {e:bz} {te:TE} {lo hi:Option bz} {tl th:TO} {pos p2:Pos} {r:V->0#m->0#m->Hp->VK->Prop} (hr:SlR X r) (he:PE X e te) (hl:PO X lo tl) (hu:PO X hi th):PE X (.Subscript e (.Slice lo hi none p2) pos) (tSl r te tl th):=by
 intro z s D H Q I h
 refine aab (ig (he z s D H _ I h) λv s1 ⟨x,L,N,r1,q1⟩=>?_)
 refine wpAny_Slice (ig (hl z s1 D L _ N q1) λE s2 ⟨l,M,O,pl,q2⟩=>ig (hu z s2 D M _ O q2) λG B ⟨u,J,R,pu,q3⟩=>?_)
 rw [adS]
 refine jW ?_
 have S:Inv X z D J { B with heap:=B.heap.push { cls:=.type "slice",data:=.fields #[E,G,.none] } }:=R.kept (t':=B.toks) λb ob q=>pM _ q
 obtain ⟨T,id,U,Z,Y⟩:=hr z { B with heap:=B.heap.push { cls:=.type "slice",data:=.fields #[E,G,.none] } } D J x v E G l u B.heap.objs.size Q S r1 (ajq ..) pl pu q3
 show bY 0#C X.A (subscriptTail e (.Slice lo hi none p2) v (.ref B.heap.objs.size)) (EP X z D Q) X.xe { B with heap:=B.heap.push { cls:=.type "slice",data:=.fields #[E,G,.none] } }
 exact tail_any (ops:=[.ref B.heap.objs.size,v]) Z U Y (by with_unfolding_all rfl)
noncomputable def lF (xs:0#n) (lo hi:0#m):0#n:=(xs.drop (HT.JD xs.length 0 lo)).take (HT.JD xs.length xs.length hi-HT.JD xs.length 0 lo)
def MS (xs:0#n) (lo hi:0#m):(lF xs lo hi).length<=xs.length:=by
 unfold lF
 rw [IM,mH]
 simp?
def Yd (K:bU):R2:=λx y H Q=>∃a b xs ys,x=.ref a/\y=.ref b/\qR K H a xs/\qR K H b ys/\xs≠[]/\xs.length+ys.length<=sizeLine /\
 (ys=[]->Q (.ref a) H)/\(ys≠[]->∀p,H p=none->Q (.ref p) (upd H p (.tup (xs++ys))))
def Vals.KL (r:Vals xs us):us=[]↔xs=[]:=by
 cases r with
 | nil=>simp
 | cons _ _=>simp
def abk:t6 X (pI .Add) (Yd X.K):=by
 intro pins s σ H x y v u Q I R S h
 obtain ⟨a,b,U,Y,rfl,rfl,E,G,J,D,N,O⟩:=h
 cases R
 cases S
 obtain ⟨its,B,L,_⟩:=I.tuple E
 obtain ⟨its2,A,M,_⟩:=I.tuple G
 refine HT.aap L M (λz=>J (B.KL.mp z)) (λz=>⟨.ref a,H,I,rfl,N (A.KL.mp z)⟩) (λz=>?_) (by rw [<- B.length,<- A.length];exact D)
 refine ⟨.ref s.heap.objs.size,_,I.laid (t':=s.toks) (o:=.tup (U++Y)) (λb ob q=>pM _ q) (gI _) ?_,rfl,O (λw=>z (A.KL.mpr w)) _ (I.hok.fresh (gI _))⟩
 exact ⟨by rw [jf];exact D,_,B.append A,aaf _ _⟩
noncomputable def Wa (n:Nat) (i:Int):Option Nat:=if 0<=i then (if i<n then some i.toNat else none) else if -(n:Int)<=i then some (i+n).toNat else none
noncomputable def uD {α:Type} (xs:List α) (i:Int):Option α:=(Wa xs.length i).bind λj=>xs[j]?
def S6 (h:Wa n i=some j):seqIndex? i n=some j/\j<n/\-(n:Int)<=i/\i<n:=by
 unfold Wa at h
 by_cases h0:0<=i
 ·rw [if_pos h0] at h
  by_cases h1:i<n
  ·rw [if_pos h1] at h
   have e:i.toNat=j:=uf h
   exact ⟨by rw [Z6 h0 h1,e],by simp?,by simp?,h1⟩
  ·rw [if_neg h1] at h;cases h
 ·rw [if_neg h0] at h
  by_cases h1:-(n:Int)<=i
  ·rw [if_pos h1] at h
   have e:(i+n).toNat=j:=uf h
   exact ⟨by rw [ZZ 0#z h1,e],by simp?,h1,by simp?⟩
  ·rw [if_neg h1] at h;cases h
def Su (h:uD xs i=some v):∃j,seqIndex? i xs.length=some j/\xs[j]?=some v/\j<xs.length/\-(xs.length:Int)<=i/\i<xs.length:=by
 unfold uD at h
 cases e:Wa xs.length i with
 | none=>rw [e] at h;cases h
 | some j=>
   rw [e] at h
   obtain ⟨u,z,A,B⟩:=S6 e
   exact ⟨j,u,h,z,A,B⟩
def iS {j:Nat} (h:xs[j]?=some v):uD xs (j:Int)=some v:=by
 have hj:j<xs.length:=(tP.mp h).1
 have e:Wa xs.length (j:Int)=some j:=by
  unfold Wa
  rw [if_pos 0#z,if_pos 0#z];simp
 unfold uD;rw [e];exact h
def So (b:bz):Prop:=∀o i,subscripted b false o i=operate [o,i] (getItem o i)
def IxR (X:Cx) (r:R2):Prop:=
 ∀(value slice:bz) (pins:0#l) (s:bB) (σ:St) (H:Hp) (x y:V) (v u:bq) (Q:VK),Inv X pins σ H s->RelV x v->RelV y u->r x y H Q ->
  subscripted slice false v u=operate [v,u] (getItem v u)->bY 0#C X.A (subscriptTail value slice v u) (EP X pins σ Q) X.xe s
def MtR (X:Cx) (id:String) (r:V->0#n->Hp->VK->Prop):Prop:=
 ∀(pins:0#l) (s:bB) (σ:St) (H:Hp) (x:V) (xs:0#n) (v:bq) (us:List bq) (Q:VK),Inv X pins σ H s->RelV x v->Vals xs us->r x xs H Q ->
  bY 0#C X.A (call (.builtin id) (v::us)) (EP X pins σ Q) X.xe s
section
variable {X:Cx} {a b:bz} {ta tb:TE} {pos:Pos}
def N3 {r:R2} (hr:IxR X r) (ha:PE X a ta) (hb:PE X b tb) (hs:So b):PE X (.Subscript a b pos) (YV r ta tb):=by
 intro z s J H Q I h
 exact aab (aeL ha hb I h λv u G x y A B D E q=>hr a b z G J A x y v u Q B D E q (hs _ _))
def abx (K:bU):R2:=λx y H Q=>∃p xs i v,x=.ref p/\y=.int i/\bS K H p xs/\uD xs i=some v/\Q v H
def Q7 (K:bU):R2:=λx y H Q=>∃p xs i v,x=.ref p/\y=.int i/\qR K H p xs/\uD xs i=some v/\Q v H
def aaY:IxR X (abx X.K):=by
 intro value slice A s O H x y v u Q I rx ry h N
 obtain ⟨p,xs,i,z,rfl,rfl,hq,Y,q⟩:=h
 cases rx
 obtain ⟨t,rfl⟩:=ry
 obtain ⟨G,r,J,hz⟩:=I.list hq
 obtain ⟨j,D,R,h3,S,U⟩:=Su Y
 obtain ⟨w,M,L⟩:=r.get R
 have Z:=r.length
 have hn:=KD
 have B:EP X A O Q w s:=⟨z,H,I,L,q⟩
 by_cases h0:0<=i
 ·have E:i.toNat=j:=by
   rw [Z6 h0 U] at D
   exact uf D
  exact item_listR J.isList h0 0#z (by rw [E];simpa using M) B N
 ·have E:(i+(G.toArray.size:Int)).toNat=j:=by
   rw [ZZ 0#z S] at D
   rw [kG,<- Z]
   exact uf D
  exact acC (x:=w) J.isList.typeIs ac8.lookup
   (wpAny_getItem_list_neg (Q:=λr s'=>r=w/\EP X A O Q r s') J.isList 0#z (by rw [kG] <;> simp?) 0#z (by rw [E];simpa using M) ⟨rfl,B⟩) N
def afy:IxR X (Q7 X.K):=by
 intro value slice A s G H x y v u Q I U Y h S
 obtain ⟨p,xs,i,z,rfl,rfl,R,N,q⟩:=h
 cases U
 obtain ⟨t,rfl⟩:=Y
 obtain ⟨its,r,E,hz⟩:=I.tuple R
 obtain ⟨j,L,M,h3,h4,h5⟩:=Su N
 obtain ⟨w,J,D⟩:=r.get M
 have O:=r.length
 have hn:=KD
 have B:EP X A G Q w s:=⟨z,H,I,D,q⟩
 exact acC (x:=w) E.typeIs slot_tuple_getitem.lookup
  (getItem_tuple (j:=j) (Q:=λr s'=>r=w/\EP X A G Q r s') E 0#z 0#z (by rw [kG,<- O];exact L) (by simpa using J) ⟨rfl,B⟩) S
def Qi (its:List bq) (n j:Nat) (u:bq):OV (·.setIfInBounds j u) { cls:=.type "list",data:=.seq its.toArray n }={ cls:=.type "list",data:=.seq (its.set j u).toArray n }:=by
 simp [OV]
def Inv.lst {pins:0#l} {σ:St} {H:Hp} {s:bB} {p:ah} {xs:0#n} (I:0#d) (h:H p=some (.lst xs)) :
 ∃(its:List bq) (n:Nat),Vals xs its/\s.heap.get? p=some { cls:=.type "list",data:=.seq its.toArray n }/\xs.length<=sizeLine:=by
 obtain ⟨z,its,n,r,e⟩:=I.hok p _ h
 exact ⟨its,n,r,e,z⟩
def Inv.afJ {σ:St} {its:List bq} (I:0#d) (h:H p=some (.lst xs))
 (ho:s.heap.get? p=some { cls:=.type "list",data:=.seq its.toArray n }) (hf:f { cls:=.type "list",data:=.seq its.toArray n }={ cls:=.type "list",data:=.seq its'.toArray n' }) (r:Vals ys its') (hz:ys.length<=sizeLine) (t:Nat) :
 Inv X pins σ (upd H p (.lst ys)) { s with heap:=s.heap.update p f,toks:=t }:=by
 have e:(s.heap.update p f).get? p=some { cls:=.type "list",data:=.seq its'.toArray n' }:=by
  rw [acJ f ho (by rw [hf] <;> rfl),hf]
 refine I.write (x:=p) (e:=p) (by rw [h];trivial) (.inl rfl) (λb u v q=>(Zj _ _ (jx v)).trans q) ⟨_,e⟩ ?_
 exact ⟨hz,its',n',r,e⟩
def acg:V->V->V->Hp->(Hp->Prop)->Prop:=λo i v H Q=>∃p xs k j,o=.ref p/\i=.int k/\H p=some (.lst xs)/\Wa xs.length k=some j/\Q (upd H p (.lst (xs.set j v)))
def set_list:aeE X acg:=by
 intro B s σ H o i v ov iv u Q I Y U Z h
 obtain ⟨p,xs,k,j,rfl,rfl,O,R,q⟩:=h
 cases Y
 obtain ⟨t,rfl⟩:=U
 obtain ⟨A,n,r,J,S⟩:=I.lst O
 obtain ⟨D,h2,M,N⟩:=S6 R
 have G:=r.length
 have hn:=KD
 have L:Inv X B σ (upd H p (.lst (xs.set j v))) { s with heap:=s.heap.update p (OV (·.setIfInBounds j u)) }:=
  I.afJ O J (Qi A n j u) (r.set Z j) (by rw [List.length_set];exact S) s.toks
 by_cases h0:0<=k
 ·have E:k.toNat=j:=by
   rw [Z6 h0 N] at D
   exact uf D
  exact PySem.W.ki_setAt J h0 0#z (by rw [kG,<- G];exact N) (by rw [E];exact ⟨_,L,q⟩)
 ·have E:(k+(A.toArray.size:Int)).toNat=j:=by
   rw [ZZ 0#z M] at D
   rw [kG,<- G]
   exact uf D
  exact PySem.W.ki_setBack J 0#z (by rw [kG,<- G];exact M) 0#z (by rw [E];exact ⟨_,L,q⟩)
def LN (lo hi:0#m) (n:Nat):(G7 lo hi none n).1=((HT.JD n 0 lo:Nat):Int)/\(G7 lo hi none n).2.1=((HT.JD n n hi:Nat):Int)/\(G7 lo hi none n).2.2=1:=by
 refine ⟨?_,?_,rfl⟩
 ·cases lo with
  | none=>simp [G7,HT.JD]
  | some i=>
    simp only [G7,HT.JD,adq,show (1:Int)>0 by decide,if_true]
    by_cases h:i<0
    ·simp only [h,if_true] <;> simp?
    ·simp only [h,if_false] <;> simp?
 ·cases hi with
  | none=>simp [G7,HT.JD]
  | some i=>
    simp only [G7,HT.JD,adq,show (1:Int)>0 by decide,if_true]
    by_cases h:i<0
    ·simp only [h,if_true] <;> simp?
    ·simp only [h,if_false] <;> simp?
def ID (its:List bq) (lo hi:0#m):slicePick its.toArray lo hi none=((its.drop (HT.JD its.length 0 lo)).take (HT.JD its.length its.length hi-HT.JD its.length 0 lo)).toArray:=by
 obtain ⟨u,v,z⟩:=LN lo hi its.toArray.size
 unfold slicePick
 rw [u,v,z]
 simp only [sliceRange_one,pick_run,kG] <;> rfl
def af1 (K:bU):V->0#m->0#m->Hp->VK->Prop:=λx lo hi H Q=>∃a xs,x=.ref a/\bS K H a xs/\∀p,H p=none->Q (.ref p) (upd H p (.lst (lF xs lo hi)))
def abK:SlR X (af1 X.K):=by
 intro pins s σ H x v vl vu A B sl Q I N E L M h
 obtain ⟨a,u,rfl,G,q⟩:=h
 cases N
 obtain ⟨its,r,D,J⟩:=I.list G
 have z:=r.length
 refine ⟨"list",_,ac8.lookup,D.isList.typeIs,?_⟩
 refine wpAny_getItem_list_slice D.isList E L M .none 0#w ?_ (by rw [kG] <;> simp?)
 rw [ID,<- z]
 refine ⟨.ref s.heap.objs.size,_,I.laid (t':=s.toks) (o:=.lst (lF u A B)) (λb ob q=>pM _ q) (gI _) ?_,rfl,q _ (I.hok.fresh (gI _))⟩
 exact ⟨g9 (MS u A B) J,_,0,(r.drop (HT.JD u.length 0 A)).take (HT.JD u.length u.length B-HT.JD u.length 0 A),IJ _ rfl⟩
noncomputable def Cf:V->Bool
 | .bM=>true
 | .bl _=>true
 | .int _=>true
 | .str _=>true
 | _=>false
noncomputable def WH:V->V->Bool
 | .bM,.bM=>true
 | .bl a,.bl b=>a==b
 | .bl a,.int b=>(if a then 1 else 0)==b
 | .int a,.bl b=>a==(if b then 1 else 0)
 | .int a,.int b=>a==b
 | .str a,.str b=>a==b
 | _,_=>false
def aeV (ry:RelV y u) (rx:RelV x v) (fy:Cf y=true) (fx:Cf x=true):aeo A s u v (WH y x):=by
 cases y with
 | bM=>
   cases ry
   cases x with
   | bM=>cases rx;exact ajx _
   | bl b=>cases rx;exact ajb b
   | int b=>obtain ⟨t,rfl⟩:=rx;exact ajg b t
   | str b=>obtain ⟨t,rfl⟩:=rx;exact ajh b t
   | _=>exact absurd (show false=true from fx) pJ
 | bl a=>
   cases ry
   cases x with
   | bM=>cases rx;exact ajc a
   | bl b=>cases rx;exact ajd a b
   | int b=>obtain ⟨t,rfl⟩:=rx;exact aji a b t
   | str b=>obtain ⟨t,rfl⟩:=rx;exact ajj a b t
   | _=>exact absurd (show false=true from fx) pJ
 | int a=>
   obtain ⟨z,rfl⟩:=ry
   cases x with
   | bM=>cases rx;exact ajk a z
   | bl b=>cases rx;exact ajl a z b
   | int b=>obtain ⟨t,rfl⟩:=rx;exact ajr a z b t
   | str b=>obtain ⟨t,rfl⟩:=rx;exact acX a z b t
   | _=>exact absurd (show false=true from fx) pJ
 | str a=>
   obtain ⟨z,rfl⟩:=ry
   cases x with
   | bM=>cases rx;exact ajm a z
   | bl b=>cases rx;exact ajn a z b
   | int b=>obtain ⟨t,rfl⟩:=rx;exact acY a z b t
   | str b=>obtain ⟨t,rfl⟩:=rx;exact ajs a z b t
   | _=>exact absurd (show false=true from fx) pJ
 | _=>exact absurd (show false=true from fy) pJ
noncomputable def Ph (x:V) (u:bq):Bool:=match u with
 | .none=>WH .bM x
 | .bool b=>WH (.bl b) x
 | .int i _=>WH (.int i) x
 | .str z _=>WH (.str z) x
 | _=>false
def WG (r:RelV y u) (f:Cf y=true):Ph x u=WH y x:=by
 cases y with
 | bM=>cases r;rfl
 | bl b=>cases r;rfl
 | int i=>obtain ⟨t,rfl⟩:=r;rfl
 | str z=>obtain ⟨t,rfl⟩:=r;rfl
 | _=>exact absurd (show false=true from f) pJ
def yO:∀{xs:0#n} {us:List bq},Vals xs us->xs.all Cf=true->us.any (Ph x)=xs.any λy=>WH y x
 | _,_,.nil,_=>rfl
 | y::xs,u::us,.cons r t,f=>by
   rw [JQ,ue] at f
   rw [JR,JR,WG r f.1,yO t f.2]
def uO (rx:RelV x v) (fx:Cf x=true):∀{xs:0#n} {us:List bq},Vals xs us->xs.all Cf=true->∀u∈us,aeo A s u v (Ph x u)
 | _,_,.nil,_=>λu hu=>by cases hu
 | y::xs,u::us,.cons r t,f=>λu' hu=>by
   rw [JQ,ue] at f
   rcases kM.mp hu with rfl | hu
   ·rw [WG r f.1];exact aeV r rx f.1 fx
   ·exact uO rx fx t f.2 u' hu
noncomputable def O1 (x:V) (xs:0#n):Bool:=xs.any λy=>WH y x
def rIn (K:bU) (neg:Bool):R2:=λx y H Q=>∃p xs,y=.ref p/\(bS K H p xs\/qR K H p xs)/\Cf x=true/\xs.all Cf=true/\Q (.bl (if neg then !O1 x xs else O1 x xs)) H
def VG:t6 X (pP .In) (rIn X.K false):=by
 intro pins s σ H x y v u Q I E J h
 obtain ⟨p,xs,rfl,A,fx,fs,q⟩:=h
 cases J
 rcases A with A | A
 ·obtain ⟨z,r,D,G⟩:=I.list A
  refine SeqAt.in_listAt (Ph x) D.isList (λw B=>uO E fx r fs w (by simpa using B)) ⟨.bl _,H,I,rfl,?_⟩
  rw [show z.toArray.any (Ph x)=z.any (Ph x) by simp,yO r fs]
  exact q
 ·obtain ⟨z,r,D,G⟩:=I.tuple A
  refine SeqAt.in_tupleAt (Ph x) D (λw B=>uO E fx r fs w (by simpa using B)) ⟨.bl _,H,I,rfl,?_⟩
  rw [show z.toArray.any (Ph x)=z.any (Ph x) by simp,yO r fs]
  exact q
def K6:t6 X (pP .NotIn) (rIn X.K true):=by
 intro pins s σ H x y v u Q I E J h
 obtain ⟨p,xs,rfl,A,fx,fs,q⟩:=h
 cases J
 rcases A with A | A
 ·obtain ⟨z,r,D,G⟩:=I.list A
  refine SeqAt.notIn_listAt (Ph x) D.isList (λw B=>uO E fx r fs w (by simpa using B)) ⟨.bl _,H,I,rfl,?_⟩
  rw [show z.toArray.any (Ph x)=z.any (Ph x) by simp,yO r fs]
  exact q
 ·obtain ⟨z,r,D,G⟩:=I.tuple A
  refine SeqAt.notIn_tupleAt (Ph x) D (λw B=>uO E fx r fs w (by simpa using B)) ⟨.bl _,H,I,rfl,?_⟩
  rw [show z.toArray.any (Ph x)=z.any (Ph x) by simp,yO r fs]
  exact q
def J7:jG X (.builtin "len") (λxs H Q=>∃p ys,xs=[.ref p]/\(bS X.K H p ys\/qR X.K H p ys)/\Q (.int ys.length) H):=by
 intro pins s σ H xs us Q I r h
 obtain ⟨p,ys,rfl,z,q⟩:=h
 obtain ⟨u,rfl,G⟩:=vals1 r
 cases G
 have hn:=KD
 rcases z with z | z
 ·obtain ⟨A,D,B,E⟩:=I.list z
  have v:=D.length
  exact Calls.call_len_list B.isList (by simp only [kG] <;> simp?) ⟨.int ys.length,H,I.tok _,⟨s.toks+1,by rw [kG,v]⟩,q⟩
 ·obtain ⟨A,D,B,E⟩:=I.tuple z
  have v:=D.length
  exact len_tuple B (by simp only [kG] <;> simp?) ⟨.int ys.length,H,I.tok _,⟨s.toks+1,by rw [kG,v]⟩,q⟩
def yQ:jG X (.type "list") (λxs H Q=>∃p ys,xs=[.ref p]/\(bS X.K H p ys\/qR X.K H p ys)/\∀l,H l=none->Q (.ref l) (upd H l (.lst ys))):=by
 intro M s Y H xs us Q I r h
 obtain ⟨p,ys,rfl,G,q⟩:=h
 obtain ⟨u,rfl,U⟩:=vals1 r
 cases U
 have D:∀(v:List bq),Vals ys v->ys.length<=sizeLine->∀(z:cH) (A:Nat),(∀b o',s.heap.get? b=some o'->z.get? b=some o') ->
  z.get? s.heap.objs.size=some { cls:=.type "list",dict:=none,data:=.seq v.toArray A,slots:=#[] }->EP X M Y Q (.ref s.heap.objs.size) { s with heap:=z }:=λv B J z A L e=>
  ⟨.ref s.heap.objs.size,_,I.laid (t':=s.toks) L (gI _) (show d7 X.prog X.w _ z _ (.lst ys) from ⟨J,v,A,B,e⟩),rfl,q _ (I.hok.fresh (gI _))⟩
 rcases G with G | G
 ·obtain ⟨v,B,S,J⟩:=I.list G
  have E:=B.length
  obtain ⟨o,R,N,n,O⟩:=S.isList
  exact adT p (.inl rfl) R N O (λz A L e=>D v B J z A L e) (by simp only [kG] <;> simp?)
 ·obtain ⟨v,B,S,J⟩:=I.tuple G
  have E:=B.length
  obtain ⟨o,R,N,n,O⟩:=S
  exact adT p (.inr rfl) R N O (λz A L e=>D v B J z A L e) (by simp only [kG] <;> simp?)
def HA:jG X (.type "tuple") (λxs H Q=>∃p ys,xs=[.ref p]/\((bS X.K H p ys/\∀l,H l=none->Q (.ref l) (upd H l (.tup ys)))\/(qR X.K H p ys/\Q (.ref p) H))):=by
 intro v s L H xs us Q I r h
 obtain ⟨p,ys,rfl,h⟩:=h
 obtain ⟨u,rfl,O⟩:=vals1 r
 cases O
 rcases h with ⟨B,q⟩ | ⟨B,q⟩
 ·obtain ⟨z,E,D,J⟩:=I.list B
  have hlen:=E.length
  refine call_tuple_list D.isList (λA N=>?_) (by simp only [kG] <;> simp?)
  have G:Inv X v L H { s with heap:=A }:=I.kept (t':=s.toks) N
  have M:Inv X v L (upd H A.objs.size (.tup ys)) { s with heap:=A.push { cls:=.type "tuple",data:=.seq z.toArray } }:=
   G.laid (t':=s.toks) (λb o e=>pM _ e) (gI _) (show d7 X.prog X.w _ _ _ (.tup ys) from ⟨J,z,E,aaf _ _⟩)
  exact ⟨.ref A.objs.size,_,M,rfl,q _ (G.hok.fresh (gI _))⟩
 ·obtain ⟨z,E,D,J⟩:=I.tuple B
  exact call_tuple_same D ⟨.ref p,H,I,rfl,q⟩
def tyV (K:bU) (T:String) (x:V) (H:Hp):Prop:=match x with
 | .str _=>T = "str"
 | .int _=>T = "int"
 | .ref p=>(T = "list"/\∃xs,bS K H p xs)\/(T = "tuple"/\∃o,K.lookup p=some o/\o.cls=.type "tuple"/\o.dict=none) \/
  (T = "dict"/\((∃kvs,H p=some (.dK kvs))\/∃kvs,H p=some (.dT kvs)))\/(T = "set"/\∃S n,H p=some (.set S n))
 | _=>False
def Y3 {σ:St} (I:0#d) (r:RelV x v) (ty:tyV X.K T x H) :
 s.TypeIs v T/\∀a,v=.ref a->∃ob,s.heap.get? a=some ob/\ob.dict=none:=by
 cases x with
 | str z=>
   obtain ⟨t,rfl⟩:=r
   cases (show T = "str" from ty)
   exact ⟨typeIs_str s z t,λ_ e=>nomatch e⟩
 | int i=>
   obtain ⟨t,rfl⟩:=r
   cases (show T = "int" from ty)
   exact ⟨aac s i t,λ_ e=>nomatch e⟩
 | ref p=>
   cases r
   rcases ty with ⟨rfl,xs,J⟩ | ⟨rfl,o,u,G,B⟩ | ⟨rfl,u⟩ | ⟨rfl,S,n,u⟩
   ·obtain ⟨its,_,E,_⟩:=I.list J
    refine ⟨E.isList.typeIs,λa e=>?_⟩
    cases e
    obtain ⟨o,n,e,c,B,_⟩:=E
    exact ⟨o,e,B⟩
   ·refine ⟨⟨o,I.yL p o u,G⟩,λa e=>?_⟩
    cases e
    exact ⟨o,I.yL _ o u,B⟩
   ·have z:∃o,s.heap.get? p=some o/\o.ExactDict:=by
     rcases u with ⟨D,u⟩ | ⟨D,u⟩
     ·obtain ⟨_,_,_,_,o,_,_,e,A,_⟩:=I.hok p _ u
      exact ⟨o,e,A⟩
     ·obtain ⟨_,_,_,_,o,_,_,e,A,_⟩:=I.hok p _ u
      exact ⟨o,e,A⟩
    obtain ⟨o,e,A⟩:=z
    refine ⟨⟨o,e,A.1⟩,λa e2=>?_⟩
    cases e2
    exact ⟨o,e,A.2.1⟩
   ·obtain ⟨o,_,_,_,e,A,_⟩:=I.hok p _ u
    refine ⟨⟨o,e,A.1⟩,λa e2=>?_⟩
    cases e2
    exact ⟨o,e,A.2.1⟩
 | _=>exact rR ty
def akK (K:bU) (T:String) (r:V->0#n->Hp->VK->Prop) (to:TE):TE:=λσ H Q=>to σ H λx H1=>tyV K T x H1/\r x [] H1 Q
def tBM (K:bU) (T:String) (r:V->0#n->Hp->VK->Prop) (to:TE) (t:TA):TE:=λσ H Q=>to σ H λx H1=>tyV K T x H1/\t σ H1 λxs H2=>r x xs H2 Q
variable {o e:bz} {es:List bz} {to:TE} {t:TA} {name:Str} {apos cpos:Pos} {T id:String} {r:V->0#n->Hp->VK->Prop}
def XZ (pa:PlainAttrs T) (slot:Slot T name id) (hty:typeOf (.builtin id)=pure (.type "method_descriptor")) (hm:MtR X id r) (ho:PE X o to)
 (hbase:wF o name X.env (eval o X.env)=eval o X.env:=by rfl) (hline:0#q:=by rfl):PE X (.Call (.Attribute o name apos) [] [] cpos) (akK X.K T r to):=by
 intro u s B H Q I h
 refine wpAny_Call_method0_late hbase hline (ig (ho u s B H _ I h) λv L N=>?_)
 obtain ⟨x,D,z,A,M,J⟩:=N
 obtain ⟨E,G⟩:=Y3 z A M
 exact ⟨T,id,pa,slot,hty,E,G,T8 rfl (PySem.evalArgs_none (hm u L B D x [] v [] Q z A .nil J))⟩
def XY (pa:PlainAttrs T) (slot:Slot T name id) (hty:typeOf (.builtin id)=pure (.type "method_descriptor")) (hm:MtR X id r) (ho:PE X o to) (ha:PA X (e::es) t)
 (hbase:wF o name X.env (eval o X.env)=eval o X.env:=by rfl)
 (hfew:((gc cpos (dg (e::es) X.env)).all (λx=>!x.1)&&(qe cpos (qd [] X.env)).all (λx=>x.1.isSome)
   && decide ((e::es).length+([]:List nN).length+(if ([]:List nN).isEmpty then 0 else 1)<30))=true:=by rfl)
 (hline:0#q:=by rfl) (hs:0#f:=by rfl) (hplain:(gc cpos (dg es X.env)).any (·.1)=false:=by rfl) :
 PE X (.Call (.Attribute o name apos) (e::es) [] cpos) (tBM X.K T r to t):=by
 intro u s z H Q I h
 refine wpAny_Call_method_late hbase hfew hline rfl (ig (ho u s z H _ I h) λv S zz=>?_)
 obtain ⟨x,E,A,D,Y,N⟩:=zz
 obtain ⟨L,M⟩:=Y3 A D Y
 refine ⟨T,id,pa,slot,hty,L,M,?_⟩
 have B:=ha cpos u S z E _ A N
 rw [hs] at B ⊢
 refine T8 (by show (false||(gc cpos (dg es X.env)).any (·.1))=false;rw [hplain] <;> rfl) (Ug ?_)
 exact ig B λZ U ⟨vs,G,J,R,O⟩=>hm u U z G x vs v Z Q J D R O
/- xs.append(e),list.index on a module's tuple .. are MtR facts of 06m -/
end
def MtM (X:Cx) (id:String) (r:V->0#n->Hp->VK->Prop):Prop:=
 ∀(pins:0#l) (s:bB) (σ:St) (H:Hp) (x:V) (xs:0#n) (v:bq) (us:List bq) (Q:VK),Inv X pins σ H s->RelV x v->Vals xs us->r x xs H Q ->
  bY 0#C X.A (call (.builtin id) (v::us)) (EP X pins σ Q) X.xe s
def Vals.one:∀{x:V} {us:List bq},Vals [x] us->∃u,us=[u]/\RelV x u
 | _,_,.cons r .nil=>⟨_,rfl,r⟩
def Vals.zero:∀{us:List bq},Vals [] us->us=[]
 | _,.nil=>rfl
def Vals.reverse (h:Vals xs us):Vals xs.reverse us.reverse:=by
 induction h with
 | nil=>exact .nil
 | cons r t ih=>rw [ac9,ac9];exact Vals.append ih (.cons r .nil)
def Vals.rep (h:Vals xs us):∀k:Nat,Vals (ow k xs).flatten (ow k us).flatten
 | 0=>.nil
 | k+1=>by
   rw [Ow,Ow,OE,OE]
   exact Vals.append h (Vals.rep h k)
def foldl_rep (its:List bq):∀(k:Nat) (acc:List bq),
 aad (λx1 x2=>x1++x2) acc.toArray (ow k its.toArray)=(acc++(ow k its).flatten).toArray
 | 0,acc=>by simp
 | k+1,acc=>by
   have e:acc.toArray++its.toArray=(acc++its).toArray:=by simp
   have e2:(acc++its)++(ow k its).flatten=acc++(ow (k+1) its).flatten:=by
    rw [Ow,OE,List.append_assoc]
   rw [<- e2,<- foldl_rep its k (acc++its),<- e,Ow,List.foldl_cons]
def Inv.afI {σ:St} {its:List bq} (I:0#d) (hH:H l=some (.lst xs))
 (e:s.heap.get? l=some { cls:=.type "list",data:=.seq its.toArray n }) (hf:f its.toArray=its'.toArray) (hv:Vals ys its') (hz:ys.length<=sizeLine) :
 Inv X pins σ (upd H l (.lst ys)) { s with heap:=s.heap.update l (OV f),toks:=t' }:=by
 have q:=PySem.IsL.update e f
 rw [hf] at q
 refine I.write (x:=l) (e:=l) (by rw [hH];exact trivial) (.inl rfl) (λb' u v z=>(Zj s.heap (OV f) (jx v)).trans z) ⟨_,q⟩ ?_
 exact ⟨hz,its',_,hv,q⟩
def Inv.afF {σ:St} (I:0#d) (hv:Vals ys its) (hz:ys.length<=sizeLine) :
 Inv X pins σ (upd H s.heap.objs.size (.lst ys)) { s with heap:=s.heap.push { cls:=.type "list",data:=.seq its.toArray },toks:=t' }:=
 I.laid (λ_ _ q=>pM _ q) (gI _) ⟨hz,its,0,hv,IJ _ rfl⟩
def Inv.fresh {σ:St} (I:0#d):H s.heap.objs.size=none:=I.hok.fresh (gI _)
def Inv.NB {σ:St} (I:0#d) (hH:H l=some (.lst xs)):xs.length<=sizeLine/\∃(its:List bq) (n:Nat),Vals xs its/\xs.length=its.length/\s.heap.get? l=some { cls:=.type "list",data:=.seq its.toArray n }:=by
 obtain ⟨z,its,n,r,e⟩:=I.hok l _ hH
 exact ⟨z,its,n,r,r.length,e⟩
def NJ (h:n<=sizeLine):T4 n=false:=by
 unfold T4
 exact mJ 0#z
def zQ:V->0#n->Hp->VK->Prop:=λx vs H Q=>∃l xs y,x=.ref l/\vs=[y]/\H l=some (.lst xs)/\xs.length<sizeLine/\Q .bM (upd H l (.lst (xs++[y])))
def Jp:MtM X "list.append" zQ:=by
 intro pins s σ H x vs v us Q I G E h
 obtain ⟨l,xs,y,rfl,rfl,B,hz,q⟩:=h
 cases G
 obtain ⟨u,rfl,D⟩:=E.one
 obtain ⟨z,A,n,r,hl,e⟩:=I.NB B
 refine JV F.slot_list_append ⟨_,e,rfl⟩ F.entry_list_append (F.args_list_append_2 _ _) (PySem.list_append l A.toArray n u (by rw [kG];simp?)) ⟨e,?_⟩
 refine ⟨.bM,_,I.afI (its':=A++[u]) B e 0#w (r.append (.cons D .nil)) ?_,rfl,q⟩
 rw [jf,JH]
 simp?
def DY:V->0#n->Hp->VK->Prop:=λx vs H Q=>∃l b xs zs,x=.ref l/\vs=[.ref b]/\H l=some (.lst xs)/\H b=some (.lst zs)/\xs.length+zs.length<=sizeLine/\Q .bM (upd H l (.lst (xs++zs)))
def Vy:MtM X "list.extend" DY:=by
 intro pins s σ H x vs v us Q I R O h
 obtain ⟨l,b,xs,zs,rfl,rfl,E,J,hz,q⟩:=h
 cases R
 obtain ⟨u,rfl,N⟩:=O.one
 cases N
 obtain ⟨z,B,n,r,hl,e⟩:=I.NB E
 obtain ⟨z2,A,L,M,hl2,e2⟩:=I.NB J
 have D:B.toArray.size+A.toArray.size<=sizeLine:=by rw [kG,kG];simp?
 have G:¬(!B.toArray.isEmpty&&T4 (B.toArray.size+A.toArray.size))=true:=by
  rw [NJ D,adJ]
  exact pJ
 refine JV F.slot_list_extend ⟨_,e,rfl⟩ F.entry_list_extend (F.args_list_extend_2 _ _)
  (AutoSeq1.list_extend_list_list_0 l B.toArray n b A.toArray L G (by rw [kG];simp?) 0#z) ⟨e,e2,?_⟩
 refine ⟨.bM,_,I.afI (its':=B++A) E e 0#w (r.append M) ?_,rfl,q⟩
 rw [jf]
 simp?
def zR:V->0#n->Hp->VK->Prop:=λx vs H Q=>∃l xs,x=.ref l/\vs=[]/\H l=some (.lst xs)/\Q .bM (upd H l (.lst xs.reverse))
def Qm:MtM X "list.reverse" zR:=by
 intro pins s σ H x vs v us Q I E D h
 obtain ⟨l,xs,rfl,rfl,B,q⟩:=h
 cases E
 have A:=D.zero
 subst A
 obtain ⟨z,u,n,r,hl,e⟩:=I.NB B
 refine JV F.slot_list_reverse ⟨_,e,rfl⟩ F.entry_list_reverse (F.args_list_reverse_1 _) (AutoSeq1.list_reverse_list_0 l u.toArray n (by rw [kG];simp?)) ⟨e,?_⟩
 refine ⟨.bM,_,I.afI (its':=u.reverse) B e 0#w r.reverse ?_,rfl,q⟩
 rw [List.length_reverse]
 simp?
def ahY:R2:=λx y H Q=>∃l b xs zs,x=.ref l/\y=.ref b/\H l=some (.lst xs)/\H b=some (.lst zs)/\xs.length+zs.length<=sizeLine/\∀p,H p=none->Q (.ref p) (upd H p (.lst (xs++zs)))
def Bq:t6 X (pI .Add) ahY:=by
 intro pins s σ H x y v u Q I L M h
 obtain ⟨l,b,xs,zs,rfl,rfl,G,E,hz,q⟩:=h
 cases L
 cases M
 obtain ⟨z,B,n,r,hl,e⟩:=I.NB G
 obtain ⟨z2,A,n2,J,hl2,e2⟩:=I.NB E
 refine PySem.P.add_list e e2 ?_ (by rw [kG,kG];simp?)
 have D:B.toArray++A.toArray=(B++A).toArray:=by simp
 rw [D]
 exact ⟨.ref _,_,I.afF (t':=s.toks) (r.append J) (by rw [jf];simp?),rfl,q _ I.fresh⟩
def ah4:R2:=λx y H Q=>∃l k xs,x=.ref l/\y=.int k/\H l=some (.lst xs)/\-(2 ^ 63)<=k/\k<2 ^ 63/\xs.length*k.toNat<=sizeLine /\
 ∀p,H p=none->Q (.ref p) (upd H p (.lst (ow k.toNat xs).flatten))
def len_rep {α:Type} (xs:List α) (k:Nat):(ow k xs).flatten.length=k*xs.length:=by
 induction k with
 | zero=>simp
 | succ k ih=>rw [Ow,OE,jf,ih,Nat.succ_mul,JT]
def afS:t6 X (pI .Mult) ah4:=by
 intro pins s σ H x y v u Q I rx ry h
 obtain ⟨l,k,xs,rfl,rfl,Y,R,S,M,q⟩:=h
 cases rx
 obtain ⟨t,rfl⟩:=ry
 obtain ⟨z,A,n,r,Z,e⟩:=I.NB Y
 have E:A.toArray.size*k.toNat<=sizeLine:=by rw [kG,<- Z];exact M
 have B:¬A.toArray.size*k.toNat>(2 ^ 63-1)/8:=by
  have:(sizeLine:Nat)<=(2 ^ 63-1)/8:=by decide
  simp?
 have D:¬(!Builtin.List.listFitsIndex k)=true:=by
  rw [fitsIndex_both R S]
  exact pJ
 have N:¬T4 (A.toArray.size*k.toNat)=true:=by
  rw [NJ E]
  exact pJ
 have G:aad (λJ L=>J++L) #[] (ow (if A.toArray.isEmpty=true then 0 else k.toNat) A.toArray)=(ow k.toNat A).flatten.toArray:=by
  have O:∀m:Nat,aad (λJ L=>J++L) #[] (ow m A.toArray)=(ow m A).flatten.toArray:=λm=>by
   have:=foldl_rep A m []
   rw [adz] at this
   exact this
  rw [O]
  cases A with
  | nil=>simp
  | cons a r'=>rw [if_neg 0#w]
 refine wpAny_binaryOp_repeat_ref (T := "list") (U := "int") 0#y ⟨_,e,rfl⟩ (λs'=>aac s' k t) noFill_list_mul F.fills_int_mul F.slot_int_rmul repeat_list F.slot_int_index.lookup
  (JV F.slot_int_rmul (aac s k t) F.entry_int_rmul (F.args_int_rmul_2 _ _) (int___rmul___int_list k t l A.toArray n)
    ⟨e,rfl,⟨_,e,rfl⟩,JV F.slot_list_mul ⟨_,e,rfl⟩ F.entry_list_mul (F.args_list_mul_2 _ _) (AutoListH.list___mul___list_int_3 l A.toArray n k t D B N) ⟨e,?_⟩⟩)
 rw [G]
 exact ⟨.ref _,_,I.afF (t':=s.toks) (r.rep k.toNat) (by rw [len_rep,ad1];exact M),rfl,q _ I.fresh⟩
end L2
namespace Att
open PySem PySem.W PySem.Calls PyProof.Rows
def C8:∀(ns:List Int) (vs:List bq),WellAll P h vs (ns.map WData.int)->Aw vs ns:=by
 intro ns
 induction ns with
 | nil=>
   intro vs w
   rw [UC] at w
   cases w
   exact .nil
 | cons n ns ih=>
   intro vs w
   rw [uh] at w
   cases w with
   | cons a b=>
     cases a
     exact .cons _ _ (ih _ b)
def VO {l:OpenLaw} (hn:l.most=some n) 
 (hpre:l.row.toRowW.claim.pre args=true) (hwl:WellAll P h vals args) :
 ∃a vs ns,vals=[Value.ref a]/\args=[WData.list (ns.map WData.int)]/\h.get? a=some { cls:=.type "list",data:=.seq vs.toArray }/\Aw vs ns/\ns.length<=n:=by
 have A:WShape.hasAll [] args [.list .int]=true:=(pre_splitW hpre).1
 have B:l.pre.holds [] { args:=args }=true:=(pre_splitW hpre).2
 obtain ⟨d,r,rfl,D,E⟩:=hasAllW_cons A
 obtain rfl:=hasAllW_nil E
 obtain ⟨xs,rfl,G⟩:=hasW_list D
 obtain ⟨ns,rfl⟩:=items_int G
 have u:ns.length<=n:=by
  unfold OpenLaw.pre at B
  have v:(WTm.not (.lt (.lit (.int (n:Int))) (.len (.arg 0)))).holds [] { args:=[.list (ns.map .int)] }=true:=by
   have v:=(holds_andW B).1
   rw [hn] at v
   exact v
  have z:=condW_of v (w_not (w_lt w_lit (w_len_list (w_arg rfl))))
  rw [iI] at z
  refine Nat.le_of_not_lt λq=>?_
  have I:(n:Int)<((ns.length:Nat):Int):=by simp?
  first
   | (rw [jN I] at z;exact absurd z (by decide))
   | (simp at z;omega)
 cases hwl with
 | cons w1 w2=>
   cases w2
   cases w1 with
   | list ho hall=>exact ⟨_,_,ns,rfl,rfl,ho,C8 ns _ hall,u⟩
def VJ (l:OpenLaw) (args:List WData):l.row.toRowW.claim.post args (.bool true) args=true:=
 postW_of (r:=l.row.toRowW) (X:=(true==true))
  (show aep [] (.bool true) .bool=true by first | rfl | decide | simp [aep,WShape.arms,WShape.armsAll])
  (show (WTm.eq .res (.lit (.bool true))).value [] { args:=args,res:=some (.bool true),after:=args }=some (.bool (true==true)) from w_eq_bool (w_res rfl) w_lit) rfl
def MK {l:OpenLaw}
 (hn:l.most=some n) (hdf:d.params.defaults=[])
 (call:∀(w:dO) (s₀ s₁:bB) (mg mb:0#g) (fa:ah) (o:Obj) (pm cd doc:bq) (a:ah) (vs:List bq) (ns:List Int),
   Ground q loose [] XP w s₀ mg mb s₁.heap->YP w s₁.heap ->
   s₁.heap.get? fa=some o->o.data=.func (docDef d.name d.params d.body d.scope pm cd doc)->s₁.heap.CodeRec cd d.name->mg d.name=some (.ref fa) ->
   s₁.heap.get? a=some { cls:=.type "list",data:=.seq vs.toArray }->Aw vs ns->ns.length<=n->s₁.gens=#[] ->
   Av (model l.prog w) Hf (.call (.ref fa) ⟨[.ref a],[]⟩) (λr s'=>r=.ok (.ret (.bool true))/\OldK s₁.heap s'.heap/\s'.os=s₁.os/\xx s'.gens) s₁) :
 WalkO q loose XP YP l.row.toRowW d [] (λf vs=>aae f vs):=by
 intro w s₀ s₁ mg mb G Y fa o pm cd doc J kV S O B I D Q args vals as A hlay hrd E hlo
 obtain rfl:J=.none:=Dflts.none I hdf
 obtain rfl:kV=.none:=Dflts.noKw I
 obtain ⟨a,vs,ns,rfl,rfl,z,u,v⟩:=VO hn A E
 refine enter_call (JS (call w s₀ s₁ mg mb fa o pm cd doc a vs ns G Y S (fd_plain O) B D z u v Q) λr s' U=>?_)
 obtain ⟨rfl,L,M,N⟩:=U
 exact ⟨.inl ⟨.bool true,.bool true,[],rfl,λ_=>rfl,.bool true,VJ l _,λ_=>⟨List.Pairwise.nil,λ_ R=>(nomatch R)⟩⟩,L,M,N⟩
end Att
namespace L2
open PySem PySem.Spec PyProof.Rows
def rP:∀{vs:List bq} {ns:List Int},Aw vs ns->Vals 1#i vs
 | _,_,.nil=>.nil
 | _,_,.cons n t h=>.cons ⟨t,rfl⟩ (rP h)
def aeD (H:Hp):Prop:=∀b,H b=none\/∃o xs,H b=some (.Po o (.lst xs))
def Xl {K:bU}
 (KX:K.In s₁.heap) (hns:s₁.heap.Ns dJ mg) (hb:s₁.heap.Ns builtinsNs mb) (hbb:∀x:Str,x ≠ "__name__"->mb x=wZ x) (hlim:s₁.heap.NoLimit) (hg:s₁.gens=#[])
 (ha:s₁.heap.get? a=some { cls:=.type "list",data:=.seq vs.toArray }) (hi:Aw vs ns) (hl:ns.length<=sizeLine) (hr:gM k Hf)
 (F:∀base:cH,K.In base->base.Ns dJ mg->0#s CX k fa fd [x] sp) (hbind:∀(s:bB) (u:bq),G9 s fd ⟨[u],[]⟩ [(x,u)])
 (hsp:∀H:Hp,aeD H->bS K H a 1#i->sp [.ref a] H (λv _=>v=.bl true) λ_ _ _=>False)
 (hCX:∀H e s',CX [] H s₁ (λ_ _ _=>False) e s'->False) :
 Av (model P w) Hf (.call (.ref fa) ⟨[.ref a],[]⟩) (λr s'=>r=.ok (.ret (.bool true))/\OldK s₁.heap s'.heap/\s'.os=s₁.os/\xx s'.gens) s₁:=by
 have U:=rP hi
 have M:=hi.length
  -- from an abstract heap in which nothing but the script may be tracked
 have B:∀H:Hp,aeD H->bS K H a 1#i->tZ P w H s₁.heap->(∀b,H b≠none->b=a)->(H a≠none->K.lookup a=none) ->
  Av (model P w) Hf (.call (.ref fa) ⟨[.ref a],[]⟩) (λr s'=>r=.ok (.ret (.bool true))/\OldK s₁.heap s'.heap/\s'.os=s₁.os/\xx s'.gens) s₁:=by
  intro H S hS I R hK
  have Q:∀{b:ah} {o:Obj},s₁.heap.get? b=some o->H b=none->(Ku s₁.heap H).get? b=some o:=λe n=>W4 e n
  have O:∀{b:ah} {o:Obj} {es:Array DictEntry} {E:Nat},s₁.heap.get? b=some o->o.data=.dict es E->H b=none:=λ{b o es E} e d=>by
   cases q:H b with
   | none=>rfl
   | some u=>
     have N:b=a:=R b (by rw [q];simp)
     subst N
     rw [ha] at e;cases e
     have Y:Data.seq vs.toArray _=Data.dict es E:=d
     cases Y
  have A:∀{b:ah} {m:0#g},s₁.heap.Ns b m->(Ku s₁.heap H).Ns b m:=λ{b m} ⟨o,es,E,e,d,r⟩=>⟨o,es,E,Q e (O e d),d,r⟩
  have G:K.In (Ku s₁.heap H):=λb o e=>Q (KX b o e) (by
   cases q:H b with
   | none=>rfl
   | some u=>
     have N:b=a:=R b (by rw [q];simp)
     subst N
     rw [hK (by rw [q];simp)] at e;cases e)
  have hM:Mod K mg (Ku s₁.heap H):=⟨G,A hns,⟨mb,A hb,hbb⟩,let ⟨mc,h1,h2⟩:=hlim;⟨mc,A h1,h2⟩⟩
  have Z:J3 P w K mg (Ku s₁.heap H) Hf [] s₁ H:=⟨rfl,hM,λb o e=>abc e,ZW (Vi _ _),trivial,λb hb=>absurd (show b∈([]:List ah) from hb) 0#w,I,.of_eq hg⟩
  refine JS ((F _ G (A hns)).run Hf [] s₁ H ⟨[.ref a],[]⟩ [.ref a] [.ref a] _ _ hr Z (hbind s₁ (.ref a)) (.cons rfl .nil) (hsp H S hS)) λr s' h=>?_
  cases r with
  | error e=>exact (hCX H e s' h).elim
  | ok fl=>
    cases fl with
    | next=>exact rR h
    | brk=>exact rR h
    | cont=>exact rR h
    | ret u=>
      obtain ⟨v,H',os,D,un,L,r',q⟩:=h
      have q':v=.bl true:=q
      subst q'
      obtain rfl:u=Value.bool true:=r'
      refine ⟨rfl,OldK.of_keep λb o e=>?_,os,D⟩
      cases q:H b with
      | none=>exact un.keep b o e q (by intro z;exact absurd (show b∈([]:List ah) from z) 0#w) 0#w
      | some u=>
        rcases S b with z | ⟨ob,xs,z⟩
        ·rw [q] at z;cases z
        ·have z2:=un.EH b ob _ z
         obtain ⟨e1,_⟩:=I b _ z
         obtain ⟨e2,_⟩:=L b _ z2
         rw [e] at e1;cases e1
         exact e2
 cases hk:K.lookup a with
 | some o=>
    -- the script is one of the module's own objects
   have e:=KX a o hk
   rw [ha] at e
   cases e
   refine B (λ_=>none) (λ_=>.inl rfl) (.inr ⟨_,vs.toArray,_,hk,rfl,rfl,rfl,by rw [kG,M];exact hl,by simpa using U⟩) (λb u z=>by have J:(none:Option HO)=some u:=z;cases J) (λb z=>absurd rfl z) λz=>absurd rfl z
 | none=>
   refine B (λb=>if b=a then some (.Po { cls:=.type "list",data:=.seq vs.toArray } (.lst 1#i)) else none) (λb=>?_) (.inl (.inr ⟨{ cls:=.type "list",data:=.seq vs.toArray },if_pos rfl⟩)) (λb u z=>?_) (λb z=>?_) λ_=>hk
   ·by_cases hb:b=a
    ·exact .inr ⟨_,_,if_pos hb⟩
    ·exact .inl (if_neg hb)
   ·by_cases hb:b=a
    ·have J:=(if_pos hb).symm.trans z
     cases J
     subst hb
     exact ⟨ha,by rw [iI];exact hl,vs,_,U,ha⟩
    ·have J:=(if_neg hb).symm.trans z
     cases J
   ·by_cases hb:b=a
    ·exact hb
    ·exact absurd (if_neg hb) z
def abN {l:ZI} {n k:Nat} {q:fT} {XP:(Str->Option bq)->cH->Prop} {YP:dO->cH->Prop} {d:DefRec} {K:Params->bU} {CX:dO->CXT} {sp:dO->Sp} {x:Str}
 (hn:l.most=some n) (hn2:n<=sizeLine) (hdf:d.params.defaults=[]) (hr:gM k Hf)
 (hY:∀(w:dO) (h:cH),YP w h->(K w.params).In h)
 (F:∀(w:dO) (mg:0#g) (fa:ah) (h:cH),(K w.params).In h->h.Ns dJ mg->mg d.name=some (.ref fa) ->
   ∃fd:ia,(∀(s:bB) (u:bq),G9 s fd ⟨[u],[]⟩ [(x,u)]) /\
    ∀base:cH,(K w.params).In base->base.Ns dJ mg->bf l.prog w (K w.params) mg base (CX w) k fa fd [x] (sp w))
 (hsp:∀(w:dO) (H:Hp) (a:ah) (ns:List Int),ns.length<=n->aeD H->bS (K w.params) H a 1#i->sp w [.ref a] H (λv _=>v=.bl true) λ_ _ _=>False)
 (hCX:∀(w:dO) (H:Hp) (s:bB) (e:bq) (s':bB),CX w [] H s (λ_ _ _=>False) e s'->False) :
 adU q loose XP YP l.row.toRowW d [] (λf vs=>aae f vs):=by
 refine Att.MK hn hdf λw s₀ D mg mb fa o pm cd doc a vs ns G Y ho hd hcd E B A z O=>?_
 have I:=hY w _ Y
 obtain ⟨fd,N,J⟩:=F w mg fa _ I G.T.g E
 exact Xl I G.T.g G.T.b G.T.builtins G.T.nolimit O B A (g9 z hn2) hr J N (λH L M=>hsp w H a ns z L M) λH e s'=>hCX w H D e s'
noncomputable def inClass (s:aS) (j:Nat):aS:=match s with
 | .ClassDef _ _ _ body _ _ _ _ _ _ _=>body.getD j (.Pass ⟨0,0,0,0⟩)
 | _=>.Pass ⟨0,0,0,0⟩
noncomputable def eY (s:aS):Arguments:=match s with
 | .FunctionDef _ a _ _ _ _ _ _ _ _=>a
 | _=>{ posonlyargs:=[],args:=[],vararg:=none,kwonlyargs:=[],kw_defaults:=[],kwarg:=none,defaults:=[] }
noncomputable def c9 (s:aS):List aS:=match s with
 | .FunctionDef _ _ b _ _ _ _ _ _ _=>b
 | _=>[]
noncomputable def bw (s:aS):nO:=match s with
 | .FunctionDef _ _ _ _ _ _ sc _ _ _=>sc
 | _=>{ kind:=.function,names:=[],isGenerator:=false,isCoroutine:=false }
abbrev dw:CXT:=λ_ _ _ _ _ _=>False
abbrev E0:XK:=λ_ _ _=>False
def Ti:Passes dw X E0:=λ_ _ _ _ _ _ _ h=>h.elim
structure i9 (K:bU) (x qual:Str) (st:aS) (f:ah) (fd:ia):Prop where
 ex:∃(oc:bq) (od:Option ah) (kV doc pm:bq) (an:Option ah) (cdv ct:bq) (osl:Array (Option bq)),
  fd=pN x qual (eY st) (c9 st) (bw st) .none kV doc pm an cdv ct/\K.lookup f=some ⟨oc,od,.func fd,osl⟩/\vE K cdv qual=true
 kp:tQ K 1#e=true
def i9.ok {K:bU} {st:aS} (F:i9 K x qual st f fd) (S:pQ N ps (bw st)) (len:∀vs H Q E,sp vs H Q E->vs.length=ps.length)
 (hbody:∀(cdv:bq) (A:je) (outer:List Env) (s:bB) (H:Hp) (vs:0#n) (Q:VK) (E:XK),gM k (A.deeper (fS qual (bw st) s.heap.objs.size f cdv))->sp vs H Q E ->
   ∃t,Hw (lG dw P w K mg base N qual (bw st) f cdv A outer s H E).nox (c9 st) t/\t { nx:=λ_ H'=>Q .bM H',rt:=Q } (start N vs) H):0#b (k+1) f fd ps sp:=by
 obtain ⟨oc,od,kV,doc,pm,an,cdv,ct,osl,rfl,B,u⟩:=F.ex
 refine WM B u S len λA outer s H vs Q E z v=>?_
 obtain ⟨t,h,q⟩:=hbody cdv A outer s H vs Q E z v
 exact ⟨t,h.nox,q⟩
def i9.fq {P:fT} {w:dO} {K:bU} {mg:0#g} {base:cH} {x qual:Str} {st:aS} {f:ah} {fd:ia} {N ps:List Str} {k:Nat} {sp:Sp} (F:i9 K x qual st f fd) (S:pQ N ps (bw st))
 (hbody:∀(cdv:bq) (A:je) (outer:List Env) (s:bB) (H:Hp) (vs:0#n) (Q:VK) (E:XK),gM k (A.deeper (fS qual (bw st) s.heap.objs.size f cdv))->sp vs H Q E ->
   ∃t,Hw (lG dw P w K mg base N qual (bw st) f cdv A outer s H E).nox (c9 st) t/\t { nx:=λ_ H'=>Q .bM H',rt:=Q } (start N vs) H) (len:∀vs H Q E,sp vs H Q E->vs.length=ps.length:=by intro _ _ _ _ h;cases h;subst_vars;rfl):0#b (k+1) f fd ps sp:=F.ok S len hbody
abbrev fU (K:bU) (x:Str):=i9 K x x
abbrev dR (n:Nat) (N:List Str) (st:aS):=pQ N (N.take n) (bw st)
def i9.binds {K:bU} {st:aS} (F:i9 K x qual st f fd)
 (h:∀(kV doc pm:bq) (an:Option ah) (cdv ct:bq) (us:List bq),us.length=ps.length->xu (pN x qual (eY st) (c9 st) (bw st) .none kV doc pm an cdv ct) ⟨us,[]⟩=pure (ps.zip us)):Binds K fd ps []:=by
 obtain ⟨oc,od,kV,doc,pm,an,cdv,ct,osl,rfl,lk,hcd⟩:=F.ex
 exact .all (h kV doc pm an cdv ct)
def Ke {K:bU} {x:Str} {st:aS} {f:ah} {oc:bq} {od an:Option ah} {osl:Array (Option bq)} {kV doc pm cdv ct:bq} (l:K.lookup f=some ⟨oc,od,.func (pN x qual (eY st) (c9 st) (bw st) .none kV doc pm an cdv ct),osl⟩)
 (c:vE K cdv qual=true) (k:tQ K 1#e=true):i9 K x qual st f (pN x qual (eY st) (c9 st) (bw st) .none kV doc pm an cdv ct):=⟨⟨oc,od,kV,doc,pm,an,cdv,ct,osl,rfl,l,c⟩,k⟩
def bg (h:n<=1000):n<sizeLine:=Mt h 0#y
def pv {X:Cx} (i:Nat) {x:Str} {pos:Pos} (hN:X.N[i]?=some x:=by rfl) (hv:Vis X.env.scope x:=by first | exact Or.inl rfl | exact Or.inr (Or.inl rfl) | exact Or.inr (Or.inr rfl)) (hd:0#e:=by decide)
 (hcd:(x==("__classdict__":Str))=false:=by decide):PE X (.Name x pos) (VQ i):=afV hN hv hd hcd
def bO {A:Prop} (h:B):if false=true then A else B:=by
 rw [if_neg pJ]
 exact h
def cD {A:Prop} (h:A):if true=true then A else B:=by
 rw [if_pos rfl]
 exact h
def cJ {A:Prop} [Decidable c] (h1:c->A) (h2:¬c->B):if c then A else B:=by
 by_cases h:c
 ·rw [if_pos h]
  exact h1 h
 ·rw [if_neg h]
  exact h2 h
def ao (H H':Hp):Prop:=∀b o,H b=some o->H' b=some o
def ao.refl (H:Hp):ao H H:=λ_ _ h=>h
def ao.trans (a:ao H H1) (b:ao H1 H2):ao H H2:=λc o h=>b c o (a c o h)
def ao.free (e:ao H H')  (h:H' l=Option.none):H l=Option.none:=by
 cases q:H l with
 | none=>rfl
 | some o=>
   rw [e l o q] at h
   cases h
def ao.seq {K:bU} (e:ao H H') (h:bS K H a xs):bS K H' a xs:=by
 rcases h with (h | ⟨o,h⟩) | h
 ·exact .inl (.inl (e _ _ h))
 ·exact .inl (.inr ⟨o,e _ _ h⟩)
 ·exact .inr h
section
variable {κ:Type} [DecidableEq κ]
noncomputable def tM (kvs:List (κ×V)) (k:κ):Option V:=(kvs.find? λkv=>decide (kv.1=k)).map (·.2)
noncomputable def putK (kvs:List (κ×V)) (k:κ) (v:V):List (κ×V):=
 if (kvs.any λkv=>decide (kv.1=k))=true then kvs.map (λkv=>if kv.1=k then (kv.1,v) else kv) else kvs++[(k,v)]
noncomputable def Cd (kvs:List (κ×V)) (k:κ):List (κ×V):=kvs.filter λkv=>decide (kv.1≠k)
def GV {k:κ} (e:p.1=k):tM (p::r) k=some p.2:=by simp [tM,DG,e]
def GU {k:κ} (e:¬p.1=k):tM (p::r) k=tM r k:=by simp [tM,DG,e]
def GS (k:κ):∀kvs:List (κ×V),(kvs.any λkv=>decide (kv.1=k))=(tM kvs k).isSome
 | []=>rfl
 | p::r=>by
   rw [JR]
   by_cases e:p.1=k
   ·simp only [GV e,jN e,Bool.true_or,Option.isSome_some]
   ·rw [GU e,mJ e,adV];exact GS k r
def uN (kvs:List (κ×V)) (k:κ) (v:V):(putK kvs k v).length<=kvs.length+1:=by
 unfold putK
 split
 ·rw [iI];simp?
 ·rw [jf,IL,adA];simp?
def sq.rg (r:sq o u):o.isSome=u.isSome:=by
 cases o with
 | none=>cases u with
   | none=>rfl
   | some _=>exact (show False from r).elim
 | some _=>cases u with
   | none=>exact (show False from r).elim
   | some _=>rfl
def sq.getD (r:sq o u) (rd:RelV d d'):RelV (o.getD d) (u.getD d'):=by
 cases o with
 | none=>cases u with
   | none=>exact rd
   | some _=>exact (show False from r).elim
 | some _=>cases u with
   | none=>exact (show False from r).elim
   | some _=>exact r
def KV.val (r:KV kvs vs) (k:κ):sq (tM kvs k) (CO vs k):=by
 unfold KV at r
 induction r with
 | nil=>exact True.intro
 | @cons p q ps qs h t ih=>
   obtain ⟨v,A⟩:=h
   by_cases e:p.1=k
   ·have u:q.1=k:=v.symm.trans e
    have b:CO (q::qs) k=some q.2:=by simp [CO,DG,u]
    rw [GV e,b];exact A
   ·have u:¬q.1=k:=λz=>e (v.trans z)
    have b:CO (q::qs) k=CO qs k:=by simp [CO,DG,u]
    rw [GU e,b];exact ih
def KV.any (r:KV kvs vs) (k:κ):(kvs.any λkv=>decide (kv.1=k))=vs.any λkv=>decide (kv.1=k):=by
 unfold KV at r
 induction r with
 | nil=>rfl
 | cons h t ih=>rw [JR,JR,ih,h.1]
def KV.repl (r:KV kvs vs) (k:κ)  (ry:RelV y u) :
 KV (kvs.map λkv=>if kv.1=k then (kv.1,y) else kv) (vs.map λkv=>if kv.1=k then (kv.1,u) else kv):=by
 unfold KV at r ⊢
 induction r with
 | nil=>exact .nil
 | @cons p q ps qs h t ih=>
   rw [uh,uh]
   refine .cons ?_ ih
   obtain ⟨v,A⟩:=h
   by_cases e:p.1=k
   ·rw [if_pos e,if_pos (v.symm.trans e)];exact ⟨v,ry⟩
   ·rw [if_neg e,if_neg (λz=>e (v.trans z))];exact ⟨v,A⟩
def KV.put (r:KV kvs vs) (k:κ)  (ry:RelV y u):KV (putK kvs k y) (stored vs k u):=by
 unfold putK stored
 rw [r.any k]
 by_cases e:(vs.any λv=>decide (v.1=k))=true
 ·rw [if_pos e,if_pos e];exact r.repl k ry
 ·rw [if_neg e,if_neg e];exact Paired.snoc r ⟨rfl,ry⟩
def KV.drop (r:KV kvs vs) (k:κ):KV (Cd kvs k) (without vs k):=by
 unfold KV at r ⊢
 unfold Cd without
 induction r with
 | nil=>exact .nil
 | @cons p q ps qs h t ih=>
   obtain ⟨u,A⟩:=h
   rw [CD,CD]
   by_cases e:p.1=k
   ·have a:¬decide (p.1≠k)=true:=by simp [e]
    have b:¬decide (q.1≠k)=true:=by simp [u.symm.trans e]
    rw [if_neg a,if_neg b];exact ih
   ·have v:¬q.1=k:=λz=>e (u.trans z)
    have a:decide (p.1≠k)=true:=by simp [e]
    have b:decide (q.1≠k)=true:=by simp [v]
    rw [if_pos a,if_pos b];exact .cons ⟨u,A⟩ ih
def KV.length {vs:List (κ×bq)} (r:KV kvs vs):kvs.length=vs.length:=Paired.length r
def WC (kvs:List (κ×V)) (k:κ):(Cd kvs k).length<=kvs.length:=Ub _ _
end
def Cg (r:RelV (kV k) u):(fG P w).is k u=true:=by
 cases k with
 | inl i=>obtain ⟨t,e⟩:=(show ∃t,u=Value.int i t from r);subst e;exact NC P w i t
 | inr x=>obtain ⟨t,e⟩:=(show ∃t,u=Value.str x t from r);subst e;exact ND P w x t
def Jh:∀{ks:List Key} {us:List bq},Vals (ks.map kV) us->ItemsAre (fG P w) ks us
 | [],_,r=>by rw [UC] at r;cases r;exact .nil
 | k::ks,_,r=>by
   rw [uh] at r
   cases r with
   | cons h t=>exact .cons (Cg h) (Jh t)
abbrev KT (H:Hp):List (List Key×V)->List (List Key×ah×bq)->Prop:=Paired λp q=>p.1=q.1/\H q.2.1=some (.tup (p.1.map kV))/\RelV p.2 q.2.2
def KT.val (r:KT H kvs xs) (k:List Key):sq (tM kvs k) ((Ax xs k).map (·.2)):=by
 induction r with
 | nil=>exact True.intro
 | @cons p q ps qs h t ih=>
   obtain ⟨v,_,A⟩:=h
   by_cases e:p.1=k
   ·have u:q.1=k:=v.symm.trans e
    have b:Ax (q::qs) k=some q.2:=by simp [Ax,DG,u]
    rw [GV e,b];exact A
   ·have u:¬q.1=k:=λz=>e (v.trans z)
    have b:Ax (q::qs) k=Ax qs k:=by simp [Ax,DG,u]
    rw [GU e,b];exact ih
def KT.repl (r:KT H kvs xs) (k:List Key)  (ry:RelV y u) :
 KT H (kvs.map λkv=>if kv.1=k then (kv.1,y) else kv) (xs.map (putAt k u)):=by
 induction r with
 | nil=>exact .nil
 | @cons p q ps qs h t ih=>
   rw [uh,uh]
   refine .cons ?_ ih
   obtain ⟨v,A,B⟩:=h
   unfold putAt
   by_cases e:p.1=k
   ·rw [if_pos e,if_pos (v.symm.trans e)];exact ⟨v,A,ry⟩
   ·rw [if_neg e,if_neg (λz=>e (v.trans z))];exact ⟨v,A,B⟩
def KT.put (r:KT H kvs xs) (k:List Key)  (hb:H b=some (.tup (k.map kV))) (ry:RelV y u) :
 KT H (putK kvs k y) (storedH xs k b u):=by
 have e:(kvs.any λv=>decide (v.1=k))=(Ax xs k).isSome:=by
  rw [GS,(r.val k).rg,CC]
 unfold putK storedH
 rw [e]
 by_cases q:(Ax xs k).isSome=true
 ·rw [if_pos q,if_pos q];exact r.repl k ry
 ·rw [if_neg q,if_neg q];exact Paired.snoc r ⟨rfl,hb,ry⟩
def KT.keeps (r:KT H kvs xs) (ht:∀b ys,H b=some (.tup ys)->H' b=some (.tup ys)):KT H' kvs xs:=
 Paired.afK r λ_ _ z=>⟨z.1,ht _ _ z.2.1,z.2.2⟩
def aci (ok:tZ P w H h) (e:Rd H a u):d7 P w H h a u:=e.ok ok
def Cb (ok:tZ P w H h) (e:Rd H a (.dK kvs)):kvs.length<=sizeLine/\(a==xr)=false/\∃vs,KV kvs vs/\h.DictOf (fG P w) a vs:=
 show d7 P w H h a (.dK kvs) from aci ok e
def WB (ok:tZ P w H h) (e:H a=some (.dK kvs)):kvs.length<=sizeLine/\(a==xr)=false/\∃vs,KV kvs vs/\h.DictOf (fG P w) a vs:=Cb ok (.inl e)
def AR (ok:tZ P w H h) (e:H a=some (.tup (ks.map kV))):(tupleKind (fG P w)).is h ks a:=by
 obtain ⟨_,u,r,o,v,z,n,A⟩:=(show d7 P w H h a (.tup (ks.map kV)) from ok a _ e)
 exact ⟨o,u.toArray,n,v,z,A,by simpa using Jh r⟩
def EE (ok:tZ P w H h) (e:Rd H a (.dT kvs)):kvs.length<=sizeLine/\(a==xr)=false /\
 ∃xs,KT H kvs xs/\h.DictOfH (tupleKind (fG P w)) a xs:=by
 obtain ⟨z,y,xs,r,o,es,v,A,B,D,E,G⟩:=(show d7 P w H h a (.dT kvs) from aci ok e)
 refine ⟨z,y,xs,r,o,es,v,A,B,D,E,λx u=>?_,G⟩
 have all:∀{l:List (List Key×V)} {m:List (List Key×ah×bq)},KT H l m->∀x∈m,(tupleKind (fG P w)).is h x.1 x.2.1:=by
  intro l m q
  induction q with
  | nil=>intro x u;exact nomatch u
  | @cons p q ps qs hq t ih=>
    intro x u
    rcases kM.mp u with e | u
    ·subst e
     exact AR ok (by rw [<- hq.1];exact hq.2.1)
    ·exact ih x u
 exact all r x u
def ag4 (ok:tZ P w H h) (e:H a=some (.dT kvs)):kvs.length<=sizeLine/\(a==xr)=false /\
 ∃xs,KT H kvs xs/\h.DictOfH (tupleKind (fG P w)) a xs:=EE ok (.inl e)
def kJ (H:Hp) (a:ah) (y:V) (r:Option V):Prop:=
 (∃kvs k,Rd H a (.dK kvs)/\y=kV k/\r=tM kvs k)\/∃kvs k b,Rd H a (.dT kvs)/\y=.ref b/\H b=some (.tup (k.map kV))/\r=tM kvs k
def CS (H:Hp) (a:ah) (y v:V) (H':Hp):Prop:=
 (∃kvs k,H a=some (.dK kvs)/\y=kV k/\kvs.length<sizeLine/\H'=upd H a (.dK (putK kvs k v))) \/
 ∃kvs k b,H a=some (.dT kvs)/\y=.ref b/\H b=some (.tup (k.map kV))/\kvs.length<sizeLine/\H'=upd H a (.dT (putK kvs k v))
def kJ.k {H:Hp} {a:ah} {kvs:List (Key×V)} {k:Key} (e:H a=some (.dK kvs)):kJ H a (kV k) (tM kvs k):=.inl ⟨kvs,k,.inl e,rfl,rfl⟩
def CS.k {H:Hp} {a:ah} {kvs:List (Key×V)} {k:Key} {v:V} (e:H a=some (.dK kvs)) (hl:kvs.length<sizeLine):CS H a (kV k) v (upd H a (.dK (putK kvs k v))):=.inl ⟨kvs,k,e,rfl,hl,rfl⟩
def Inv.big {σ:St} (I:0#d):xr<s.heap.objs.size:=by
 have h:dJ<s.heap.objs.size:=(I.mod.glob.keeps I.bk).lt
 exact Z0 0#y h
def UX {σ:St} (hu:A.units+1<mG) (I:0#d) (g:kJ H a y (some v)) (ry:RelV y u) (h:∀w' s',Inv X pins σ H s'->RelV v w'->Q w' s') :
 bY 0#C A (getItem (.ref a) u) Q E s:=by
 rcases g with ⟨N,k,e,J,l⟩ | ⟨N,k,b,e,J,O,l⟩
 ·subst J
  obtain ⟨z,R,vs,B,G⟩:=Cb I.hok e
  obtain ⟨w',M,D⟩:=sq.some_of (v:=v) (o:=CO vs k) (by rw [l];exact B.val k)
  exact wpAny_getItem_of (Cg ry) G.mapOf M (h w' _ (I.tok _) D)
 ·subst J
  cases (show u=Value.ref b from ry)
  obtain ⟨z,R,U,B,G⟩:=EE I.hok e
  obtain ⟨w',M,D⟩:=sq.some_of (v:=v) (o:=(Ax U k).map (·.2)) (by rw [l];exact B.val k)
  obtain ⟨p,S,L⟩:=Sh.mp M
  refine wpAny_getItem_heap (OB hu) (AR I.hok O) G S ?_
  rw [L]
  exact h w' _ (I.tok _) D
def ajI {σ:St} (hu:A.units+1<mG) (I:0#d) (g:kJ H a y o) (ry:RelV y u) (h:∀s',Inv X pins σ H s'->Q (.bool o.isSome) s') :
 bY 0#C A (pP .In u (.ref a)) Q E s:=by
 rcases g with ⟨J,k,e,D,l⟩ | ⟨J,k,b,e,D,L,l⟩
 ·subst D
  obtain ⟨z,G,vs,v,B⟩:=Cb I.hok e
  refine wpAny_in_of (Cg ry) G B.mapOf ?_
  rw [<- (v.val k).rg,<- l]
  exact h _ (I.tok _)
 ·subst D
  cases (show u=Value.ref b from ry)
  obtain ⟨z,G,xs,v,B⟩:=EE I.hok e
  refine wpAny_in_heap (OB hu) (AR I.hok L) G B ?_
  have q:=(v.val k).rg
  rw [CC] at q
  rw [<- q,<- l]
  exact h _ (I.tok _)
def aas {σ:St} (hu:A.units+1<mG) (I:0#d) (g:kJ H a y o) (ry:RelV y u) (h:∀s',Inv X pins σ H s'->Q (.bool (!o.isSome)) s') :
 bY 0#C A (pP .NotIn u (.ref a)) Q E s:=by
 rcases g with ⟨J,k,e,D,l⟩ | ⟨J,k,b,e,D,L,l⟩
 ·subst D
  obtain ⟨z,G,vs,v,B⟩:=Cb I.hok e
  refine wpAny_notIn_of (Cg ry) G B.mapOf ?_
  rw [<- (v.val k).rg,<- l]
  exact h _ (I.tok _)
 ·subst D
  cases (show u=Value.ref b from ry)
  obtain ⟨z,G,xs,v,B⟩:=EE I.hok e
  refine wpAny_notIn_heap (OB hu) (AR I.hok L) G B ?_
  have q:=(v.val k).rg
  rw [CC] at q
  rw [<- q,<- l]
  exact h _ (I.tok _)
def DM {σ:St} (I:0#d) (mu:Mut (H a)) (hs:CI a s.heap h') (he:∃q,h'.get? a=some q) (new:d7 X.prog X.w (upd H a ob) h' a ob) :
 Inv X pins σ (upd H a ob) { s with heap:=h',toks:=t' }:=
 I.write (x:=a) (e:=a) mu (.inl rfl) (λb q hb z=>(hs.2 b hb).trans z) he new
def Pg (z:kvs.length<=sizeLine) (hd:(a==xr)=false) (rel:KV kvs vs) (dd:h'.DictOf (fG P w) a vs) :
 d7 P w H' h' a (.dK kvs):=⟨z,hd,vs,rel,dd⟩
def UY {σ:St} (hu:A.units+1<mG) (I:0#d) (g:CS H a y v H') (ry:RelV y u) (rv:RelV v r) (h:∀s',Inv X pins σ H' s'->Q () s') :
 bY 0#C A (setItem (.ref a) u r) Q E s:=by
 rcases g with ⟨B,k,e,N,l,M⟩ | ⟨B,k,b,e,N,Y,l,M⟩
 ·subst N M
  obtain ⟨z,O,vs,D,L⟩:=WB I.hok e
  have U:vs.length<=sizeLine:=by rw [<- D.length];exact z
  have R:(putK B k v).length<=sizeLine:=by have:=uN B k v;simp?
  refine wpAny_setItem_pairs (hsz:=U) (Cg ry) L λh' G S=>h _ ?_
  have he:∃q,h'.get? a=some q:=let ⟨q,_,_,J,_⟩:=G;⟨q,J⟩
  exact DM I (by rw [e];exact True.intro) S he (Pg R O (D.put k rv) G)
 ·subst N M
  cases (show u=Value.ref b from ry)
  obtain ⟨z,O,xs,D,L⟩:=ag4 I.hok e
  have U:xs.length<=sizeLine:=by rw [<- Paired.length D];exact z
  have R:(putK B k v).length<=sizeLine:=by have:=uN B k v;simp?
  refine wpAny_setItem_heap (hsz:=U) (OB hu) (AR I.hok Y) L λh' G S=>h _ ?_
  obtain ⟨q,es,ep,J,h2,h3,h4,_,h5⟩:=G
  refine DM I (by rw [e];exact True.intro) S ⟨q,J⟩ ⟨R,O,_,(D.put k Y rv).keeps λc ys Z=>?_,q,es,ep,J,h2,h3,h4,h5⟩
  rw [aF (ahM Z e (λz=>nomatch z))]
  exact Z
def ag1 {σ:St} (I:0#d) (e:H a=some (.dK kvs)) (ry:RelV (kV k) u) (l:tM kvs k=some v) (hm:more=[]\/∃x,more=[x])
 (h:∀w' s',Inv X pins σ (upd H a (.dK (Cd kvs k))) s'->RelV v w'->Q w' s'):bY 0#C A (call (.builtin "dict.pop") (.ref a::u::more)) Q E s:=by
 obtain ⟨z,N,vs,B,J⟩:=WB I.hok e
 obtain ⟨w',U,G⟩:=sq.some_of (v:=v) (o:=CO vs k) (by rw [<- l];exact B.val k)
 have R:(keyPart u).isSome=true:=by
  cases k with
  | inl i=>obtain ⟨t,q⟩:=(show ∃t,u=Value.int i t from ry);subst q;rfl
  | inr x=>obtain ⟨t,q⟩:=(show ∃t,u=Value.str x t from ry);subst q;rfl
 have M:argsOk "dict.pop" ⟨.ref a::u::more,[]⟩:=by
  rcases hm with q | ⟨x,q⟩
  ·subst q;exact PySem.F.args_dict_pop_2 _ _
  ·subst q;exact PySem.F.args_dict_pop_3 _ _ _
 refine Z1 acK J.typeIs PySem.F.entry_dict_pop M (meets_dict_pop_there (fG X.prog X.w) a (Cg ry) more hm R)
  ⟨vs,w',J,by rw [<- B.length];exact z,U,λL D S=>h w' _ ?_ G⟩
 have O:∃q,L.get? a=some q:=let ⟨q,_,_,hq,_⟩:=D;⟨q,hq⟩
 exact DM I (by rw [e];exact True.intro) S O (Pg (g9 (WC kvs k) z) N (B.drop k) D)
def ag0 {σ:St} (I:0#d) (e:Rd H a (.dK kvs)) (h:∀t s',Inv X pins σ H s'->Q (.int kvs.length t) s'):bY 0#C A (call (.builtin "len") [.ref a]) Q E s:=by
 obtain ⟨z,B,vs,u,v⟩:=Cb I.hok e
 refine call_len_dict B v (by rw [<- u.length];rw [UG] at z;simp?) ?_
 rw [<- u.length]
 exact h _ _ (I.tok _)
def aeC (i:bz):Prop:=∀ov iv,subscripted i false ov iv=operate [ov,iv] (getItem ov iv)
def abL {id:String}
 (hl:typeLookup (.type T) "__getitem__"=pure (some (.builtin id))) (hs:aeC slice)
 (h:bY 1#b A (eval value env) (λo s₁=>bY 1#b A (eval slice env) (λi s₂=>s₂.TypeIs o T/\bY 1#b A (getItem o i) Q E s₂) E s₁) E s) :
 bY 1#b A (eval (.Subscript value slice pos) env) Q E s:=by
 refine aab (pO h (λo s₁ B=>pO B (λi s₂ u=>?_) λ_ _ x=>x) λ_ _ x=>x)
 obtain ⟨G,u⟩:=u
 unfold subscriptTail
 refine dX ?_
 rw [getitemInPython_of_ne G.not_modules]
 refine dX (wpAny_specialOf G hl ?_)
 have z:bY 1#b A (subscripted slice false o i) (λr v=>bY 1#b A (letTemporaryGo value o r >>= λ_=>pure r) Q E v) E s₂:=by
  rw [hs o i]
  exact wpAny_operating (pO u (λr v D=>dX (wpAny_letTemporaryGo (jW D))) λ_ _ x=>x)
 first
  | exact jW (dX z)
  | exact dX (jW (dX z))
  | exact dX z
def MU {σ:St} (I:0#d) (g:kJ H a y o):s.TypeIs (.ref a) "dict":=by
 rcases g with ⟨v,k,e,_,_⟩ | ⟨v,k,b,e,_,_,_⟩
 ·obtain ⟨_,_,vs,_,u⟩:=Cb I.hok e
  exact u.typeIs
 ·obtain ⟨_,_,xs,_,u⟩:=EE I.hok e
  exact u.typeIs
def YQ (td ty:TE):TE:=λσ H Q=>td σ H λx H1=>ty σ H1 λy H2=>∃a v,x=.ref a/\kJ H2 a y (some v)/\Q v H2
def Yr (td ty tv:TE):TS:=λD σ H=>tv σ H λv H1=>td σ H1 λx H2=>ty σ H2 λy H3=>∃a H4,x=.ref a/\CS H3 a y v H4/\D.nx σ H4
def K9 (hu:X.A.units+1<mG) (ho:PE X o td) (hi:PE X i ty) (hs:aeC i):PE X (.Subscript o i pos) (YQ td ty):=by
 intro z s E H Q I h
 refine abL PySem.F.slot_dict_getitem.lookup hs (ig (ho z s E H _ I h) λu Y ⟨x,G,L,S,O⟩=>ig (hi z Y E G _ L O) λiv s2 Z=>?_)
 obtain ⟨y,J,D,U,a,v,N,g,R⟩:=Z
 subst N
 obtain rfl:u=Value.ref a:=S
 exact ⟨MU D g,UX hu D g U λw' s3 M B=>⟨v,J,M,B,R⟩⟩
def om (hu:X.A.units+1<mG) (ho:PE X o td) (hi:PE X i ty) (hv:PE X value tv) (hs:kR value (some (.Subscript o i pos')) pos.line X.env=pure false) :
 PS X (.Assign [.Subscript o i pos'] value pos) (Yr td ty tv):=by
 intro z s B H D I h
 refine wpAny_Assign_Subscript (ig (hv z s B H _ I h) λr s1 ⟨v,E,L,Y,R⟩=>ig (ho z s1 B E _ L R) λu s2 ⟨x,G,M,Z,S⟩=>ig (hi z s2 B G _ M S) λiv s3 zz=>?_) hs
 obtain ⟨y,H3,N,ry,a,J,Q,g,U⟩:=zz
 subst Q
 obtain rfl:u=Value.ref a:=Z
 exact UY hu N g ry Y λs4 O=>⟨B,J,O,U⟩
def MV (h:cH) (hb:xr<h.objs.size):d7 P w H (h.push { cls:=.type "dict",data:=.dict #[] }) h.objs.size (.dK []):=
 ⟨jV _,Ou.mpr (jx (mK hb)),[],.nil,ajy h⟩
def RQ:TE:=λ_ H Q=>∀p,H p=none->Q (.ref p) (upd H p (.dK []))
def zM:PE X (.Dict [] [] pos) RQ:=λpins s σ H Q I h=>
 wpAny_Dict_empty ⟨.ref s.heap.objs.size,_,I.laid (a:=s.heap.objs.size) (o:=.dK []) (t':=s.toks) (λ_ _ q=>pM _ q) (gI _) (MV s.heap I.big),rfl,h _ (I.hok.fresh (gI _))⟩
def yG:List (TE×TE)->St->Hp->(List (V×V)->Hp->Prop)->Prop
 | [],_,H,Q=>Q [] H
 | (tk,tv)::r,σ,H,Q=>tk σ H λx H1=>tv σ H1 λy H2=>yG r σ H2 λps H3=>Q ((x,y)::ps) H3
abbrev VV:List (V×V)->List (bq×bq)->Prop:=Paired λp q=>RelV p.1 q.1/\RelV p.2 q.2
def PPs (X:Cx) (pos:Pos) (keys:List (Option bz)) (values:List bz) (trs:List (TE×TE)):Prop:=
 ∀(pins:0#l) (s:bB) (σ:St) (H:Hp) (Q:List (V×V)->Hp->Prop),Inv X pins σ H s->yG trs σ H Q ->
  bY 0#C X.A (evalPairs (pairTrees keys values X.env pos)) (λvs s'=>∃ps H',Inv X pins σ H' s'/\VV ps vs/\Q ps H') X.xe s
def abu:PPs X pos [] [] []:=λpins s σ H Q I h=>pairTrees_nil_walk ⟨[],H,I,.nil,h⟩
def FW (hk:PE X k tk) (hv:PE X v tv) (hr:PPs X pos ks vs trs) :
 PPs X pos (some k::ks) (v::vs) ((tk,tv)::trs):=λpins s σ H Q I h=>
 pairTrees_cons_walk (ig (hk pins s σ H _ I h) λu s1 ⟨x,H1,I1,rx,q1⟩=>ig (hv pins s1 σ H1 _ I1 q1) λw2 s2 ⟨y,H2,I2,ry,q2⟩=>
  ig (hr pins s2 σ H2 _ I2 q2) λws s3 ⟨ps,H3,I3,rel,q3⟩=>⟨(x,y)::ps,H3,I3,.cons ⟨rx,ry⟩ rel,q3⟩)
noncomputable def xU (kvs more:List (Key×V)):List (Key×V):=more.foldl (λacc kv=>putK acc kv.1 kv.2) kvs
def KV.merge:∀{more:List (Key×V)} {rs:List (Key×bq)} {kvs:List (Key×V)} {vs:List (Key×bq)},KV more rs->KV kvs vs->KV (xU kvs more) (merged vs rs):=by
 intro more rs kvs vs r
 unfold KV at r
 induction r generalizing kvs vs with
 | nil=>intro q;exact q
 | @cons p q ps qs h t ih=>
   intro u
   have e:KV (putK kvs p.1 p.2) (stored vs q.1 q.2):=by
    have:=u.put p.1 h.2
    rw [<- h.1];exact this
   exact ih e
def wO:∀(more kvs:List (Key×V)),(xU kvs more).length<=kvs.length+more.length
 | [],kvs=>by show kvs.length<=kvs.length+0;simp?
 | p::r,kvs=>by
   have h1:=wO r (putK kvs p.1 p.2)
   have h2:=uN kvs p.1 p.2
   show (xU (putK kvs p.1 p.2) r).length<=_
   rw [IL];simp?
def Ew:∀{kvs:List (Key×V)} {ws:List (bq×bq)},VV (kvs.map λkv=>(kV kv.1,kv.2)) ws->∃rs,Carries (fG P w) ws rs/\KV kvs rs
 | [],_,r=>by rw [UC] at r;cases r;exact ⟨[],True.intro,.nil⟩
 | p::kvs,_,r=>by
   rw [uh] at r
   cases r with
   | @cons a b as bs h t=>
     obtain ⟨rs,c,q⟩:=Ew (P:=P) (w:=w) t
     obtain ⟨b1,b2⟩:=b
     exact ⟨(p.1,b2)::rs,⟨Cg h.1,rfl,c⟩,.cons ⟨rfl,h.2⟩ q⟩
def YR (trs:List (TE×TE)):TE:=λσ H Q=>∀p,H p=none->yG trs σ (upd H p (.dK [])) λps H2=>H2 p=some (.dK [])/\∃kvs:List (Key×V),ps=kvs.map (λkv=>(kV kv.1,kv.2))/\kvs.length<=15/\Q (.ref p) (upd H2 p (.dK (xU [] kvs)))
def abp (h:PPs X pos keys values trs) (hall:keys.all (·.isSome)=true) (hl:keys.length=values.length) (h0:keys≠[])
 (h15:keys.length<=15):PE X (.Dict keys values pos) (YR trs):=by
 intro A s σ H Q I q
 have O:=I.hok.fresh (gI s.heap.objs.size)
 have E:=I.laid (a:=s.heap.objs.size) (o:=.dK []) (h':=s.heap.push { cls:=.type "dict",data:=.dict #[] }) (t':=s.toks) (λ_ _ q=>pM _ q) (gI _) (MV s.heap I.big)
 refine wpAny_Dict_walk (knd:=fG X.prog X.w) hall hl h0 h15 (ig (h A _ σ _ _ E (q _ O)) λws s2 zz=>?_)
 obtain ⟨ps,H2,D,B,e,v,J,lk,U⟩:=zz
 subst J
 obtain ⟨rs,c,Z⟩:=Ew (P:=X.prog) (w:=X.w) B
 obtain ⟨z,M,vs0,Y,G⟩:=WB D.hok e
 cases Y
 refine ⟨rs,c,G,λh' u R=>⟨.ref s.heap.objs.size,_,?_,rfl,U⟩⟩
 have S:(xU [] v).length<=sizeLine:=by
  have L:=wO v []
  rw [adA] at L
  rw [UG];simp?
 have N:∃q,h'.get? s.heap.objs.size=some q:=let ⟨q,_,_,hq,_⟩:=u;⟨q,hq⟩
 exact DM D (by rw [e];exact True.intro) R N (Pg S M (Z.merge .nil) u)
structure M1 (X:Cx) (o:bz) (m:Str) (apos:Pos) (e:bz) (cpos:Pos):Prop where
 base:wF o m X.env (eval o X.env)=eval o X.env
 few:((gc cpos (dg [e] X.env)).all (λx=>!x.1)&&(qe cpos (qd [] X.env)).all (λx=>x.1.isSome)
  && decide (([e]:List bz).length+([]:List nN).length+(if ([]:List nN).isEmpty then 0 else 1)<30))=true
 line:(apos.endLine==cpos.line)=true
 trees:gc cpos (dg [e] X.env)=[(false,eval e X.env)]
def IsD (H:Hp) (a:ah):Prop:=(∃kvs,Rd H a (.dK kvs))\/∃kvs,Rd H a (.dT kvs)
def Xd {σ:St} (I:0#d) (d:IsD H a) :
 s.TypeIs (.ref a) "dict"/\(∀b,Value.ref a=.ref b->∃ob,s.heap.get? b=some ob/\ob.dict=none)/\(a==xr)=false:=by
 rcases d with ⟨B,e⟩ | ⟨B,e⟩
 ·obtain ⟨_,A,vs,_,u⟩:=Cb I.hok e
  refine ⟨u.typeIs,λb q=>?_,A⟩
  cases q
  obtain ⟨ob,_,_,v,z,_⟩:=u
  exact ⟨ob,v,z.2.1⟩
 ·obtain ⟨_,A,xs,_,u⟩:=EE I.hok e
  refine ⟨u.typeIs,λb q=>?_,A⟩
  cases q
  obtain ⟨ob,_,_,v,z,_⟩:=u
  exact ⟨ob,v,z.2.1⟩
def aeO {σ:St} (hu:A.units+1<mG) (I:0#d) (g:kJ H a y o) (ry:RelV y u) (h:∀w' s',Inv X pins σ H s'->RelV (o.getD .bM) w'->Q w' s') :
 bY 0#C A (call (.builtin "dict.get") [.ref a,u]) Q E s:=by
 rcases g with ⟨J,k,e,D,l⟩ | ⟨J,k,b,e,D,L,l⟩
 ·subst D
  obtain ⟨z,G,vs,v,B⟩:=Cb I.hok e
  refine Z1 Zm B.typeIs acD (acv _ _) (meets_dict_get (fG X.prog X.w) a (Cg ry) G) ⟨_,B.mapOf,h _ _ (I.tok _) ?_⟩
  rw [l]
  exact (v.val k).getD rfl
 ·subst D
  cases (show u=Value.ref b from ry)
  obtain ⟨z,G,M,v,B⟩:=EE I.hok e
  refine Z1 Zm B.typeIs acD (acv _ _) (meetsH_dict_get (tupleKind (fG X.prog X.w)) a b G) ⟨OB hu,k,M,AR I.hok L,B,h _ _ (I.tok _) ?_⟩
  rw [l]
  exact (v.val k).getD rfl
def RP (td ty:TE):TE:=λσ H Q=>td σ H λx H1=>∃a,x=.ref a/\IsD H1 a/\ty σ H1 λy H2=>∃o,kJ H2 a y o/\Q (o.getD .bM) H2
def RS (td ty:TE):TE:=λσ H Q=>td σ H λx H1=>∃a,x=.ref a/\IsD H1 a/\ty σ H1 λy H2=>∃kvs k v,H2 a=some (.dK kvs)/\y=kV k/\tM kvs k=some v/\Q v (upd H2 a (.dK (Cd kvs k)))
def X4 (hu:X.A.units+1<mG) (ho:PE X o td) (he:PE X e ty) (m:M1 X o "get" apos e cpos):PE X (.Call (.Attribute o "get" apos) [e] [] cpos) (RP td ty):=by
 intro v s D H Q I h
 refine ada m.base m.few m.line acw Zm PySem.F.type_dict_get (ig (ho v s D H _ I h) λu U zz=>?_)
 obtain ⟨x,E,B,R,a,M,d,N⟩:=zz
 subst M
 obtain rfl:u=Value.ref a:=R
 obtain ⟨Y,Z,_⟩:=Xd B d
 refine ⟨Y,Z,?_⟩
 rw [m.trees]
 refine T8 rfl (Ug (Zs (ig (he v U D E _ B N) λiv s2 ⟨y,G,J,S,ov,g,O⟩=>Zy ?_)))
 exact aeO hu J g S λw' s3 L z=>⟨_,G,L,z,O⟩
def X6 (ho:PE X o td) (he:PE X e ty) (m:M1 X o "pop" apos e cpos):PE X (.Call (.Attribute o "pop" apos) [e] [] cpos) (RS td ty):=by
 intro z s D H Q I h
 refine ada m.base m.few m.line acw acK PySem.F.type_dict_pop (ig (ho z s D H _ I h) λu Y zz=>?_)
 obtain ⟨x,E,B,S,a,M,d,O⟩:=zz
 subst M
 obtain rfl:u=Value.ref a:=S
 obtain ⟨Z,t2,_⟩:=Xd B d
 refine ⟨Z,t2,?_⟩
 rw [m.trees]
 refine T8 rfl (Ug (Zs (ig (he z Y D E _ B O) λiv s2 ⟨y,H2,G,U,kvs,k,v,L,N,l,R⟩=>Zy ?_)))
 subst N
 exact ag1 G L U l (.inl rfl) λw' s3 J A=>⟨v,_,J,A,R⟩
end L2
set_option maxHeartbeats 4000000
namespace Mth
def Sz (n:Nat) (x:Int):Prop:=x.natAbs<2 ^ n
instance {n:Nat} {x:Int}:Decidable (Sz n x):=inferInstanceAs (Decidable (x.natAbs<2 ^ n))
def Sz.mono (h:Sz m x) (hm:m<=n):Sz n x:=
 nI h (acO 0#y hm)
def Sz.mul (hx:Sz m x) (hy:Sz n y):Sz (m+n) (x*y):=by
 unfold Sz at *
 rw [ZM,Nat.pow_add]
 exact Nat.mul_lt_mul'' hx hy
def Sz.add (hx:Sz m x) (hy:Sz m y):Sz (m+1) (x+y):=by
 unfold Sz at *
 rw [Nat.pow_succ]
 have:=OF x y
 simp?
def Sz.neg (hx:Sz m x):Sz m (-x):=by
 unfold Sz at *
 rw [G3];exact hx
def Sz.sub (hx:Sz m x) (hy:Sz m y):Sz (m+1) (x-y):=by
 rw [Int.sub_eq_add_neg];exact hx.add hy.neg
def Sz.of_le (hx:Sz m x) (h:y.natAbs<=x.natAbs):Sz m y:=Mt h hx
def Sz.log (hx:Sz m x) (hm:m<=9000) (h0:0<m):x.natAbs.log2<9000:=by
 by_cases h:x.natAbs=0
 ·rw [h];decide
 ·have:=(Nat.log2_lt h).mpr hx
  simp?
def Sz.of_lt (h:x.natAbs<k) (hk:k<=2 ^ m):Sz m x:=nI h hk
structure Low (t b t' b':Int):Prop where
 pos:1<=b'
 co:cL t' b'=1
 eq:t'*b=t*b'
 tb:t'.natAbs<=t.natAbs
 bb:b'.natAbs<=b.natAbs
def M4 (x y:Nat):OW y (x % y)=OW x y:=by
 rw [ad2 y,<- Nat.gcd_rec,ad2]
def WD (hb:b≠0):cL (t/(cL t b:Int)) (b/(cL t b:Int))=1:=by
 have u:0<cL t b:=Sf t hb
 rw [Int.gcd_ediv (OH ..) (OG ..)]
 rw [Zt]
 exact Nat.div_self u
def Jj {g:Nat} (hg:0<g) (e:a*(g:Int)=c):a.natAbs<=c.natAbs:=by
 subst e
 rw [ZM,Zt]
 exact Nat.le_mul_of_pos_right _ hg
def afG {g:Nat} (hg:0<g) (e1:t'*(g:Int)=t) (e2:b'*(g:Int)=b) (hb:0<b) (hc:cL t' b'=1):Low t b t' b':=by
 refine ⟨?_,hc,?_,Jj hg e1,Jj hg e2⟩
 ·have:0<b':=Int.pos_of_mul_pos_left (b:=(g:Int)) (by rw [e2];exact hb) 0#z
  simp?
 ·rw [<- e1,<- e2,Int.mul_assoc,xh (g:Int) b']
def KG (hb:0<b):Low t b (t.fdiv (cL t b:Int)) (b.fdiv (cL t b:Int)):=by
 have A:0<cL t b:=Sf t 0#z
 have u:(cL t b:Int)∣t:=OH ..
 have v:(cL t b:Int)∣b:=OG ..
 rw [Hg _ 0#z,Hg _ 0#z]
 exact afG A (acT u) (acT v) hb (WD 0#z)
def yR (a:Int) (g:Nat):a.fdiv (-(g:Int))=(-a).fdiv (g:Int):=by
 have:=Int.neg_fdiv_neg a (-(g:Int))
 rw [Z7] at this
 exact this.symm
def aa5 (hb:b<0):Low (-t) (-b) (t.fdiv (-(cL t b:Int))) (b.fdiv (-(cL t b:Int))):=by
 have e:cL t b=cL (-t) (-b):=by rw [Int.gcd_neg,Int.neg_gcd]
 rw [yR,yR,e]
 exact KG 0#z
def Ww (hc:cL b a=1) (h:b∣a*d):b∣d:=by
 have v:b.natAbs∣a.natAbs*d.natAbs:=by rw [<- ZM];exact acL.mpr h
 have u:Nat.Coprime b.natAbs a.natAbs:=hc
 exact acL.mp (u.dvd_of_dvd_mul_left v)
def Qf (hb:1<=b) (hd:1<=d) (h1:cL a b=1) (h2:cL c d=1) (e:a*d=c*b):a=c/\b=d:=by
 have v:b∣d:=by
  have:b∣a*d:=⟨c,by rw [e,xh]⟩
  exact Ww (by rw [Z2];exact h1) this
 have A:d∣b:=by
  have:d∣c*b:=⟨a,by rw [<- e,xh]⟩
  exact Ww (by rw [Z2];exact h2) this
 have u:b=d:=Int.dvd_antisymm 0#z 0#z v A
 subst u
 exact ⟨Int.eq_of_mul_eq_mul_right 0#z e,rfl⟩
def S8 {α:Type} {l:List α} (h:l.length=n+1):∃a t,l=a::t/\t.length=n:=by
 cases l with
 | nil=>cases h
 | cons a t=>exact ⟨a,t,rfl,ad3 h⟩
def iZ {α:Type} {l:List α} (h:l.length=1):∃a,l=[a]:=by
 obtain ⟨a,t,rfl,z⟩:=S8 h
 cases Zg.mp z
 exact ⟨a,rfl⟩
def ahF {α:Type} {l:List α} (h:l.length=2):∃a b,l=[a,b]:=by
 obtain ⟨a,t,rfl,z⟩:=S8 h
 obtain ⟨b,rfl⟩:=iZ z
 exact ⟨a,b,rfl⟩
def ahG {α:Type} {l:List α} (h:l.length=3):∃a b c,l=[a,b,c]:=by
 obtain ⟨a,t,rfl,z⟩:=S8 h
 obtain ⟨b,c,rfl⟩:=ahF z
 exact ⟨a,b,c,rfl⟩
def aa4 {α:Type} {l:List α} (h:l.length=4):∃a b c d,l=[a,b,c,d]:=by
 obtain ⟨a,t,rfl,z⟩:=S8 h
 obtain ⟨b,c,d,rfl⟩:=ahG z
 exact ⟨a,b,c,d,rfl⟩
structure jI (H L high low x0 y0 x1 y1:Int):Prop where
 sg:(x0*y1-x1*y0=1/\0<=x0/\y0<=0/\x1<=0/\1<=y1)\/(x0*y1-x1*y0=-1/\x0<=0/\0<=y0/\0<=x1/\y1<=-1)
 eh:x0*H+y0*L=high
 el:x1*H+y1*L=low
 l0:0<=low
 lh:low<=high
 st:(x0=1/\y0=0/\x1=0/\y1=1)\/(y0≠0/\high<=L/\340282366920938463463374607431768211456<=high/\x0.natAbs<=x1.natAbs/\y0.natAbs<=y1.natAbs)
def jI.init (h0:0<=L) (h:L<=H):jI H L H L 1 0 0 1:=⟨.inl 0#z,by simp?,by simp?,h0,h,.inl 0#z⟩
def WA {x:Int} (hx:0<=x) (hy:0<=y):(x/y).natAbs<=x.natAbs:=by
 have h1:=Ur (a:=x) y hx
 have h2:=adB hx hy
 simp?
def E8 {q:Int} (hq:1<=q) (hz:0<=z):z<=q*z:=by
 have:=OX hq hz
 simp?
def sgA (a:0<=x0) (b:y0<=0) (c:x1<=0) (e:1<=y1) (k1:-x1<=-u) (k2:y1<=v):0<=x0-u/\y0-v<=-1/\x1.natAbs<=(x0-u).natAbs/\y1.natAbs<=(y0-v).natAbs:=by lia
def sgB {u:Int} (a:x0<=0) (b:0<=y0) (c:0<=x1) (e:y1<=-1) (k1:x1<=u) (k2:-y1<=-v):x0-u<=0/\1<=y0-v/\x1.natAbs<=(x0-u).natAbs/\y1.natAbs<=(y0-v).natAbs:=by lia
def jI.step (h:jI H L high low x0 y0 x1 y1) (hl:340282366920938463463374607431768211456<=low) (hq:q=high/low) :
 jI H L low (high-q*low) x1 y1 (x0-q*x1) (y0-q*y1):=by
 obtain ⟨U,R,D,l0,Q,st⟩:=h
 have B:0<low:=Zu 0#y hl
 have E:1<=q:=by
  rw [hq];exact (acE B).mpr (by rw [UH];exact Q)
 have S:high-q*low=high % low:=by rw [hq,Int.emod_def,xh]
 have A:low<=L:=by
  rcases st with ⟨_,_,c,d⟩ | ⟨_,a,_⟩
  ·rw [<- D,c,d,Int.zero_mul,Int.zero_add,UH]
   exact aef _
  ·exact Ay Q a
 have v:x1*(y0-q*y1)-(x0-q*x1)*y1=-(x0*y1-x1*y0):=by grind
 have u:(x0-q*x1)*H+(y0-q*y1)*L=high-q*low:=by rw [<- R,<- D];grind
 rw [S] at u ⊢
 rcases U with ⟨d,a,b,c,e⟩ | ⟨d,a,b,c,e⟩
 ·have N:=E8 E (z:=-x1) (JG c)
  rw [Z8] at N
  obtain ⟨G,I,J,M⟩:=sgA a b c e N (E8 E (Ay 0#y e))
  exact ⟨.inr ⟨v.trans (by rw [d]),c,Ay 0#y e,G,I⟩,D,u,As _ (Z4 B),vF (IK _ B),.inr ⟨λz=>by rw [z] at e;exact absurd e 0#y,A,hl,J,M⟩⟩
 ·have O:=E8 E (z:=-y1) (JG (Ay e 0#y))
  rw [Z8] at O
  obtain ⟨G,I,J,M⟩:=sgB a b c e (E8 E c) O
  exact ⟨.inl ⟨v.trans (by rw [d];rfl),c,Ay e 0#y,G,I⟩,D,u,As _ (Z4 B),vF (IK _ B),.inr ⟨λz=>by rw [z] at e;exact absurd e 0#y,A,hl,J,M⟩⟩
def jI.aaM (h:jI H L high low x0 y0 x1 y1) (h1:L<=H):high<=H:=by
 obtain ⟨sg,eh,el,l0,lh,st⟩:=h
 rcases st with ⟨a,b,c,d⟩ | ⟨_,a,_⟩
 ·subst a b c d;simp?
 ·simp?
def jI.inv (h:jI H L high low x0 y0 x1 y1):∃p q p' q':Int,(0<=p/\0<=q/\0<=p'/\0<=q')/\p*high+q*low=H/\p'*high+q'*low=L/\p.natAbs=y1.natAbs/\p'.natAbs=x1.natAbs:=by
 obtain ⟨z,u,v,_,_,_⟩:=h
 have e1:y1*high+-y0*low=(x0*y1-x1*y0)*H:=by rw [<- u,<- v];grind
 have e2:-x1*high+x0*low=(x0*y1-x1*y0)*L:=by rw [<- u,<- v];grind
 rcases z with ⟨d,a,b,c,e⟩ | ⟨d,a,b,c,e⟩ <;> rw [d] at e1 e2
 ·exact ⟨y1,-y0,-x1,x0,⟨Ay 0#y e,JG b,JG c,a⟩,by rw [e1,UH],by rw [e2,UH],rfl,G3 _⟩
 ·exact ⟨-y1,y0,x1,-x0,⟨JG (Ay e 0#y),b,c,JG a⟩,by grind,by grind,G3 _,rfl⟩
def RW {X:Int} (q0:0<=q) (l0:0<=l) (e:p*h+q*l=X):p*h<=X:=by
 rw [<- e]
 exact Int.le_add_of_nonneg_right (wX q0 l0)
def TY {X:Int} (h1:1<=h) (p0:0<=p) (q0:0<=q) (l0:0<=l) (e:p*h+q*l=X):p.natAbs<=X.natAbs:=by
 have a:=Ay (xh h p▸E8 h1 p0) (RW q0 l0 e)
 clear e
 lia
def jI.afO (h:jI H L high low x0 y0 x1 y1) (hh:1<=high):x1.natAbs<=L.natAbs/\y1.natAbs<=H.natAbs:=by
 obtain ⟨p,q,p',q',⟨a,b,c,d⟩,e1,e2,u,v⟩:=h.inv
 exact ⟨v▸TY hh c d h.l0 e2,u▸TY hh a b h.l0 e1⟩
def Ad {B:Int} (hy:0<=y) (hh:340282366920938463463374607431768211456<=h) (hm:y*h<=B) (hB:B<115792089237316195423570985008687907853269984665640564039457584007913129639936):y.natAbs<=340282366920938463463374607431768211456:=by
 have:=Int.mul_le_mul_of_nonneg_left hh hy
 lia
def jI.small (h:jI H L high low x0 y0 x1 y1) (hy:y0≠0) (hL:L<=H) (hH:H<115792089237316195423570985008687907853269984665640564039457584007913129639936) :
 x0.natAbs<=340282366920938463463374607431768211456/\y0.natAbs<=340282366920938463463374607431768211456/\x1.natAbs<=340282366920938463463374607431768211456/\y1.natAbs<=340282366920938463463374607431768211456:=by
 rcases h.st with ⟨_,z,_⟩ | ⟨_,hl,u,B,D⟩
 ·exact absurd z hy
 obtain ⟨p,q,p',q',⟨a,b,c,d⟩,e1,e2,E,G⟩:=h.inv
 have v:=E▸Ad a u (RW b h.l0 e1) hH
 have A:=G▸Ad c u (Ay (RW d h.l0 e2) hL) hH
 exact ⟨g9 B A,g9 D v,A,v⟩
def Xv {M:Int} (hx:x.natAbs<=M) (hy:y.natAbs<=M) (f0:0<=f) (f1:f<=T) (r0:0<=r) (r1:r<=T) (hs:(0<=x/\y<=0)\/(x<=0/\0<=y)):(x*f+y*r).natAbs<=M*T:=by
 rcases hs with ⟨a,b⟩ | ⟨a,b⟩
 ·have u:=OS (a:=x) (c:=M) (b:=f) (d:=T) 0#z f1 f0 0#z
  have v:=OS (a:=-y) (c:=M) (b:=r) (d:=T) 0#z r1 r0 0#z
  have A:=wX a f0
  have B:=wX (a:=-y) (b:=r) 0#z r0
  rw [UI] at v B
  simp?
 ·have u:=OS (a:=-x) (c:=M) (b:=f) (d:=T) 0#z f1 f0 0#z
  have v:=OS (a:=y) (c:=M) (b:=r) (d:=T) 0#z r1 r0 0#z
  have A:=wX (a:=-x) (b:=f) 0#z f0
  have B:=wX (a:=y) (b:=r) 0#z r0
  rw [UI] at u A
  simp?
def Xn {a b:Int} (f0:0<=f) (r0:0<=r) (tp:0<t) (t1:0<=a) (t2:0<=b) (t3:a<=l) (t4:b<=340282366920938463463374607431768211456*t) (t5:57896044618658097711785492504343953926634992332820282019728792003956564819968*t<=h) (mA:u.natAbs<=340282366920938463463374607431768211456*t) (mB:v.natAbs<=340282366920938463463374607431768211456*t):(a+u).natAbs+(b+v).natAbs<(h+f).natAbs+(l+r).natAbs:=by
 have k1:=OF a u
 have k2:=OF b v
 have k3:(h+f).natAbs=h+f:=JI (by lia)
 have k4:(l+r).natAbs=l+r:=JI (by lia)
 have k5:=JI t1
 have k6:=JI t2
 generalize (a+u).natAbs=z1 at *
 generalize (b+v).natAbs=z2 at *
 generalize (h+f).natAbs=z3 at *
 generalize (l+r).natAbs=z4 at *
 generalize a.natAbs=z5 at *
 generalize b.natAbs=z6 at *
 generalize u.natAbs=z7 at *
 generalize v.natAbs=z8 at *
 lia
def jI.less (h:jI H L high low x0 y0 x1 y1) (hy:y0≠0) (hL:L<=H) (h1:57896044618658097711785492504343953926634992332820282019728792003956564819968<=H)
 (hH:H<115792089237316195423570985008687907853269984665640564039457584007913129639936) (hl:low<=340282366920938463463374607431768211456) (f0:0<=f) (f1:f<T) (r0:0<=r) (r1:r<T) :
 (x0*(H*T+f)+y0*(L*T+r)).natAbs+(x1*(H*T+f)+y1*(L*T+r)).natAbs<(H*T+f).natAbs+(L*T+r).natAbs:=by
 obtain ⟨D,G,E,I⟩:=h.small hy hL hH
 rcases h.st with ⟨_,z,_⟩ | ⟨_,v,_,_,_⟩
 ·exact absurd z hy
 have A:x0*(H*T+f)+y0*(L*T+r)=high*T+(x0*f+y0*r):=by rw [<- h.eh];grind
 have B:x1*(H*T+f)+y1*(L*T+r)=low*T+(x1*f+y1*r):=by rw [<- h.el];grind
 have J:=vF f1
 have N:=vF r1
 have Q:=Xv (M:=340282366920938463463374607431768211456) (UD.mpr D) (UD.mpr G) f0 J r0 N (h.sg.imp (λz=>⟨z.2.1,z.2.2.1⟩) λz=>⟨z.2.1,z.2.2.1⟩)
 have R:=Xv (M:=340282366920938463463374607431768211456) (UD.mpr E) (UD.mpr I) f0 J r0 N ((h.sg.imp (λz=>⟨z.2.2.2.1,Ay 0#y z.2.2.2.2⟩) λz=>⟨z.2.2.2.1,Ay z.2.2.2.2 0#y⟩).symm)
 have O:0<T:=Int.lt_of_le_of_lt f0 f1
 have u:=vF O
 rw [A,B]
 exact Xn f0 r0 O (wX (Ay h.l0 h.lh) u) (wX h.l0 u) (OX v u) (OX hl u) (OX h1 u) Q R
def SV (d:x0*y1-x1*y0=1\/x0*y1-x1*y0=-1):cL (x0*a+y0*b) (x1*a+y1*b)=cL a b:=by
 refine Nat.dvd_antisymm ?_ ?_
 ·have z:(cL (x0*a+y0*b) (x1*a+y1*b):Int)∣x0*a+y0*b:=OH ..
  have A:(cL (x0*a+y0*b) (x1*a+y1*b):Int)∣x1*a+y1*b:=OG ..
  generalize (cL (x0*a+y0*b) (x1*a+y1*b))=g at z A
  obtain ⟨u,hu⟩:=z
  obtain ⟨v,hv⟩:=A
  refine aeg ?_ ?_
  ·rcases d with d | d
   ·exact ⟨y1*u-y0*v,by
     have:(x0*y1-x1*y0)*a=g*(y1*u-y0*v):=by grind
     rw [d] at this;simp?⟩
   ·exact ⟨-(y1*u-y0*v),by
     have:-(x0*y1-x1*y0)*a=g*(-(y1*u-y0*v)):=by grind
     rw [d] at this;simp?⟩
  ·rcases d with d | d
   ·exact ⟨x0*v-x1*u,by
     have:(x0*y1-x1*y0)*b=g*(x0*v-x1*u):=by grind
     rw [d] at this;simp?⟩
   ·exact ⟨-(x0*v-x1*u),by
     have:-(x0*y1-x1*y0)*b=g*(-(x0*v-x1*u)):=by grind
     rw [d] at this;simp?⟩
 ·have z:(cL a b:Int)∣a:=OH ..
  have A:(cL a b:Int)∣b:=OG ..
  exact aeg (aeh (T6 z) (T6 A)) (aeh (T6 z) (T6 A))
def jI.gcd (h:jI H L high low x0 y0 x1 y1):cL (x0*a+y0*b) (x1*a+y1*b)=cL a b:=
 SV (h.sg.imp (·.1) (·.1))
def SX (lo:(2:Int) ^ (255+t)<=x) (hi:x<(2:Int) ^ (256+t)) :
 57896044618658097711785492504343953926634992332820282019728792003956564819968<=x/2 ^ t/\x/2 ^ t<115792089237316195423570985008687907853269984665640564039457584007913129639936:=by
 have u:(0:Int)<2 ^ t:=Z9 0#y
 refine ⟨(acE u).mpr ?_,(Int.ediv_lt_iff_lt_mul u).mpr ?_⟩
 ·rw [aei] at lo;exact lo
 ·rw [aei] at hi;exact hi
def PZ (h:jI H L high low x0 y0 x1 y1) (hy:y0≠0) (yx:y<=x) (lo:(2:Int) ^ (255+t)<=x) (hi:x<(2:Int) ^ (256+t))
 (eH:H=x/2 ^ t) (eL:L=y/2 ^ t) (hl:low<=340282366920938463463374607431768211456) :
 (x0*x+y0*y).natAbs+(x1*x+y1*y).natAbs<x.natAbs+y.natAbs:=by
 have v:(0:Int)<2 ^ t:=Z9 0#y
 have A:=SX lo hi
 have e1:=Uc x (2 ^ t)
 have e2:=Uc y (2 ^ t)
 have E:=As x (b:=2 ^ t) 0#z
 have G:=As y (b:=2 ^ t) 0#z
 have B:=IK x v
 have D:=IK y v
 have u:L<=H:=by rw [eH,eL];exact ZE v yx
 have:=h.less hy u (by rw [eH];exact A.1) (by rw [eH];exact A.2) hl E B G D
 rw [eH,eL,xh (x/2 ^ t),xh (y/2 ^ t),e1,e2] at this
 exact this
def xR (hp:p=if b>a then b else a) (hq:q=if b<a then b else a):cL p q=cL a b:=by
 subst hp hq
 by_cases h:b>a
 ·rw [if_pos h,if_neg 0#z];exact Z2 b a
 ·by_cases k:b<a
  ·rw [if_neg h,if_pos k]
  ·have:a=b:=by simp?
   subst this;simp
def Xx (A B:Nat):0<=(if (B:Int)<(A:Int) then (B:Int) else (A:Int)):=by
 split
 ·exact Oz _
 ·exact Oz _
def Ql (A B:Nat):((if (B:Int)>(A:Int) then (B:Int) else (A:Int))=(B:Int)/\(if (B:Int)<(A:Int) then (B:Int) else (A:Int))=(A:Int)/\(A:Int)<=(B:Int))\/((if (B:Int)>(A:Int) then (B:Int) else (A:Int))=(A:Int)/\(if (B:Int)<(A:Int) then (B:Int) else (A:Int))=(B:Int)/\(B:Int)<=(A:Int)):=by
 rcases ad4 (A:Int) (B:Int) with h | h
 ·exact .inl ⟨if_pos h,if_neg (CK.mpr (vF h)),vF h⟩
 ·refine .inr ⟨if_neg (CK.mpr h),?_,h⟩
  split
  ·rfl
  ·rename_i u
   exact Int.le_antisymm (CK.mp u) h
def Xw (A B:Nat):(if (B:Int)<(A:Int) then (B:Int) else (A:Int))<=(if (B:Int)>(A:Int) then (B:Int) else (A:Int)):=by
 rcases Ql A B with ⟨e1,e2,h⟩ | ⟨e1,e2,h⟩ <;> rw [e1,e2] <;> exact h
def Qk {z:Int} (h:A+B<=z.natAbs):((if (B:Int)>(A:Int) then (B:Int) else (A:Int))+(if (B:Int)<(A:Int) then (B:Int) else (A:Int))).natAbs<=z.natAbs:=by
 rcases Ql A B with ⟨e1,e2,_⟩ | ⟨e1,e2,_⟩ <;> rw [e1,e2]
 ·exact g9 (OF _ _) (by rw [JT];exact h)
 ·exact g9 (OF _ _) h
def ab4 {A:Nat} (ls:A+B<x.natAbs+y.natAbs) (y0:0<=y) (yx:y<=x):G8 (if (B:Int)>(A:Int) then (B:Int) else (A:Int))+G8 (if (B:Int)<(A:Int) then (B:Int) else (A:Int))<G8 x+G8 y:=by
 have u:x.toNat=x.natAbs:=acU (Ay y0 yx) |> λe=>adW (e.trans (JI (Ay y0 yx)).symm)
 have v:y.toNat=y.natAbs:=acU y0 |> λe=>adW (e.trans (JI y0).symm)
 rw [u,v]
 rcases Ql A B with ⟨e1,e2,_⟩ | ⟨e1,e2,_⟩ <;> rw [e1,e2,Zz,Zz]
 ·rw [JT]
  exact ls
 ·exact ls
def ab5 {x:Int} (ls:A+B<x.natAbs+y.natAbs) (y0:0<=y) (yx:y<=x):A+B<=(x+y).natAbs:=by simp?
def ae2 (y0:0<=y):1*x+-(x.fdiv y)*y=x % y:=by
 have u:=Uc x y
 rw [xh] at u
 rw [Hg _ y0,UI]
 simp?
def aax {x:Int} (y1:1<=y) (yx:y<=x):(0*x+1*y).natAbs+(1*x+-(x.fdiv y)*y).natAbs<x.natAbs+y.natAbs:=by
 have m0:=As x (b:=y) 0#z
 have m1:=IK x (b:=y) 0#z
 rw [ae2 0#z]
 simp?
structure Qt (t b:Int) (q:Rat):Prop where
 pos:1<=b
 eq:(t:Rat)=q*(b:Rat)
structure Fr (t b:Int) (q:Rat):Prop where
 pos:1<=b
 co:cL t b=1
 eq:(t:Rat)=q*(b:Rat)
def Fr.qt (h:Fr t b q):Qt t b q:=⟨h.pos,h.eq⟩
def gU {b:Int} (h:b≠0):(b:Rat)≠0:=by
 intro e
 first|exact h|refine h ?_|refine h ?_ ?_
 have:((b:Int):Rat)=((0:Int):Rat):=by rw [e];rfl
 exact OL.mp this
def Fr.Qn (h:Low T B t b) (hB:B≠0) (e:(T:Rat)=q*(B:Rat)):Fr t b q:=by
 refine ⟨h.pos,h.co,?_⟩
 have k:=congrArg (λx:Int=>(x:Rat)) h.eq
 simp only [yJ] at k
 have hB':=gU hB
 grind
def Fr.unique (h:Fr t b q) (h':Fr t' b' q):t=t'/\b=b':=by
 refine Qf h.pos h'.pos h.co h'.co ?_
 have e:((t*b':Int):Rat)=((t'*b:Int):Rat):=by
  have e1:=h.eq
  have e2:=h'.eq
  simp only [yJ]
  grind
 exact OL.mp e
def Fr.worth (h:Fr t b q) (h':Fr t' b' q') (e:t=t') (e':b=b'):q=q':=by
 subst e e'
 have hb:=gU (b:=b) (by have:=h.pos;simp?)
 have e1:=h.eq
 have e2:=h'.eq
 grind
def zk {b:Int} (hb:1<=b) (hd:1<=d):1<=b*d:=by
 have:=JU (show 0<b by simp?) (show 0<d by simp?)
 simp?
def Qt.plus (h:Qt a b q) (k:Qt c d r):Qt (a*d+c*b) (b*d) (q+r):=by
 refine ⟨zk h.pos k.pos,?_⟩
 have e1:=h.eq
 have e2:=k.eq
 simp only [yJ,adC]
 grind
def Qt.minus (h:Qt a b q) (k:Qt c d r):Qt (a*d-c*b) (b*d) (q-r):=by
 refine ⟨zk h.pos k.pos,?_⟩
 have e1:=h.eq
 have e2:=k.eq
 simp only [yJ,yK]
 grind
def Qt.times (h:Qt a b q) (k:Qt c d r):Qt (a*c) (b*d) (q*r):=by
 refine ⟨zk h.pos k.pos,?_⟩
 have e1:=h.eq
 have e2:=k.eq
 simp only [yJ]
 grind
def Qt.neg (h:Qt a b q):Qt (-a) b (-q):=by
 refine ⟨h.pos,?_⟩
 have e1:=h.eq
 simp only [OM]
 grind
def Qt.whole (m:Int):Qt m 1 (m:Rat):=⟨by simp?,by simp⟩
def Fr.whole (m:Int):Fr m 1 (m:Rat):=⟨by simp?,by simp,by simp⟩
def Qt.div (h:Qt a b q) (hs:0<s):Qt a (b*s) (q/(s:Rat)):=by
 refine ⟨zk h.pos 0#z,?_⟩
 have e1:=h.eq
 have hs':=gU (b:=s) 0#z
 simp only [yJ]
 grind
def Qt.ajJ (h:Qt a b q) (hs:s<0):Qt (-a) (b*-s) (q/(s:Rat)):=by
 have k:=h.neg.div (s:=-s) 0#z
 have hs':=gU (b:=s) 0#z
 have e:-q/((-s:Int):Rat)=q/(s:Rat):=by
  simp only [OM]
  grind
 rw [e] at k
 exact k
def abl (h:Qt a b q) (k:Qt c d r) (hc:c≠0):b*c≠0/\((a*d:Int):Rat)=q/r*((b*c:Int):Rat):=by
 have hb:=h.pos
 have hd:=k.pos
 refine ⟨Int.mul_ne_zero 0#z hc,?_⟩
 have e1:=h.eq
 have e2:=k.eq
 have u:=gU hc
 have hd':=gU (b:=d) 0#z
 have hr:r≠0:=by
  intro z
  rw [z] at e2
  first|exact u|refine u ?_|refine u ?_ ?_
  grind
 simp only [yJ]
 grind
def Qt.Zd (h:Qt a b q):a=0↔q=0:=by
 have e:=h.eq
 have hb:=gU (b:=b) (by have:=h.pos;simp?)
 constructor
 ·intro z
  subst z
  have:(0:Rat)=q*(b:Rat):=by rw [<- e];rfl
  grind
 ·intro z
  subst z
  have:((a:Int):Rat)=((0:Int):Rat):=by rw [e];grind
  exact OL.mp this
def Qt.lt_iff (h:Qt a b q) (k:Qt c d r):a*d<c*b↔q<r:=by
 have e1:=h.eq
 have e2:=k.eq
 have v:(0:Rat)<(b:Rat):=by have:=h.pos;exact Ux.mpr 0#z
 have A:(0:Rat)<(d:Rat):=by have:=k.pos;exact Ux.mpr 0#z
 have u:(0:Rat)<(b:Rat)*(d:Rat):=aej v A
 have l:((a*d:Int):Rat)=q*((b:Rat)*(d:Rat)):=by simp only [yJ];grind
 have m:((c*b:Int):Rat)=r*((b:Rat)*(d:Rat)):=by simp only [yJ];grind
 rw [<- B3,l,m]
 exact Ms u
noncomputable def gO (q:Rat):Rat:=if q<0 then -q else q
def abB (q:Rat):0<=gO q:=by unfold gO;split <;> grind
def vX:gO q<=w↔-w<=q/\q<=w:=by unfold gO;split <;> grind
def Qt.abs (h:Qt a b q):Qt (a.natAbs:Int) b (gO q):=by
 have hb:(0:Rat)<(b:Rat):=by have:=h.pos;exact Ux.mpr 0#z
 have z:a<0↔q<0:=by
  have l:=Qt.lt_iff h (Qt.whole 0)
  simp at l
  exact l
 unfold gO
 by_cases h0:a<0
 ·rw [if_pos (z.mp h0)]
  have e:(a.natAbs:Int)=-a:=by simp?
  rw [e]
  exact h.neg
 ·rw [if_neg (λq=>h0 (z.mpr q))]
  have e:(a.natAbs:Int)=a:=by simp?
  rw [e]
  exact h
noncomputable def fz (t:Rat) (q:Rat) (u:Rat) (t':Rat) (q':Rat):Rat:=(q*(t'-u)+q'*(u-t))/(t'-t)
def Ca (h:t≠t'):q+(q'-q)/(t'-t)*(u-t)=fz t q u t' q':=by
 unfold fz
 have:t'-t≠0:=by grind
 grind
def Fr.own (q:Rat):Fr q.num (q.den:Int) q:=by
 have hp:=q.den_pos
 have hd:((q.den:Int):Rat)≠0:=gU 0#z
 refine ⟨by simp?,?_,?_⟩
 ·have:=q.reduced
  exact this
 ·have h:=Rat.num_divInt_den q
  rw [Rat.divInt_eq_div] at h
  grind
def Fr.DT (h:Fr t b q):t=q.num/\b=(q.den:Int):=h.unique (Fr.own q)
noncomputable def iD {α:Type} (s:α->Bool) (es:List α) (i:Nat):Bool:=decide (0<i)&&((es[i-1]?).map s).getD false
noncomputable def parts {α:Type} (s:α->Bool) (es:List α):Nat->List (List α)
 | 0=>[]
 | i+1=>match es[i]? with
   | none=>parts s es i
   | some e=>if s e=true then (if iD s es i=true then (parts s es i).dropLast++[((parts s es i).getLast?.getD [])++[e]] else parts s es i++[[e]]) else parts s es i
section
variable {α:Type} {s:α->Bool} {es:List α} {i:Nat} {e:α}
def Js (h:es[i]?=some e) (hs:s e=false):parts s es (i+1)=parts s es i:=by
 show (match es[i]? with | none=>_ | some e=>_)=_
 rw [h]
 show (if s e=true then _ else _)=_
 rw [hs]
 rfl
def Jt (h:es[i]?=some e) (hs:s e=true) (hi:iD s es i=false):parts s es (i+1)=parts s es i++[[e]]:=by
 show (match es[i]? with | none=>_ | some e=>_)=_
 rw [h]
 show (if s e=true then (if iD s es i=true then _ else _) else _)=_
 rw [hs,hi]
 rfl
def XU (h:es[i]?=some e) (hs:s e=true) (hi:iD s es i=true) (hp:parts s es i=t++[r]):parts s es (i+1)=t++[r++[e]]:=by
 show (match es[i]? with | none=>_ | some e=>_)=_
 rw [h]
 show (if s e=true then (if iD s es i=true then _ else _) else _)=_
 rw [hs,hi,hp]
 simp
def Br:∀i:Nat,(parts s es i).length<=i
 | 0=>gI _
 | i+1=>by
   have ih:=Br i
   show (match es[i]? with | none=>_ | some e=>_:List (List α)).length<=i+1
   cases es[i]? with
   | none=>exact Uo ih
   | some e=>
     show (if s e=true then (if iD s es i=true then _ else _) else _:List (List α)).length<=i+1
     split
     ·split
      ·rw [jf,List.length_dropLast]
       simp
       simp?
      ·rw [jf]
       simp
       simp?
     ·exact Uo ih
def FJ (h:iD s es i=true):∃t r,parts s es i=t++[r]:=by
 unfold iD at h
 rw [ue] at h
 obtain ⟨v,u⟩:=h
 have v:=kO v
 obtain ⟨j,rfl⟩:∃j,i=j+1:=⟨i-1,by simp?⟩
 rw [ac1] at u
 cases e:es[j]? with
 | none=>rw [e] at u;simp at u
 | some d=>
   rw [e] at u
   have z:s d=true:=by simpa using u
   cases hr:iD s es j with
   | true=>
     refine ⟨(parts s es j).dropLast,((parts s es j).getLast?.getD [])++[d],?_⟩
     show (match es[j]? with | none=>_ | some e=>_)=_
     rw [e]
     show (if s d=true then (if iD s es j=true then _ else _) else _)=_
     rw [z,hr]
     rfl
   | false=>exact ⟨_,_,Jt e z hr⟩
def P6 (h:es[i]?=some e):iD s es (i+1)=s e:=by
 unfold iD
 rw [ac1,h]
 simp
end
def F5 (h:0<s):gO (q*s)=gO q*s:=by
 unfold gO
 by_cases h0:q<0
 ·have:q*s<0:=by
   have:=T3 h0 h
   grind
  rw [if_pos h0,if_pos this]
  grind
 ·have:¬q*s<0:=by
   have u:0<=q:=by grind
   have:=adK u (show 0<=s by grind)
   grind
  rw [if_neg h0,if_neg this]
def cast_pos {b:Int} (h:0<b):(0:Rat)<(b:Rat):=Ux.mpr h
def MM {t:Int} (h:t<t'):((t':Rat)-(t:Rat))≠0:=by
 have:(t:Rat)<(t':Rat):=B3.mpr h
 grind
def qV (h:t'-t≠0):fz t q u t' q'*(t'-t)=q*(t'-u)+q'*(u-t):=by
 unfold fz
 grind
def aeZ (hi:Fr a b qi) (hj:Fr a' b' qj) (hp:Fr c e qp) (h:ti<tj) :
 Qt (c*(b'*b*(tj-ti))-e*(a*(b'*(tj-ti))+(a'*b-a*b')*(tp-ti))) e ((qp-fz ti qi tp tj qj)*((b'*b*(tj-ti):Int):Rat)):=by
 refine ⟨hp.pos,?_⟩
 have e1:=hi.eq
 have e2:=hj.eq
 have e3:=hp.eq
 have hX:=qV (t:=(ti:Rat)) (q:=qi) (u:=(tp:Rat)) (t':=(tj:Rat)) (q':=qj) (MM h)
 simp only [yJ,yK,adC]
 generalize fz (ti:Rat) qi (tp:Rat) (tj:Rat) qj=X at *
 grind
structure tS (s:Nat->Rat) (i m k:Nat):Prop where
 lo:i<k
 hi:k<m
 top:∀k',i<k'->k'<m->s k'<=s k
 fst:∀k',i<k'->k'<k->s k'<s k
section
variable {s s':Nat->Rat} {i m k k':Nat} {c:Rat}
def tS.first:tS s i (i+2) (i+1):=⟨by simp?,by simp?,λk' h1 h2=>by
 obtain rfl:k'=i+1:=by simp?
 exact rQ,λk' h1 h2=>by simp?⟩
def tS.keep (h:tS s i m k) (h1:s m<=s k):tS s i (m+1) k:=⟨h.lo,by have:=h.hi;simp?,λk' h2 h3=>by
 by_cases e:k'=m
 ·subst e;exact h1
 ·exact h.top k' h2 0#z,h.fst⟩
def tS.next (h:tS s i m k) (h1:s k<s m):tS s i (m+1) m:=⟨by have:=h.lo;have:=h.hi;simp?,by simp?,λk' h2 h3=>by
 by_cases e:k'=m
 ·subst e;exact rQ
 ·have:=h.top k' h2 0#z
  grind,λk' h2 h3=>by
 have:=h.top k' h2 0#z
 grind⟩
end
structure MD (L:Nat->Nat->Prop) (N:Nat) (t:Nat->Int):Prop where
 first:t 0=0
 le:∀i j,i<j->j<N->L i j->t j<=t i+1
 ex:∀j,0<j->j<N->∃i,i<j/\L i j/\t j=t i+1
structure r9 (L:Nat->Nat->Prop) (N f:Nat) (t:Nat->Int):Prop where
 first:t 0=0
 le:∀i j,i<f->i<j->j<N->L i j->t j<=t i+1
 ex:∀j,0<j->j<N->t j=(N:Int)\/∃i,i<f/\i<j/\L i j/\t j=t i+1
 lo:∀j,j<N->0<=t j
 hi:∀j,j<N->t j<=(N:Int)
def r9.start:r9 L N 0 (λj=>if j=0 then 0 else (N:Int)):=by
 refine ⟨rfl,λi j h=>absurd h (ON _),λj h0 _=>.inl (if_neg 0#z),λj _=>?_,λj _=>?_⟩ <;> (show _<=_;split <;> simp?)
def r9.step (h:r9 L N f t) (hL:∀j,L f j->f<j) (e:∀j,j<N->(L f j->u j=if t f+1<t j then t f+1 else t j)/\(¬L f j->u j=t j)) (hf:f<N):r9 L N (f+1) u:=by
 have same:∀i,i<=f->i<N->u i=t i:=λi S R=>(e i R).2 λz=>by have:=hL i z;simp?
 have Q:u 0=0:=by rw [same 0 0#z 0#z];exact h.first
 have hl:=h.lo f hf
 refine ⟨Q,λi j S I v B=>?_,λj D v=>?_,λj v=>?_,λj v=>?_⟩
 ·rw [same i 0#z 0#z]
  by_cases hi':i=f
  ·subst hi'
   rw [(e j v).1 B]
   split <;> simp?
  ·have E:=h.le i j 0#z I v B
   by_cases hLf:L f j
   ·rw [(e j v).1 hLf]
    split <;> simp?
   ·rw [(e j v).2 hLf]
    exact E
 ·by_cases hLf:L f j
  ·have G:=hL j hLf
   have A:=(e j v).1 hLf
   by_cases hc:t f+1<t j
   ·rw [if_pos hc] at A
    exact .inr ⟨f,by simp?,G,hLf,by rw [A,same f 0#z hf]⟩
   ·rw [if_neg hc] at A
    rcases h.ex j D v with z | ⟨i,U,J,M,O⟩
    ·exact .inl (A.trans z)
    ·exact .inr ⟨i,by simp?,J,M,by rw [A,same i 0#z 0#z];exact O⟩
  ·have A:=(e j v).2 hLf
   rcases h.ex j D v with z | ⟨i,U,J,M,O⟩
   ·exact .inl (A.trans z)
   ·exact .inr ⟨i,by simp?,J,M,by rw [A,same i 0#z 0#z];exact O⟩
 ·have E:=h.lo j v
  by_cases hLf:L f j
  ·rw [(e j v).1 hLf]
   split <;> simp?
  ·rw [(e j v).2 hLf]
   exact E
 ·have E:=h.hi j v
  by_cases hLf:L f j
  ·rw [(e j v).1 hLf]
   split <;> simp?
  ·rw [(e j v).2 hLf]
   exact E
def r9.done (h:r9 L N f t) (hs:∀j,0<j->j<N->L (j-1) j) (hf:N<=f+1):MD L N t:=by
 have up:∀j,j<N->t j<=(j:Int):=by
  intro j
  induction j with
  | zero=>intro _;rw [h.first];simp?
  | succ j ih=>
    intro u
    have h1:=ih 0#z
    have h2:=h.le j (j+1) 0#z 0#z u (hs (j+1) 0#z u)
    simp?
 refine ⟨h.first,λi j v u B=>h.le i j 0#z v u B,λj A u=>?_⟩
 rcases h.ex j A u with z | ⟨i,i1,D,E,G⟩
 ·have:=up j u
  simp?
 ·exact ⟨i,D,E,G⟩
def Ib {α:Type} (N:Nat) (f:Nat->α) (j:Nat) (v:α):((jg N).map f).set j v=(jg N).map (λi=>if i=j then v else f i):=by
 first|exact adb|refine adb ?_|refine adb ?_ ?_
 intro i
 rw [List.getElem?_set]
 by_cases hi:i<N
 ·rw [gF,OY hi,gF,OY hi]
  by_cases e:j=i
  ·subst e
   simp [hi]
  ·have u:¬i=j:=λz=>e z.symm
   simp [e,u]
 ·have A:(jg N)[i]?=none:=by simp;simp?
  rw [gF,gF,A]
  by_cases e:j=i
  ·subst e
   simp;simp?
  ·simp [e]
def zj {α:Type} {f:Nat->α} (h:j<N):((jg N).map f)[j]?=some (f j):=by
 rw [gF,OY h]
 rfl
def zV {a:Rat} (h:0<c):a/c<=b↔a<=b*c:=by
 have e:a/c*c=a:=by grind
 constructor
 ·intro z
  have:=V2 z (show 0<=c by grind)
  rw [e] at this
  exact this
 ·intro z
  exact Ze (by rw [e];exact z) h
def vY {a:Rat} (h:0<c):a<=b/c↔a*c<=b:=by
 have e:b/c*c=b:=by grind
 constructor
 ·intro z
  have:=V2 z (show 0<=c by grind)
  rw [e] at this
  exact this
 ·intro z
  exact Ze (by rw [e];exact z) h
def J9 (h1:ti<tk) (h2:tk<tj) :
 gO (qk-fz ti qi tk tj qj)<=β↔(qk-β-qi)/(tk-ti)<=(qj-qi)/(tj-ti)/\(qj-qi)/(tj-ti)<=(qk+β-qi)/(tk-ti):=by
 rw [<- Ca (u:=tk) (show ti≠tj by grind)]
 have v:0<tk-ti:=by grind
 generalize (qj-qi)/(tj-ti)=s
 rw [vX,zV v,vY v]
 constructor <;> rintro ⟨a,b⟩ <;> constructor <;> grind
noncomputable def loP (t v:Nat->Rat) (B:Rat) (i j:Nat):Rat:=(v j-B-v i)/(t j-t i)
noncomputable def hiP (t v:Nat->Rat) (B:Rat) (i j:Nat):Rat:=(v j+B-v i)/(t j-t i)
noncomputable def stP (t v:Nat->Rat) (i j k:Nat):Rat:=v j-fz (t i) (v i) (t j) (t k) (v k)
def agT (t:Nat->Rat) (n:Nat):Prop:=∀i j,i<j->j<n->t i<t j
def uE (s:Rat) (h:ta<tc):fz ta (x-s*ta) tb tc (y-s*tc)=fz ta x tb tc y-s*tb:=by
 have h1:=qV (t:=ta) (q:=x-s*ta) (u:=tb) (t':=tc) (q':=y-s*tc) (by grind)
 have h2:=qV (t:=ta) (q:=x) (u:=tb) (t':=tc) (q':=y) (by grind)
 have v:tc-ta≠0:=by grind
 have e:(fz ta (x-s*ta) tb tc (y-s*tc)-(fz ta x tb tc y-s*tb))*(tc-ta)=0:=by grind
 rcases adD.mp e with z | z
 ·grind
 ·exact absurd z v
def MP (h1:ta<tb) (h2:tb<tc) (hx:x<M) (hy:y<M):fz ta x tb tc y<M:=by
 have e:=qV (t:=ta) (q:=x) (u:=tb) (t':=tc) (q':=y) (by grind)
 have p1:=(Ms (show 0<tc-tb by grind)).mpr hx
 have p2:=(Ms (show 0<tb-ta by grind)).mpr hy
 refine (Ms (show 0<tc-ta by grind)).mp ?_
 rw [e]
 grind
def MO (h1:ta<tb) (h2:tb<tc) (hx:M<x) (hy:M<y):M<fz ta x tb tc y:=by
 have e:=qV (t:=ta) (q:=x) (u:=tb) (t':=tc) (q':=y) (by grind)
 have p1:=(Ms (show 0<tc-tb by grind)).mpr hx
 have p2:=(Ms (show 0<tb-ta by grind)).mpr hy
 refine (Ms (show 0<tc-ta by grind)).mp ?_
 rw [e]
 grind
def Sw (h1:t i<t j) (h2:t j<t k) (a:B<(v j-s*t j)-(v i-s*t i)) (b:B<(v j-s*t j)-(v k-s*t k)):B<stP t v i j k:=by
 have c:=MP (M:=v j-s*t j-B) h1 h2 (show v i-s*t i<_ by grind) (show v k-s*t k<_ by grind)
 rw [uE s (by grind)] at c
 unfold stP
 grind
def Sx (h1:t i<t j) (h2:t j<t k) (a:B<(v i-s*t i)-(v j-s*t j)) (b:B<(v k-s*t k)-(v j-s*t j)):B < -stP t v i j k:=by
 have c:=MO (M:=v j-s*t j+B) h1 h2 (show _<v i-s*t i by grind) (show _<v k-s*t k by grind)
 rw [uE s (by grind)] at c
 unfold stP
 grind
def abA (h:w<q\/w < -q):w<gO q:=by
 unfold gO
 split <;> grind
def ahn (hr:agT t n) (hp:∀i j k,i<j->j<k->k<n->gO (stP t v i j k)<=B) (hB:0<=B) (hij:i<j) (hj:j<n) (hkl:k<l) (hl:l<n):loP t v B i j<=hiP t v B k l:=by
 first|exact kH.mp|refine kH.mp ?_|refine kH.mp ?_ ?_
 intro hlt
 have G:=hr i j hij hj
 have I:=hr k l hkl hl
 obtain ⟨s,O,Q⟩:∃s,hiP t v B k l<s/\s<loP t v B i j:=⟨(hiP t v B k l+loP t v B i j)/2,by grind,by grind⟩
 have e1:B<(v j-s*t j)-(v i-s*t i):=by
  have h:=(vY (a:=s) (b:=v j-B-v i) (c:=t j-t i) (by grind))
  have:¬(v j-B-v i)/(t j-t i)<=s:=by unfold loP at Q;grind
  rw [zV (by grind)] at this
  grind
 have e2:B<(v k-s*t k)-(v l-s*t l):=by
  have:¬s<=(v l+B-v k)/(t l-t k):=by unfold hiP at O;grind
  rw [vY (by grind)] at this
  grind
 have u:∀a b c,a<b->b<c->c<n->(B<stP t v a b c\/B < -stP t v a b c)->False:=λa b c J L M N=>by
  have g1:=hp a b c J L M
  have g2:=abA N
  grind
 by_cases hc:v k-s*t k<=v j-s*t j
 ·by_cases hjl:j<l
  ·exact u i j l hij hjl hl (.inl (Sw G (hr j l hjl hl) e1 (by grind)))
  ·have E:j≠l:=λz=>by subst z;grind
   have D:l<j:=by simp?
   exact u k l j hkl D hj (.inr (Sx I (hr l j D hj) e2 (by grind)))
 ·by_cases hik:i<k
  ·exact u i k l hik hkl hl (.inl (Sw (hr i k hik 0#z) I (by grind) e2))
  ·have E:i≠k:=λz=>by subst z;grind
   have A:k<i:=by simp?
   exact u k i j A hij hj (.inr (Sx (hr k i A 0#z) G (by grind) e1))
def Oi (h1:t i<t j) (h2:t j<t k) (a1:loP t v B i j<=s) (a2:s<=hiP t v B i j) (b1:loP t v B j k<=s) (b2:s<=hiP t v B j k):gO (stP t v i j k)<=B:=by
 have u:t i<t k:=by grind
 unfold loP at a1 b1
 unfold hiP at a2 b2
 rw [zV (by grind)] at a1 b1
 rw [vY (by grind)] at a2 b2
 rw [vX]
 unfold stP
 have e:=uE (ta:=t i) (tb:=t j) (tc:=t k) (x:=v i) (y:=v k) s u
 constructor
 ·first|exact kH.mp|refine kH.mp ?_|refine kH.mp ?_ ?_
  intro z
  have c:=MP (M:=v j-s*t j-(v j-fz (t i) (v i) (t j) (t k) (v k))) (x:=v i-s*t i) (y:=v k-s*t k) h1 h2 (by grind) (by grind)
  rw [e] at c
  grind
 ·first|exact kH.mp|refine kH.mp ?_|refine kH.mp ?_ ?_
  intro z
  have c:=MO (M:=v j-s*t j-(v j-fz (t i) (v i) (t j) (t k) (v k))) (x:=v i-s*t i) (y:=v k-s*t k) h1 h2 (by grind) (by grind)
  rw [e] at c
  grind
end Mth
section
open PySem PySem.Spec PyProof.Rows L2 Mth
namespace My
def dG (hx:Sz m x) (hy:Sz n y) (h:m+n<=134217728:=by decide):IntMulOk x y:=
 IntMulOk.of_le (JP.mpr hx) (JP.mpr hy) h
def mulR (h1:-(2 ^ 64)<y) (h2:y<2 ^ 64):IntMulOk x y:=aah.ok (.inr ⟨h1,h2⟩)
def mulL (h1:-(2 ^ 64)<x) (h2:x<2 ^ 64):IntMulOk x y:=aah.ok (.inl ⟨h1,h2⟩)
def Ed (_ j:Int):Prop:=j≠0/\j.natAbs.log2<9000
def bE:t6 X (pI .Mult) (rI IntMulOk λi j=>.int (i*j)):=opI λ_ _ _ _ _ _ _ hc q=>mul_int q hc
def fQ:t6 X (pI .FloorDiv) (rI Ed λi j=>.int (i.fdiv j)):=opI λ_ _ _ _ _ _ _ hc q=>floordiv_int hc.1 q (.inl (PyProof.noPylong_of_log2 hc.2))
mutual
inductive Den (H:Hp):V->vH->Prop where
 | bM:Den H .bM .none
 | bl (b:Bool):Den H (.bl b) (.bool b)
 | int (i:Int):Den H (.int i) (.int i)
 | str (x:Str):Den H (.str x) (.str x)
 | tup {a:ah} {xs:0#n} {ds:List vH}:H a=some (.tup xs)->uB H xs ds->Den H (.ref a) (.tuple ds)
 | lst {a:ah} {xs:0#n} {ds:List vH}:H a=some (.lst xs)->uB H xs ds->Den H (.ref a) (.list ds)
inductive uB (H:Hp):List V->List vH->Prop where
 | nil:uB H [] []
 | cons {x:V} {xs:0#n} {d:vH} {ds:List vH}:Den H x d->uB H xs ds->uB H (x::xs) (d::ds)
end
mutual
def Den.reads (ok:tZ P w H h):∀{v:V} {d:vH},Den H v d->∀{u:bq},RelV v u->∃as,Reads h u d as
 | _,_,.bM,u,r=>by cases (show u=Value.none from r);exact ⟨_,Reads.none⟩
 | _,_,.bl b,u,r=>by cases (show u=Value.bool b from r);exact ⟨_,Reads.bool b⟩
 | _,_,.int i,u,r=>by obtain ⟨t,q⟩:=(show ∃t,u=Value.int i t from r);cases q;exact ⟨_,Reads.int i t⟩
 | _,_,.str x,u,r=>by obtain ⟨t,q⟩:=(show ∃t,u=Value.str x t from r);cases q;exact ⟨_,Reads.str x t⟩
 | _,_,@Den.tup _ a xs ds e dd,u,r=>by
   cases (show u=Value.ref a from r)
   obtain ⟨_,its,rv,o,h1,h2,n,h3⟩:=(show d7 P w H h a 0#Z from ok a _ e)
   obtain ⟨as,q⟩:=uB.reads ok dd rv
   exact ⟨as,reads_tuple_at h1 h2 h3 (by simpa using q)⟩
 | _,_,@Den.lst _ a xs ds e dd,u,r=>by
   cases (show u=Value.ref a from r)
   obtain ⟨_,its,n,rv,h1⟩:=(show d7 P w H h a (.lst xs) from ok a _ e)
   obtain ⟨as,q⟩:=uB.reads ok dd rv
   exact ⟨_,reads_list_at h1 rfl rfl (by simpa using q)⟩
def uB.reads (ok:tZ P w H h):∀{vs:0#n} {ds:List vH},uB H vs ds->∀{us:List bq},Vals vs us->∃as,ReadsAll h us ds as
 | _,_,.nil,_,.nil=>⟨_,ReadsAll.nil⟩
 | _,_,.cons d dd,_,.cons r rr=>by
   obtain ⟨as,q⟩:=Den.reads ok d r
   obtain ⟨bs,p⟩:=uB.reads ok dd rr
   exact ⟨_,ReadsAll.cons q p⟩
end
def abw:R2:=λx y H Q=>∃d e,Den H x d/\Den H y e/\G5 d=true/\G5 e=true/\Q (.bl (tY d e)) H
def Ye:R2:=λx y H Q=>∃d e,Den H x d/\Den H y e/\G5 d=true/\G5 e=true/\Q (.bl (!PyData.eqv d e)) H
def K4 (hu:X.A.units+64<mG):t6 X (pP .Eq) abw:=by
 intro pins s σ H x y v u Q I G J h
 obtain ⟨d,e,z,B,L,M,q⟩:=h
 obtain ⟨as,D⟩:=z.reads I.hok G
 obtain ⟨bs,E⟩:=B.reads I.hok J
 exact eq_dataH D E L M hu ⟨.bl _,H,I,rfl,q⟩
def K5 (hu:X.A.units+64<mG):t6 X (pP .NotEq) Ye:=by
 intro pins s σ H x y v u Q I G J h
 obtain ⟨d,e,z,B,L,M,q⟩:=h
 obtain ⟨as,D⟩:=z.reads I.hok G
 obtain ⟨bs,E⟩:=B.reads I.hok J
 exact ne_dataH D E L M hu ⟨.bl _,H,I,rfl,q⟩
def afY (K:bU):0#n->Hp->VK->Prop:=λxs H Q=>∃x n t b,xs=[x,.ty n]/\xM K H x t/\Hi K t (.type n)=some b/\Q (.bl b) H
def Ws:jG X (.builtin "isinstance") (afY X.K):=by
 intro pins s σ H xs us Q I r h
 obtain ⟨x,n,t,b,rfl,B,e,q⟩:=h
 obtain ⟨u,D,rfl,z,v⟩:=vals2 r
 cases (show D=Value.type n from v)
 exact Vn I z B e λA=>⟨.bl b,H,I.tok A,rfl,q⟩
def afE {K:bU}:Hi K (.type "int") (.type "bool")=some false:=by rfl
def bZ:(gc pos (dg [] env)).any (·.1)=false:=by rfl
def cO (h:dg (e::es) env=(false,eval e env)::dg es env) (k:(gc pos (dg es env)).any (·.1)=false):(gc pos (dg (e::es) env)).any (·.1)=false:=by
 rw [h]
 exact k
def pG:dg (.Constant c k pos::es) env=(false,eval (.Constant c k pos) env)::dg es env:=by rfl
def bH:dg (.Name x pos::es) env=(false,eval (.Name x pos) env)::dg es env:=by rfl
def YL:dg (.BinOp a op b pos::es) env=(false,eval (.BinOp a op b pos) env)::dg es env:=by rfl
def An:dg (.Subscript a b pos::es) env=(false,eval (.Subscript a b pos) env)::dg es env:=by rfl
def yF:dg (.Call f as kw pos::es) env=(false,eval (.Call f as kw pos) env)::dg es env:=by rfl
def akH:dg (.UnaryOp op a pos::es) env=(false,eval (.UnaryOp op a pos) env)::dg es env:=by rfl
def akI:kR (.Constant c k pos) tg l env=pure false:=by rfl
def agx:kR (.BinOp a op b pos) tg l env=pure false:=by rfl
def YM:kR (.Subscript a b pos) tg l env=pure false:=by rfl
def cU:kR (.Call f as kw pos) tg l env=pure false:=by rfl
def aiv:kR (.Tuple as k pos) tg l env=pure false:=by rfl
def akJ:kR (.IfExp a b c pos) tg l env=pure false:=by rfl
structure Dn (P:fT) (w:dO) (K:bU) (mg:0#g) (base:cH) (k:Nat) (x:Str) (ps:List Str) (sp:Sp):Prop where
 ex:∃(f:ah) (fd:ia),bf P w K mg base dw k f fd ps sp/\mg x=some 1#e/\tQ K 1#e=true/\Binds K fd ps []
def Ju {X:Cx} {k:Nat} {x:Str} {ps:List Str} {sp:Sp} {p pos:Pos} {e:bz} {es:List bz} {t:TA} (D:Dn X.prog X.w X.K X.mg X.base k x ps sp) (hr:gM k X.A) (hg:Gl X x) (ha:PA X (e::es) t) (hdb:0#e:=by decide)
 (he:0#f:=by rfl) (hpl:0#i:=by rfl):PE X 1#g (wV sp [] E0 t):=by
 obtain ⟨f,fd,ok,z,v,u⟩:=D.ex
 exact Tj ok hr hg z v u .nil Ti ha hdb he hpl
def ag3 {K:bU} {st:aS} (F:i9 K x qual st f fd) (ok:0#b k f fd ps sp)
 (hm:mg x=some 1#e) (hb:Binds K fd ps []):0#c k x ps sp:=⟨f,fd,ok,hm,F.kp,hb⟩
def Yl (h:t { D with nx:=u D } σ H):DC t u D σ H:=h
def ail (h:te σ H λx H1=>D.nx (σ.set i (some x)) H1):IE te (kj i) D σ H:=h
def aij (h:te σ H D.rt):agE te D σ H:=h
def agd (h:te σ H λ_ H1=>D.nx σ H1):TV te D σ H:=h
def ah8 (h:c σ H λb H1=>if b=true then t D σ H1 else u D σ H1):YS c t u D σ H:=h
def Q8 (h:D.nx σ H):TX D σ H:=h
def aio (e:σ[i]?=some (some v)) (q:Q v H):VQ i σ H Q:=⟨v,e,q⟩
def r_c (q:Q v H):tC v σ H Q:=q
def akx (h:ta σ H λx H1=>tb σ H1 λy H2=>r x y H2 Q):YV r ta tb σ H Q:=h
def akG (h:ta σ H λx H1=>r x H1 Q):tUn r ta σ H Q:=h
def ako (q:Q (g m n) H):rI0 g (.int m) (.int n) H Q:=⟨m,n,rfl,rfl,q⟩
def jP (hc:C m n) (q:Q (g m n) H):rI C g (.int m) (.int n) H Q:=⟨m,n,rfl,rfl,hc,q⟩
def r_U (q:Q (g m) H):rU g (.int m) H Q:=⟨m,rfl,q⟩
def agn (h:te σ H λx H'=>∃k,x=.bl k/\B k H'):YX te σ H B:=h
def r_B (h:te σ H λx H'=>∃k,x=.bl k/\B k H'):tB te σ H B:=h
def akp {R:Bool->Prop} (h:R b):∃k,V.bl b=.bl k/\R k:=⟨b,rfl,h⟩
def akr (h:ts σ H λvs H1=>r vs H1 Q):tCB r ts σ H Q:=h
def af7 (h:te σ H λx H1=>ts σ H1 λxs H2=>R (x::xs) H2):fY te ts σ H R:=h
def aid (h:R [] H):pH σ H R:=h
def Nw (mk:0#n->HO) (xs:0#n) (H:Hp) (Q:VK):Prop:=xs.length<=sizeLine/\∀p,H p=none->Q (.ref p) (upd H p (mk xs))
def aim (h:ts σ H λxs H1=>Nw .tup xs H1 Q):agF ts σ H Q:=h
def aia (h:ts σ H λxs H1=>Nw .lst xs H1 Q):agB ts σ H Q:=h
def af5 (h:ts σ H λvs H1=>sp (vs++[]) H1 Q E0):wV sp [] E0 ts σ H Q:=h
def aif (h:ts σ H λvs H1=>∃v w,vs=[v,w]/\D.nx ((σ.set a (some v)).set b (some w)) H1):agD a b ts D σ H:=h
def aie (h:c σ H λb H1=>B (!b) H1):agC c σ H B:=h
def ah5 (h:c σ H λb H1=>if b=true then d σ H1 B else B false H1):agy c d σ H B:=h
def aky (h:c σ H λb H1=>if b=true then B true H1 else d σ H1 B):tOr c d σ H B:=h
def af3 (h:ta σ H λx H1=>∃k,x=.bl k/\if k=true then tb σ H1 Q else Q (.bl false) H1):YN ta tb σ H Q:=h
def agj (h:ta σ H λx H1=>∃k,x=.bl k/\Q (.bl (!k)) H1):YU ta σ H Q:=h
def ah9 (h:c σ H λb H1=>if b=true then ta σ H1 Q else tb σ H1 Q):tIf c ta tb σ H Q:=h
def aks (hs:abI (.int m) (.int n)=true) (q:Q (.bl (decide (m=n))) H):rEq (.int m) (.int n) H Q:=⟨hs,by
 have e:decide (V.int m=V.int n)=decide (m=n):=by simp
 rw [e];exact q⟩
def akw (hs:abI (.int m) (.int n)=true) (q:Q (.bl (!decide (m=n))) H):rNe (.int m) (.int n) H Q:=⟨hs,by
 have e:decide (V.int m=V.int n)=decide (m=n):=by simp
 rw [e];exact q⟩
def at0 {x:V}:uD (x::xs) 0=some x:=iS (j:=0) rfl
def at1 {x:V}:uD (x::y::xs) 1=some y:=iS (j:=1) rfl
def at2 {x:V}:uD (x::y::z::xs) 2=some z:=iS (j:=2) rfl
def akB {K:bU} (h:H p=some (.tup (x::xs))) (q:Q x H):Q7 K (.ref p) (.int 0) H Q:=⟨p,_,0,x,rfl,rfl,qR.of h,at0,q⟩
def akC {K:bU} (h:H p=some (.tup (x::y::xs))) (q:Q y H):Q7 K (.ref p) (.int 1) H Q:=⟨p,_,1,y,rfl,rfl,qR.of h,at1,q⟩
def akD {K:bU} (h:H p=some (.tup (x::y::z::xs))) (q:Q z H):Q7 K (.ref p) (.int 2) H Q:=⟨p,_,2,z,rfl,rfl,qR.of h,at2,q⟩
def af0 (K:bU):0#n->Hp->VK->Prop:=λxs H Q=>∃p ys,xs=[.ref p]/\(bS K H p ys\/qR K H p ys)/\Q (.int ys.length) H
def gR {K:bU} (h:bS K H p ys\/qR K H p ys) (q:Q (.int ys.length) H):af0 K [.ref p] H Q:=⟨p,ys,rfl,h,q⟩
def ahX:0#n->Hp->VK->Prop:=λxs H Q=>∃i,xs=[.int i]/\Q (.int (if i<0 then -i else i)) H
def af2 (q:Q (.int (if m<0 then -m else m)) H):ahX [.int m] H Q:=⟨m,rfl,q⟩
section
variable {X:Cx} (K:bU)
def lX (h:X.K=K:=by rfl):IxR X (abx K):=h▸aaY
def Vo (h:X.K=K:=by rfl):IxR X (Q7 K):=h▸afy
def slL (h:X.K=K:=by rfl):SlR X (af1 K):=h▸abK
def aj8 (h:X.K=K:=by rfl):jG X (.builtin "len") (af0 K):=h▸J7
def aaX (h:X.K=K:=by rfl):jG X (.builtin "isinstance") (afY K):=h▸Ws
def Jv (hg:Gl X x) (hm:X.mg x=none) (hv:wZ x=some (.type n)) (hn:x ≠ "__name__":=by decide) (hd:0#e:=by decide):PE X (.Name x pos) (tC (.ty n)):=
 abo hg hm hv (show RelV (.ty n) (.type n) from rfl) hn hd
def Hy:jG X (.builtin "abs") ahX:=Wr
def piL {tg l:bz} {tl:TE} (hl:PE X l tl) (h:X.K=K:=by rfl):PI X tg l (S4 K tl):=h▸abr hl
def piT (hl:PE X l tl) (h:X.K=K:=by rfl):PI X tg l (aaQ K tl):=h▸afX hl
def QM (hc:X.calm=true) (g:PGs X es t)
 (hn:(rS es X.env).length=n:=by rfl) (hst:(rS es X.env).findIdx? (·.1)=none:=by rfl) (h:X.K=K:=by rfl):PG X (.Tuple es k pos) (U3 K n t):=h▸afW hc g hn hst
def aeK {o e:bz} {to te:TE} {apos cpos:Pos} (ho:PE X o to) (he:PE X e te) (h:X.K=K:=by rfl)
 (hbase:wF o "append" X.env (eval o X.env)=eval o X.env:=by rfl)
 (hfew:((gc cpos (dg (e::[]) X.env)).all (λx=>!x.1)&&(qe cpos (qd [] X.env)).all (λx=>x.1.isSome)
   && decide ((e::([]:List bz)).length+([]:List nN).length+(if ([]:List nN).isEmpty then 0 else 1)<30))=true:=by rfl)
 (hline:0#q:=by rfl) (hs:dg (e::[]) X.env=(false,eval e X.env)::dg [] X.env:=by rfl) (hplain:(gc cpos (dg [] X.env)).any (·.1)=false:=by rfl) :
 PE X (.Call (.Attribute o "append" apos) [e] [] cpos) (tBM K "list" zQ to (fY te pH)):=
 h▸XY T7 PySem.F.slot_list_append PySem.F.type_list_append Jp ho (lY he xZ hs) hbase hfew hline hs hplain
end
def iG (h:H p=none) (o:HO):ao H (upd H p o):=λb u q=>by rw [aF (bT q h)];exact q
def aG (hl:xs.length<=1000) (h:∀p H1,ao H H1->H p=none->H1 p=some (mk xs)->Q (.ref p) H1):Nw mk xs H Q:=
 ⟨wG (bg hl),λp hp=>h p _ (iG hp _) hp au⟩
def r_g (h:R (σ.set i (some v)) H):kj i v σ H R:=h
def ie {K:bU} (h:H p=some (.lst xs)) (e:uD xs j=some v) (q:Q v H):abx K (.ref p) (.int j) H Q:=⟨p,_,j,v,rfl,rfl,bS.of h,e,q⟩
def akq {K:bU} (h:te σ H λx H1=>tyV K T x H1/\ts σ H1 λxs H2=>r x xs H2 Q):tBM K T r te ts σ H Q:=h
def gB (h:H p=some (.lst xs)) (hl:xs.length<sizeLine) (q:Q .bM (upd H p (.lst (xs++[v])))):zQ (.ref p) [v] H Q:=⟨p,xs,v,rfl,rfl,h,hl,q⟩
def bP (s:ao H1 H2) (n:H1 p=none):ao H1 (upd H2 p o):=λb x e=>by rw [aF (bT e n)];exact s b x e
def eW {xs:List Int} {j:Nat} (h:xs[j]?=some x) (hk:k=(j:Int)):uD (xs.map V.int) k=some (.int x):=by
 subst hk
 exact iS (by rw [gF,h];rfl)
def ain {R:V->V->Prop} (h:R x y):∃v w,[x,y]=[v,w]/\R v w:=⟨x,y,rfl,h⟩
def jy (h:wi σ H λJ H1=>∃W:Nat->Nat->L2.St->Hp->Prop,(∃m,W 0 m σ H1)/\∀i m σ H,W i m σ H ->
 (J.stop i H/\D.nx σ H)\/(J.go i H/\∃N:L2.St->Hp->Prop,(∀σ' H',N σ' H'->∃m',m'<m/\W (i+1) m' σ' H')/\∀x H',J.Zb i H x H'->g x σ H' λσ2 H2=>tb { D with nx:=N,ct:=N,bk:=D.nx } σ2 H2)):agA wi g tb D σ H:=h
def lJ {K:bU} (h:te σ H λx H1=>∃a,x=.ref a/\(∃xs,bS K H1 a xs)/\R (Itl K a) H1):S4 K te σ H R:=h
def Tz {K:bU} (h:xM K H x tv) (e:Hi K tv (.type ty)=some b) (q:Q (.bl b) H):afY K [x,.ty ty] H Q:=⟨x,ty,tv,b,rfl,h,e,q⟩
def ach (q:Q (.bl (a==b)) H):rEq (.bl a) (.bl b) H Q:=⟨rfl,by
 have e:decide (V.bl a=V.bl b)=(a==b):=by cases a <;> cases b <;> rfl
 rw [e];exact q⟩
noncomputable def di (X:Cx) (N':List Str) (scope:nO) (cl:List (Str×ah)) (C:ah) (s0:bB) (H0:Hp) (ex':List ah) (ic:0#l):Cx:=
 { X with N:=N',s₀:=s0,H₀:=H0,env:=compEnvC scope cl C X.env,outer:=X.stack,ex:=ex',fn:=λ_=>false,pn:=ic,xe:=λ_ _=>False }
noncomputable def pK (cap:List Nat) (σ:L2.St):L2.St:=cap.map λj=>(σ[j]?).getD none
def agJ (u:Un fs ex H H' h h1) (k:∀b,b<h.objs.size->h2.get? b=h1.get? b):Un fs ex H H' h h2:=
 ⟨λb o e n hb hx=>(k b (fW e)).trans (u.keep b o e n hb hx),λb o e n hb hx=>let ⟨sl,q⟩:=u.slot b o e n hb hx;⟨sl,(k b (fW e)).trans q⟩,u.free,
  λb o e hx=>let ⟨o',q⟩:=u.there b o e hx;⟨o',(k b (fW e)).trans q⟩,u.tups,u.EH,u.IF⟩
def S2 (x:tZ P w H h) (n:H C=none) (k:∀b o,b≠C->h.get? b=some o->h'.get? b=some o):tZ P w H h':=λb u e=>
 (x b u e).stay (λc v hc q=>k c v (by
   rcases hc with z | z
   ·rw [z];exact bT e n
   ·exact bT z n) q) (λ_ q=>q) λ_ _ q=>q
def Ka {prog:fT} {w:dO} {A:je} {R:Result->bB->Prop} {s:bB} {elt iter tg:bz} {ifs:List bz} {scope:nO} {pos:Pos} {it acc:bq} {env:Env} (I:Nat->bB->Prop)
 (turn:∀n s,I n s->bY 1#b A (pyNext it) (λr s₁=>match r with
   | none=>R (.ok .next) s₁
   | some v=>bY 1#b A (letOwnedTupleGo tg it v) (λ_ s₁'=>bY 1#b A (assign tg env v) (λ_ s₂=>
    bY 1#b A (forIn ifs true λc r=>if r=true then do let ok <- isTrue c env (eval c env);pure (ForInStep.yield ok) else pure (ForInStep.yield r)) (λok s₃=>
     if ok=true then bY 1#b A (eval elt env) (λx s₄=>
      bY 1#b A (call (.builtin "list.append") [acc,x]) (λ_ s₅=>∃m,m<n/\I m s₅) (notedBy 1#b A env λe s'=>R (.error e) s') s₄) (notedBy 1#b A env λe s'=>R (.error e) s') s₃
     else ∃m,m<n/\I m s₃) (notedBy 1#b A env λe s'=>R (.error e) s') s₂) (notedBy 1#b A env λe s'=>R (.error e) s') s₁') (notedBy 1#b A env λe s'=>R (.error e) s') s₁) (notedBy 1#b A env λe s'=>R (.error e) s') s)
 (n:Nat) (h:I n s):Av 1#b A (.compLoop 0#N 0 it acc env) R s:=by
 refine codeAny_loop rfl I (λn s J=>?_) n h
 show bY _ A ((compTurn 0#N 0 it acc env).onRaise (λx=>do noteFrame x env;theTreesLotGoes x)) _ _ s
 refine wpAny_noted ?_
 rw [compTurn_list]
 refine dX (UA (dX (pO (turn n s J) (λr s₁ B=>?_) λ_ _ z=>z)))
 cases r with
 | none=>exact jW B
 | some v=>
   refine dX (pO B (λ_ s₂ D=>dX (pO D (λ_ s₃ E=>dX (pO E (λok s₄ u=>?_) λ_ _ z=>z)) λ_ _ z=>z)) λ_ _ z=>z)
   cases ok with
   | false=>exact jW ⟨rfl,u⟩
   | true=>
     exact dX (dX (pO u (λx s₄ u=>dX (pO u (λ_ s₅ G=>jW (jW ⟨rfl,G⟩)) λ_ _ z=>z)) λ_ _ z=>z))
def PTs (X:Cx) (ifs:List bz) (t:TT):Prop:=
 ∀(pins:0#l) (s:bB) (σ:L2.St) (H:Hp) (Q:Bool->Hp->Prop),Inv X pins σ H s->t σ H Q ->
  bY 0#C X.A (forIn ifs true λc r=>if r=true then do let ok <- isTrue c X.env (eval c X.env);pure (ForInStep.yield ok) else pure (ForInStep.yield r)) (TP X pins σ Q) X.xe s
def agG:TT:=λ_ H B=>B true H
def Lo {X:Cx}:PTs X [] agG:=λ_ _ _ H _ I h=>wpAny_tests_nil ⟨H,I,h⟩
def pU (h:PT X c t):PTs X [c] t:=λpins s σ H Q I q=>wpAny_tests_one (h pins s σ H Q I q)
def yM (X:Cx) (scope:nO) (cl:List (Str×ah)):List Str->List Nat->Prop
 | [],[]=>True
 | y::ys,j::js=>(X.N[j]?=some y/\X.env.kindOf y=some .cell/\(relabel scope X.env).names.lookup y=some .cell/\cl.lookup y=X.env.cells.lookup y)/\yM X scope cl ys js
 | _,_=>False
def yM.len:∀{ys:List Str} {js:List Nat},yM X scope cl ys js->ys.length=js.length
 | [],[],_=>rfl
 | _::_,_::_,h=>congrArg (·+1) h.2.len
def yM.at:∀{ys:List Str} {js:List Nat},yM X scope cl ys js->∀(i j:Nat) (y:Str),ys[i]?=some y->js[i]?=some j ->
 X.N[j]?=some y/\X.env.kindOf y=some .cell/\(relabel scope X.env).names.lookup y=some .cell/\cl.lookup y=X.env.cells.lookup y
 | [],[],_,i,_,_,e,_=>by simp at e
 | _::_,_::_,h,0,j,y,e1,e2=>by
   simp at e1 e2
   subst e1 e2
   exact h.1
 | _::_,_::_,h,i+1,j,y,e1,e2=>h.2.at i j y (by simpa using e1) (by simpa using e2)
def Cw (wi:TI) (n:Nat) (cap:List Nat) (g:TG) (tt:TT) (te:TE):TE:=λσ H Q=>wi σ H λJ H1=>∀D,H1 D=none->∃W:Nat->Nat->0#n->Hp->Prop,(∃m,W 0 m [] (upd H1 D (.lst []))) /\
 ∀i m xs H2,W i m xs H2->H2 D=some (.lst xs)/\((J.stop i H2/\Q (.ref D) H2)\/(J.go i H2/\xs.length<sizeLine/\∀x H3 nQ,nQ.length=n->J.Zb i H2 x H3 ->
  g x (nQ++pK cap σ) H3 λσ2 H4=>(∃σ1,σ1.length=n/\σ2=σ1++pK cap σ)/\tt σ2 H4 λb H5=>if b=true then te σ2 H5 λy H6=>H6 D=some (.lst xs)/\∃m',m'<m/\W (i+1) m' (xs++[y]) (upd H6 D (.lst (xs++[y])))
    else ∃m',m'<m/\W (i+1) m' xs H5))
def S5 {σ:L2.St} (I:L2.Inv X pins σ H s) (hC:CT X pins H C) (sb:CI C s.heap h'):L2.Inv X pins σ H { s with heap:=h' }:=by
 have k:∀b o,s.heap.get? b=some o->b∉[C]->h'.get? b=some o:=λb o e u=>(sb.2 b (λz=>u (by rw [z];exact JM.mpr rfl))).trans e
 refine I.ML (s':={ s with heap:=h' }) (ch:=[C]) rfl ⟨λb o e _ _ u=>k b o e u,λb o e _ _ u=>⟨o.slots,k b o e u⟩,λb o _ n _=>n,λb o e u=>⟨o,k b o e u⟩,λ_ _ q=>q,λ_ _ _ q=>q,λ_ ps q=>⟨#[],by simpa using q⟩⟩
  (S2 I.hok hC.1 λb o u e=>(sb.2 b u).trans e) I.bare λb u=>?_
 obtain rfl:b=C:=JM.mp u
 exact ⟨hC.2.2.2.1,hC.2.1,hC.2.2.2.2.1,hC.2.2.2.2.2⟩
def MQ {σ:L2.St} (use:Option (bq->Sem Unit)) (Q':bq->bB->Prop) (hc:X.calm=true) (hi:PI X tg iter wi)
 (hg:∀(C:ah) (s0:bB) (H0:Hp) (ex':List ah) (ic:List (ah×Obj)),PG (di X (O++N') scope cl C s0 H0 ex' ic) tg g)
 (Vl:∀(C:ah) (s0:bB) (H0:Hp) (ex':List ah) (ic:List (ah×Obj)),PTs (di X (O++N') scope cl C s0 H0 ex' ic) ifs tt)
 (helt:∀(C:ah) (s0:bB) (H0:Hp) (ex':List ah) (ic:List (ah×Obj)),PE (di X (O++N') scope cl C s0 H0 ex' ic) elt te)
 (hO:O.length=n) (hcap:yM X scope cl N' cap)
 (hclos:closureFor scope X.env=pure cl) (hcell:∀y∈scope.names,y.2≠.cell) (hkind:scope.kind=.function) (hnames:0#o)
 (HW:∀y c,cl.lookup y=some c->X.env.cells.lookup y=some c) (hhas:∀y,((relabel scope X.env).names.lookup y=some .cell\/(relabel scope X.env).names.lookup y=some .free)->∃c,cl.lookup y=some c)
 (hs:∀z,Mu iter X.env z=pure z)
 (I:L2.Inv X pins σ H s) (h:Cw wi n cap g tt te σ H Q)
 (fin:∀(D:ah) (H5:Hp) (s6:bB) (C:ah),L2.Inv X pins σ H5 s6->CT X pins H5 C->(∃m,s6.heap.Ns C m)->Q (.ref D) H5->compPost 0#C X.A X.xe use Q' (.ref D) C (.ok .next) s6) :
 bY 0#C X.A (comprehension 0#N scope X.env cpos (newList []) false (eval iter X.env) use) Q' X.xe s:=by
 refine wpAny_comprehension_free (use:=use) rfl hs hclos hkind hnames (ig (hi pins s σ H _ I h) λv s1 h1=>ig h1 λitv s2 h2=>?_)
 obtain ⟨it,fp,tn,J,H2,e,I2,T,M,R,q2⟩:=h2
 subst e
 refine ac5 (wpAny_newFunctionEnv hcell (by intro y hy;simp at hy) (λL Kv Kw=>?_) hkind)
 dsimp only at Kv Kw ⊢
  -- the list, then the block's own names
 have E:Inv X pins σ (upd H2 s2.heap.objs.size (.lst [])) { s2 with heap:=s2.heap.push { cls:=.type "list",data:=.seq ([]:List bq).toArray },toks:=s2.toks }:=I2.afF (its:=[]) (t':=s2.toks) .nil (jV _)
 generalize Z:s2.heap.push { cls:=.type "list",dict:=none,data:=.seq ([]:List bq).toArray }=h3 at Kv Kw E ⊢
 have q3:=q2 s2.heap.objs.size (I2.hok.fresh (gI _))
 generalize hD:s2.heap.objs.size=D at E q3 Kv Kw ⊢
 obtain ⟨W,⟨m0,w0⟩,ak⟩:=q3
 have hC:∀b o,h3.get? b=some o->b≠h3.objs.size:=λb o e=>mK (fW e)
 have G:∀b o,h3.get? b=some o->L.get? b=some o:=λb o e=>Kw.extBut b o (hC b o e) (pM _ e)
 have SS:∀b∈fp,∃o,h3.get? b=some o:=λb B=>by
  obtain ⟨o,e,_⟩:=T.obj _ _ M b B
  exact ⟨o,by rw [<- Z];exact pM _ e⟩
 have aw:∀b∈fp,upd H2 D (.lst []) b=none:=λb B=>by
  have n:=(R b B).1
  obtain ⟨o,e,_⟩:=T.obj _ _ M b B
  rw [aF (by rw [<- hD];exact mK (fW e))]
  exact n
 have ai:∀b∈fp,b∉frs X.stack:=λb B z=>by
  rcases kM.mp (E.Mi b z) with e | e
  ·exact (R b B).2.1 e
  ·exact (R b B).2.2.1 e
 have ok:(di X (O++N') scope cl h3.objs.size { s2 with heap:=h3,toks:=s2.toks } (upd H2 D (.lst [])) fp (X.pn++pins)).Ok:=
  ⟨I.ok.mod,hkind,I.ok.glob,I.ok.blt,gI _,λy z c a b=>I.ok.inj y z c (HW y c a) (HW z c b),hhas,λ_ _ z=>absurd z pJ,I.ok.hd,I.ok.frames,.inl rfl,
   λb B=>⟨by obtain ⟨o,e⟩:=SS b B;exact hC b o e,λy c a=>(R b B).2.2.2.2.1 y c (HW y c a)⟩,E.bs,g9 E.ok.UT E.sz,
   λb o e B=>by
    rcases (R b B).2.2.2.1 with z | z
    ·exact I.ok.KN b o e z
    ·exact absurd (nI (fW (I.ok.bs b o e).1) z) (wY _),
   ai,E.stack,E.Ec⟩
 have I4:Inv 1#c [] (ow n none++pK cap σ) (upd H2 D (.lst [])) { s2 with heap:=L,toks:=s2.toks+([]:List (Str×bq)).length }:=by
  refine ⟨ok,rfl,E.bare,Un.kept G,⟨_,Kv,λi y v e1 e2 e3=>?_⟩,λy c a=>?_,E.hok.fresh (gI _),λy c a=>E.nJ y c (HW y c a),λp hp=>?_,E.hok.kept G,?_⟩
  ·by_cases hin:i<n
   ·rw [Mr (by rw [Si];exact hin),Oo,if_pos hin] at e2
    cases e2
   ·have ae:N'[i-n]?=some y:=by
     have z:(O++N')[i]?=some y:=e1
     rw [Sg 0#z,hO] at z
     exact z
    have ay:i-n<cap.length:=by rw [<- hcap.len];exact (tP.mp ae).1
    obtain ⟨j,ej⟩:∃j,cap[i-n]?=some j:=⟨_,jE ay⟩
    obtain ⟨a1,a2,a3,a4⟩:=hcap.at (i-n) j y ae ej
    have av:σ[j]?=some (some v):=by
     have z:(pK cap σ)[i-n]?=some (some v):=by
      rw [Sg (by rw [Si];simp?),Si] at e2
      exact e2
     unfold pK at z
     rw [gF,ej] at z
     have z2:(σ[j]?).getD none=some v:=by simpa using z
     cases q:σ[j]? with
     | none=>rw [q] at z2;cases z2
     | some o=>rw [q] at z2;exact congrArg some z2
    obtain ⟨m,hn,hl⟩:=E.loc
    obtain ⟨u,r,l⟩:=hl j y v a1 av (.inr (.inl a2))
    refine ⟨u,r,.inr ⟨.inl a3,?_⟩⟩
    rcases l with ⟨k,_⟩ | ⟨_,c,ec,o,ho,hd⟩
    ·rw [a2] at k;cases k
    ·exact ⟨c,a4.trans ec,o,G c o ho,hd⟩
  ·obtain ⟨v,o,ho,hd⟩:=E.cell y c (HW y c a)
   exact ⟨v,o,G c o ho,hd⟩
  ·have S3:p∈X.pn++pins:=by simpa [di] using hp
   obtain ⟨e,n,ne,nf,d⟩:=E.pin p S3
   refine ⟨G _ _ e,n,hC _ _ e,λz=>?_,d⟩
   rcases kM.mp (E.Mi p.1 z) with e | e
   ·exact ne e
   ·exact nf e
  ·show (ow n none++pK cap σ).length=(O++N').length
   unfold pK
   rw [jf,jf,Si,iI,hcap.len,hO]
 have S:Av 0#C X.A (.compLoop 0#N 0 (.ref it) (.ref D) (compEnvC scope cl h3.objs.size X.env))
  (compPost 0#C X.A X.xe use Q' (.ref D) h3.objs.size) { s2 with heap:=L,toks:=s2.toks+([]:List (Str×bq)).length }:=by
  have Y:∀{H':Hp},(∀b∈fp,H' b=none)->∀b∈fp,CT 1#c [] H' b:=λhn b B=>by
   obtain ⟨o,e⟩:=SS b B
   refine ⟨hn b B,hC b o e,ai b B,.inl B,λy c a=>(R b B).2.2.2.2.1 y c (HW y c a),λp hp=>?_⟩
   have S3:p∈X.pn++pins:=by simpa [di] using hp
   exact (R b B).2.2.2.2.2 p S3
  refine Ka (λmm s'=>∃(i:Nat) (xs:0#n) (H':Hp) (nQ:L2.St),nQ.length=n/\Inv 1#c [] (nQ++pK cap σ) H' s'/\tn i s'.heap/\(∀b∈fp,H' b=none)/\W i mm xs H') ?_ m0
   ⟨0,[],_,ow n none,Si,I4,T.keep _ _ _ M λb B o e=>G b o (by rw [<- Z];exact pM _ e),aw,w0⟩
  rintro mm s5 ⟨i,xs,H5,nQ,ar,I5,ag,af,w5⟩
  obtain ⟨e5,tw⟩:=ak i mm xs H5 w5
  rcases tw with ⟨aj,qn⟩ | ⟨go,hz,step⟩
  ·refine ig (T.done 1#c rfl rfl rfl hc i [] s5 _ H5 _ I5 (Y af) ag aj) λr s6 ⟨hr,I6⟩=>?_
   subst hr
   obtain ⟨m,hn,_⟩:=id I6.loc
   have J6:L2.Inv X pins σ H5 s6:=E.ML (s':=s6) (ch:=fp) I6.os I6.base I6.hok I6.bare λb B=>by
    obtain ⟨_,g1,_,g3,g4,g5⟩:=R b B
    exact ⟨g3,g1,g4,g5⟩
   exact fin D H5 s6 _ J6 (E.Pn (gI _) I6.free) ⟨m,hn⟩ qn
  ·refine ig (T.item 1#c rfl rfl rfl hc i [] s5 _ H5 _ I5 (Y af) ag go) λr s6 ⟨u,hr,h6⟩=>?_
   subst hr
   refine ig h6 λ_ s7 zz=>?_
   obtain ⟨xv,H7,I7,r7,y7,ac,ax⟩:=zz
   have ap:=I7.pinned (Y ax) (T.obj _ _ ac)
   refine pO (hg _ _ _ _ _ _ s7 _ H7 xv u _ ap r7 (step xv H7 nQ ar y7)) (λ_ s8 ⟨aL,H8,I8,⟨am,ad,e2⟩,q8⟩=>?_) λ_ _ z=>z.elim
   refine pO (Vl _ _ _ _ _ _ s8 aL H8 _ I8 q8) (λok s9 ⟨H9,I9,q9⟩=>?_) λ_ _ z=>z.elim
   subst e2
   have keep:∀{s':bB} {al:L2.St} {H':Hp},Inv 1#c ([]++FU fp s7.heap) al H' s'->tn (i+1) s'.heap/\∀b∈fp,H' b=none:=λ{s' al H'} J=>
    ⟨T.keep _ _ _ ac λb B o e=>(J.pin (b,o) (DE _ (DE _ (sD B e)))).1,λb B=>by
     obtain ⟨o,e,d⟩:=T.obj _ _ ac b B
     exact (J.pin (b,o) (DE _ (DE _ (sD B e)))).2.1⟩
   cases ok with
   | false=>
     rw [if_neg pJ] at q9 ⊢
     obtain ⟨m',hm,w9⟩:=q9
     exact ⟨m',hm,i+1,xs,H9,am,ad,I9.vB,(keep I9).1,(keep I9).2,w9⟩
   | true=>
     rw [if_pos rfl] at q9 ⊢
     refine pO (helt _ _ _ _ _ _ s9 _ H9 _ I9 q9) (λyv uU zz=>?_) λ_ _ z=>z.elim
     obtain ⟨y,um,an,aE,Ho,m',hm,aK⟩:=zz
     refine pO (Jp (X:=di X (O++N') scope cl h3.objs.size { s2 with heap:=h3,toks:=s2.toks } (upd H2 D (.lst [])) fp (X.pn++pins)) _ uU _ um (.ref D) [y] (.ref D) [yv] (λ_ H'=>H'=upd um D (.lst (xs++[y]))) an rfl (.cons aE .nil) ⟨D,xs,y,rfl,rfl,Ho,hz,rfl⟩) (λ_ Rc ⟨_,V4,U,_,as⟩=>?_) λ_ _ z=>z.elim
     subst as
     exact ⟨m',hm,i+1,xs++[y],_,am,ad,U.vB,(keep U).1,(keep U).2,aK⟩
 exact codeAny_compStart_list S (T.self _ 0 _ _ _ (T.keep _ _ _ M λb B o e=>G b o (by rw [<- Z];exact pM _ e)) S)
def K8 {X:Cx} {elt iter tg:bz} {ifs:List bz} {pos:Pos} {scope:nO} {cl:List (Str×ah)} {wi:TI} {te:TE} {tt:TT} {g:TG} {O N':List Str} {cap:List Nat} {n:Nat} (hc:X.calm=true) (hi:PI X tg iter wi)
 (hg:∀(C:ah) (s0:bB) (H0:Hp) (ex':List ah) (ic:List (ah×Obj)),PG (di X (O++N') scope cl C s0 H0 ex' ic) tg g)
 (Vl:∀(C:ah) (s0:bB) (H0:Hp) (ex':List ah) (ic:List (ah×Obj)),PTs (di X (O++N') scope cl C s0 H0 ex' ic) ifs tt)
 (helt:∀(C:ah) (s0:bB) (H0:Hp) (ex':List ah) (ic:List (ah×Obj)),PE (di X (O++N') scope cl C s0 H0 ex' ic) elt te)
 (hO:O.length=n) (hcap:yM X scope cl N' cap)
 (hclos:closureFor scope X.env=pure cl) (hcell:∀y∈scope.names,y.2≠.cell) (hkind:scope.kind=.function) (hnames:0#o)
 (HW:∀y c,cl.lookup y=some c->X.env.cells.lookup y=some c) (hhas:∀y,((relabel scope X.env).names.lookup y=some .cell\/(relabel scope X.env).names.lookup y=some .free)->∃c,cl.lookup y=some c)
 (hs:∀z,Mu iter X.env z=pure z:=by intro _;rfl) :
 PE X 0#N (Cw wi n cap g tt te):=by
 intro u s G H Q I h
 rw [eval_ListComp]
 exact MQ none (EP X u G Q) hc hi hg Vl helt hO hcap hclos hcell hkind hnames HW hhas hs I h λD v s6 C J A ⟨m,B⟩ q=>⟨m,B,λh' E=>⟨.ref D,v,S5 J A E,rfl,q⟩⟩
def oh (hN:X.N.Nodup) (hix:X.N[i]?=some x) (hx:Loc X.env.scope x) (hc:X.calm=true) (hi:PI X tg iter wi)
 (hg:∀(C:ah) (s0:bB) (H0:Hp) (ex':List ah) (ic:List (ah×Obj)),PG (di X (O++N') scope cl C s0 H0 ex' ic) tg g)
 (Vl:∀(C:ah) (s0:bB) (H0:Hp) (ex':List ah) (ic:List (ah×Obj)),PTs (di X (O++N') scope cl C s0 H0 ex' ic) ifs tt)
 (helt:∀(C:ah) (s0:bB) (H0:Hp) (ex':List ah) (ic:List (ah×Obj)),PE (di X (O++N') scope cl C s0 H0 ex' ic) elt te)
 (hO:O.length=n) (hcap:yM X scope cl N' cap)
 (hclos:closureFor scope X.env=pure cl) (hcell:∀y∈scope.names,y.2≠.cell) (hkind:scope.kind=.function) (hnames:0#o)
 (HW:∀y c,cl.lookup y=some c->X.env.cells.lookup y=some c) (hhas:∀y,((relabel scope X.env).names.lookup y=some .cell\/(relabel scope X.env).names.lookup y=some .free)->∃c,cl.lookup y=some c)
 (hsw:kR 0#N (some (.Name x pos')) spos.line X.env=pure true)
 (hs:∀z,Mu iter X.env z=pure z:=by intro _;rfl) (hf:0#k:=by first | exact .inl rfl | exact .inr rfl | assumption) :
 PS X (.Assign [.Name x pos'] 0#N spos) (IE (Cw wi n cap g tt te) (kj i)):=by
 intro pins s σ H D I h
 rw [exec_Assign_Name_used _ _ _ _ hsw]
 refine dX (UA (dX ?_))
 show bY _ _ (comprehension 0#N scope X.env _ (newList []) false (eval iter X.env) (some (assign (.Name x pos') X.env)) >>= λ_=>pure ()) _ _ s
 refine dX (MQ (some (assign (.Name x pos') X.env)) (λ_ s'=>bY _ _ (pure ()) _ _ s') hc hi hg Vl helt hO hcap hclos hcell hkind hnames HW hhas hs I h λA B s6 C J u ⟨m,L⟩ q=>?_)
 refine ac3 (JF J hN hix hx (show RelV (.ref A) (.ref A) from rfl) (λs7 E ⟨a,M,G⟩=>⟨m,L.sameBut M ?_,λh' v=>jW (jW ⟨_,B,S5 E u v,q⟩)⟩) hf)
 rcases G with rfl | e
 ·exact u.2.1
 ·exact λz=>u.2.2.2.2.1 x a e z.symm
structure Cn (mg:0#g) (x:Str) (n:Int):Prop where
 ex:∃t,mg x=some (.int n t)
def FL (hg:Gl X x) (C:Cn X.mg x n) (hd:0#e:=by decide):PE X (.Name x pos) (tC (.int n)):=by
 obtain ⟨t,h⟩:=C.ex
 exact L2.DW hg h ⟨t,rfl⟩ hd
def Tv:V->Hp->VK->Prop:=λx H Q=>∃i:Int,x=.int i/\Q (.int ((wC i:Nat):Int)) H
def abb:MtR X "int.bit_length" (λx vs H Q=>vs=[]/\Tv x H Q):=by
 intro pins s σ H x vs v us Q I z u h
 obtain ⟨rfl,i,rfl,q⟩:=h
 cases u
 obtain ⟨t,rfl⟩:=z
 exact call_int_bit_length ⟨.int ((wC i:Nat):Int),H,I.tok _,⟨_,rfl⟩,q⟩
def zK (ho:PE X o to) (hbase:wF o "bit_length" X.env (eval o X.env)=eval o X.env:=by rfl) (hline:0#q:=by rfl) :
 PE X (.Call (.Attribute o "bit_length" apos) [] [] cpos) (tUn (λx H Q=>tyV X.K "int" x H/\([]:0#n)=[]/\Tv x H Q) to):=
 XZ PySem.F.plainAttrs_int slot_int_bit_length type_int_bit_length abb ho hbase hline
def af4 {K:bU} (q:Q (.int ((wC m:Nat):Int)) H):tyV K "int" (.int m) H/\([]:0#n)=[]/\Tv (.int m) H Q:=⟨rfl,rfl,m,rfl,q⟩
def ah2:0#n->Hp->VK->Prop:=λxs H Q=>∃i j:Int,xs=[.int i,.int j]/\Q (.int (if j>i then j else i)) H
def ah3:0#n->Hp->VK->Prop:=λxs H Q=>∃i j:Int,xs=[.int i,.int j]/\Q (.int (if j<i then j else i)) H
def afL (hc:X.calm=true):jG X (.builtin "max") ah2:=UU hc
def aa8 (hc:X.calm=true):jG X (.builtin "min") ah3:=UW hc
def aib (q:Q (.int (if n>m then n else m)) H):ah2 [.int m,.int n] H Q:=⟨m,n,rfl,q⟩
def aic (q:Q (.int (if n<m then n else m)) H):ah3 [.int m,.int n] H Q:=⟨m,n,rfl,q⟩
def agZ (K:bU) (h:X.K=K:=by rfl):t6 X (pI .Add) (Yd K):=h▸abk
def Yh {K:bU} (hp:H p=some (.tup (x::xs))) (hr:H r=some (.tup (y::ys))) (h:Nw .tup (x::xs++y::ys) H Q):Yd K (.ref p) (.ref r) H Q:=
 ⟨p,r,_,_,rfl,rfl,qR.of hp,qR.of hr,by simp,by have:=h.1;rw [jf] at this;exact this,λe=>by simp at e,λ_=>h.2⟩
def Jy (hp:H p=some (.lst xs)) (hr:H r=some (.lst ys)) (h:Nw .lst (xs++ys) H Q):ahY (.ref p) (.ref r) H Q:=⟨p,r,_,_,rfl,rfl,hp,hr,by have:=h.1;rw [jf] at this;exact this,h.2⟩
def aii (hp:H p=some (.lst xs)) (h1:-(2 ^ 63)<=k) (h2:k<2 ^ 63) (h:Nw .lst (ow k.toNat xs).flatten H Q):ah4 (.ref p) (.int k) H Q:=
 ⟨p,k,xs,rfl,rfl,hp,h1,h2,by have:=h.1;rw [len_rep] at this;rw [ad1];exact this,h.2⟩
def at3 {u:V}:uD (x::y::z::u::xs) 3=some u:=iS (j:=3) rfl
def akE {K:bU} (h:H p=some (.tup (x::y::z::u::xs))) (q:Q u H):Q7 K (.ref p) (.int 3) H Q:=⟨p,_,3,u,rfl,rfl,qR.of h,at3,q⟩
def Cq (h:te σ H λx H1=>g x σ H1 D.nx):IE te g D σ H:=h
def agf (h:to σ H λo H1=>ti σ H1 λi H2=>ts o i v H2 λH3=>R σ H3):afc to ti ts v σ H R:=h
def agl (h:H p=some (.lst xs)) (e:Wa xs.length k=some j) (q:Q (upd H p (.lst (xs.set j v)))):acg (.ref p) (.int k) v H Q:=⟨p,xs,k,j,rfl,rfl,h,e,q⟩
def Vh (c:((wC low:Nat):Int)>128) (h0:0<=low):340282366920938463463374607431768211456<=low:=by
 have h:¬wC low<=128:=by simp?
 have k:¬low.natAbs<2 ^ 128:=λq=>h (JP.mpr q)
 have e:(2:Nat) ^ 128=340282366920938463463374607431768211456:=by decide
 simp?
def Ni (c:¬((wC low:Nat):Int)>128):low<=340282366920938463463374607431768211456:=by
 have h:wC low<=128:=by simp?
 have k:low.natAbs<2 ^ 128:=JP.mp h
 have e:(2:Nat) ^ 128=340282366920938463463374607431768211456:=by decide
 simp?
def P0 (c:((wC y:Nat):Int)>256) (y0:0<=y) (yx:y<=x) :
 ∃t:Nat,((wC x:Nat):Int)-256=(t:Int)/\(2:Int) ^ (255+t)<=x/\x<(2:Int) ^ (256+t):=by
 have hb:wC y<=wC x:=intBits_le_of_natAbs 0#z (gI _)
 obtain ⟨t,ht⟩:∃t,wC x=256+t:=⟨wC x-256,by simp?⟩
 have h1:x.natAbs<2 ^ (256+t):=JP.mp 0#z
 have h2:¬x.natAbs<2 ^ (255+t):=λq=>by have:=JP.mpr q;simp?
 refine ⟨t,by simp?,?_,?_⟩
 ·have:(((2:Nat) ^ (255+t):Nat):Int)=(2:Int) ^ (255+t):=by simp
  rw [<- this];simp?
 ·have:(((2:Nat) ^ (256+t):Nat):Int)=(2:Int) ^ (256+t):=by simp
  rw [<- this];simp?
end My
open My
namespace Jd
structure QE (X:Cx) (e:bz) (t:TE):Prop where
 h:PE X e t
structure QT (X:Cx) (e:bz) (t:TT):Prop where
 h:PT X e t
structure QW (X:Cx) (e:bz) (t:TT):Prop where
 h:PW X e t
structure QA (X:Cx) (es:List bz) (t:TA):Prop where
 h:PA X es t
structure QS (X:Cx) (st:aS) (t:TS):Prop where
 h:PS X st t
structure O8 (X:Cx) (st:List aS) (t:TS):Prop where
 h:Hw X st t
structure QG (X:Cx) (e:bz) (t:TG):Prop where
 h:PG X e t
structure QGs (X:Cx) (es:List bz) (t:TGs):Prop where
 h:PGs X es t
structure QI (X:Cx) (tg e:bz) (t:TI):Prop where
 h:PI X tg e t
structure QO (X:Cx) (e:Option bz) (t:TO):Prop where
 h:PO X e t
def go {X:Cx} {body:List aS} {D:Ends} {σ:L2.St} {H:Hp} (h:∃t,O8 X body t/\t D σ H):∃t,Hw X body t/\t D σ H:=let ⟨t,h,k⟩:=h;⟨t,h.h,k⟩
def cut (n:Nat) (Pv:L2.St->Hp->Prop) (tail:∃t,O8 X (body.drop n) t/\∀σ H,Pv σ H->t D σ H)
 (main:∀u,O8 X (body.drop n) u->(∀σ H,Pv σ H->u D σ H)->∃t,O8 X body t/\t D σ H):∃t,O8 X body t/\t D σ H:=
 let ⟨u,h1,h2⟩:=tail
 main u h1 h2
def pv {X:Cx} {pos:Pos} {x:Str} (i:Nat) (hN:X.N[i]?=some x:=by rfl) (hv:Vis X.env.scope x:=by first | exact Or.inl rfl | exact Or.inr (Or.inl rfl) | exact Or.inr (Or.inr rfl)) (hd:0#e:=by decide)
 (hcd:(x==("__classdict__":Str))=false:=by decide):QE X (.Name x pos) (VQ i):=⟨L2.pv i hN hv hd hcd⟩
def FO {X:Cx} {pos:Pos} {i j}:QE X (.Constant (.int i) j pos) (tC (.int i)):=⟨L2.FO⟩
def XX {X:Cx} {pos:Pos} {i j}:QE X (.Constant (.bool i) j pos) (tC (.bl i)):=⟨L2.XX⟩
def QH {X:Cx} {pos:Pos} {j}:QE X (.Constant .none j pos) (tC .bM):=⟨L2.QH⟩
def QK {X:Cx} {pos:Pos} {i j}:QE X (.Constant (.str i) j pos) (tC (.str i)):=⟨L2.QK⟩
def Jv (hg:Gl X x) (hm:X.mg x=none) (hv:wZ x=some (.type n)) (hn:x ≠ "__name__":=by decide) (hd:0#e:=by decide):QE X (.Name x pos) (tC (.ty n)):=⟨My.Jv hg hm hv hn hd⟩
def X7 {X:Cx} {a b:bz} {ta tb:TE} {pos:Pos} {op:Operator} {r:R2} (ho:t6 X (pI op) r) (ha:QE X a ta) (hb:QE X b tb):QE X (.BinOp a op b pos) (YV r ta tb):=⟨L2.X7 ho ha.h hb.h⟩
def X8 {X:Cx} {a:bz} {ta:TE} {pos:Pos} {op:UnaryOp} {r:V->Hp->VK->Prop} (ho:UnR X (unaryOp op) r) (ha:QE X a ta):QE X (.UnaryOp op a pos) (tUn r ta):=⟨L2.X8 ho ha.h⟩
def QJ (ha:QE X a ta):QE X (.UnaryOp .Not a pos) (YU ta):=⟨L2.QJ ha.h⟩
def K7 {X:Cx} {a b:bz} {ta tb:TE} {pos:Pos} {op:CmpOp} {r:R2} (ho:t6 X (pP op) r) (ha:QE X a ta) (hb:QE X b tb) (hm:behindInMarks op b=false):QE X (.Compare a [op] [b] pos) (YV r ta tb):=⟨L2.K7 ho ha.h hb.h hm⟩
def Lm {X:Cx} {a b:bz} {ta tb:TE} {pos:Pos} {op:CmpOp} {r:R2} (ho:t6 X (pP op) r) (ha:QE X a ta) (hb:QE X b tb) (hm:behindInMarks op b=false):QT X (.Compare a [op] [b] pos) (YX (YV r ta tb)):=⟨L2.Lm ho ha.h hb.h hm⟩
def sN (ha:QT X a tA):QT X (.UnaryOp .Not a pos) (agC tA):=⟨L2.sN ha.h⟩
def Q3 {X:Cx} {e:bz} {te:TE} (h:QE X e te) (he:∀whole,isTrue e X.env whole=(do let v <- whole;xy e.pos;holding [v] (truthy v)):=by intro _;rfl):QT X e (tB te):=⟨L2.Q3 h.h he⟩
def ajB {X:Cx} {e:bz} {tA:TT} (h:QW X e tA):QT X e tA:=⟨h.h.pt⟩
def Lr (ha:QT X a tA):QW X (.BoolOp .And [a] pos) tA:=⟨L2.Lr ha.h⟩
def sO (ha:QT X a tA):QW X (.BoolOp .Or [a] pos) tA:=⟨L2.sO ha.h⟩
def Q6 (ha:QT X a tA) (hb:QW X (.BoolOp .And (b::es) pos) tB'):QW X (.BoolOp .And (a::b::es) pos) (agy tA tB'):=⟨L2.Q6 ha.h hb.h⟩
def zP (ha:QT X a tA) (hb:QW X (.BoolOp .Or (b::es) pos) tB'):QW X (.BoolOp .Or (a::b::es) pos) (tOr tA tB'):=⟨L2.zP ha.h hb.h⟩
def yc {X:Cx} {a:bz} {te:TE} {pos:Pos} {op} (h:QE X a te):QE X (.BoolOp op [a] pos) te:=⟨L2.yc h.h⟩
def uR (ha:QE X a ta) (hb:QE X (.BoolOp .And (b::es) pos) tb):QE X (.BoolOp .And (a::b::es) pos) (YN ta tb):=⟨L2.uR ha.h hb.h⟩
def FN (hc:QT X c tA) (ha:QE X a ta) (hb:QE X b tb):QE X (.IfExp c a b pos) (tIf tA ta tb):=⟨L2.FN hc.h ha.h hb.h⟩
def xZ {X:Cx}:QA X [] pH:=⟨L2.xZ⟩
def lY {X:Cx} {e:bz} {es:List bz} {te:TE} {t:TA} (ha:QE X e te) (hr:QA X es t) (hs:0#f:=by rfl):QA X (e::es) (fY te t):=⟨L2.lY ha.h hr.h hs⟩
def QL {X:Cx} {es:List bz} {t:TA} {pos:Pos} {k:Nat} (h:QA X es t):QE X (.Tuple es k pos) (agF t):=⟨L2.QL h.h⟩
def QF {X:Cx} {es:List bz} {t:TA} {pos:Pos} (h:QA X es t):QE X (.List es pos) (agB t):=⟨L2.QF h.h⟩
def Le {X:Cx}:QO X none Mj:=⟨L2.Le⟩
def Lf {X:Cx} {e:bz} {te:TE} (h:QE X e te):QO X (some e) (YW te):=⟨L2.Lf h.h⟩
def FP {X:Cx} {e:bz} {te:TE} {pos p2:Pos} {r:V->0#m->0#m->Hp->VK->Prop} {lo hi:Option bz} {tl th:TO} (hr:SlR X r) (he:QE X e te) (hl:QO X lo tl) (hu:QO X hi th):QE X (.Subscript e (.Slice lo hi none p2) pos) (tSl r te tl th):=⟨L2.FP hr he.h hl.h hu.h⟩
def N3 {X:Cx} {a b:bz} {ta tb:TE} {pos:Pos} {r:R2} (hr:IxR X r) (ha:QE X a ta) (hb:QE X b tb) (hs:So b):QE X (.Subscript a b pos) (YV r ta tb):=⟨L2.N3 hr ha.h hb.h hs⟩
def zL {X:Cx} {e:bz} {es:List bz} {t:TA} {pos p:Pos} {x:Str} {id:String} {r:0#n->Hp->VK->Prop} (hc:jG X (.builtin id) r) (hg:Gl X x) (hm:X.mg x=none) (hv:wZ x=some (.builtin id)) (ha:QA X (e::es) t) (hn:x ≠ "__name__":=by decide) (hdb:0#e:=by decide)
 (he:0#f:=by rfl) (hpl:0#i:=by rfl):QE X 1#g (tCB r t):=⟨L2.zL hc hg hm hv ha.h hn hdb he hpl⟩
def rE {X:Cx} {e:bz} {es:List bz} {t:TA} {pos p:Pos} {x:Str} {T:String} {r:0#n->Hp->VK->Prop} (hc:jG X (.type T) r) (hg:Gl X x) (hm:X.mg x=none) (hv:wZ x=some (.type T)) (ha:QA X (e::es) t) (hn:x ≠ "__name__":=by decide) (hdb:0#e:=by decide)
 (he:0#f:=by rfl) (hpl:0#i:=by rfl):QE X 1#g (tCB r t):=⟨L2.rE hc hg hm hv ha.h hn hdb he hpl⟩
def Ju {X:Cx} {e:bz} {es:List bz} {t:TA} {pos p:Pos} {x:Str} {k:Nat} {ps:List Str} {sp:Sp} (D:Dn X.prog X.w X.K X.mg X.base k x ps sp) (hr:gM k X.A) (hg:Gl X x) (ha:QA X (e::es) t) (hdb:0#e:=by decide)
 (he:0#f:=by rfl) (hpl:0#i:=by rfl):QE X 1#g (wV sp [] E0 t):=⟨My.Ju D hr hg ha.h hdb he hpl⟩
def aeK {X:Cx} {e o:bz} {te to:TE} {apos cpos:Pos} (K:bU) (ho:QE X o to) (he:QE X e te) (h:X.K=K:=by rfl)
 (hbase:wF o "append" X.env (eval o X.env)=eval o X.env:=by rfl)
 (hfew:((gc cpos (dg (e::[]) X.env)).all (λx=>!x.1)&&(qe cpos (qd [] X.env)).all (λx=>x.1.isSome)
   && decide ((e::([]:List bz)).length+([]:List nN).length+(if ([]:List nN).isEmpty then 0 else 1)<30))=true:=by rfl)
 (hline:0#q:=by rfl) (hs:dg (e::[]) X.env=(false,eval e X.env)::dg [] X.env:=by rfl) (hplain:(gc cpos (dg [] X.env)).any (·.1)=false:=by rfl) :
 QE X (.Call (.Attribute o "append" apos) [e] [] cpos) (tBM K "list" zQ to (fY te pH)):=⟨My.aeK K ho.h he.h h hbase hfew hline hs hplain⟩
def Lj {X:Cx}:O8 X [] TX:=⟨L2.Lj⟩
def F0 {X:Cx} {st:aS} {rest:List aS} {s1 s2:TS} (h1:QS X st s1) (h2:O8 X rest s2):O8 X (st::rest) (DC s1 s2):=⟨L2.F0 h1.h h2.h⟩
def Lk {X:Cx} {st:aS} {s1:TS} (h1:QS X st s1):O8 X [st] s1:=⟨L2.Lk h1.h⟩
def o4 {st:aS}:QS X st YT:=⟨L2.o4⟩
def Q2 {X:Cx} {e:bz} {te:TE} {pos:Pos} (he:QE X e te):QS X (.Return (some e) pos) (agE te):=⟨L2.Q2 he.h⟩
def Lg {X:Cx} {e:bz} {te:TE} {pos:Pos} (he:QE X e te) (hs:kR e none pos.line X.env=pure false:=by rfl):QS X (.Expr e pos) (TV te):=⟨L2.Lg he.h hs⟩
def Li {X:Cx} {e:bz} {te:TE} {pos:Pos} {x:Str} {i:Nat} {pos':Pos} (hN:X.N.Nodup) (hi:X.N[i]?=some x) (hx:Loc X.env.scope x) (he:QE X e te) (hs:kR e (some (.Name x pos')) pos.line X.env=pure false:=by rfl) (hf:0#k:=by first | exact .inl rfl | exact .inr rfl | assumption) :
 QS X (.Assign [.Name x pos'] e pos) (IE te (kj i)):=⟨L2.Li hN hi hx he.h hs hf⟩
def qy (he:QE X e te) (hg:QG X tg g) (hs:swapsWithSole [tg] e pos.line X.env=pure false:=by rfl) (hw:swappedStores [tg] e X.env=pure none:=by rfl)
 (h1:(rS [tg] X.env).map (·.2)=[assign tg X.env]:=by rfl):QS X (.Assign [tg] e pos) (IE te g):=⟨L2.qy he.h hg.h hs hw h1⟩
def Lh (hc:X.calm=true) (hN:X.N.Nodup) (hi:X.N[i]?=some x) (hj:X.N[j]?=some y) (hij:i≠j)
 (hx:X.env.scope.names.lookup x=some .local) (hy:X.env.scope.names.lookup y=some .local) (ha:QA X [a,b] ta)
 (hw:swappedStores [.Tuple [.Name x px,.Name y py] kt pt] (.Tuple [a,b] k2 pt2) X.env=pure (some [x,y]))
 (hs:swapsWithSole [.Tuple [.Name x px,.Name y py] kt pt] (.Tuple [a,b] k2 pt2) pos.line X.env=pure false:=by rfl) :
 QS X (.Assign [.Tuple [.Name x px,.Name y py] kt pt] (.Tuple [a,b] k2 pt2) pos) (agD i j ta):=⟨L2.Lh hc hN hi hj hij hx hy ha.h hw hs⟩
def Yb {X:Cx} {c:bz} {pos:Pos} {s1 s2:TS} {ss ss':List aS} {tc:TT} (hc:QT X c tc) (ha:O8 X ss s1) (hb:O8 X ss' s2):QS X (.If c ss ss' pos) (YS tc s1 s2):=⟨L2.Yb hc.h ha.h hb.h⟩
def mC (hp:UK 0#C X.A X.env X.xe) (hc:QT X c tc) (hb:O8 X sts s1):QS X (.While c sts [] pos) (GQ tc s1):=⟨L2.mC hp hc.h hb.h⟩
def QZ {X:Cx} {e:bz} {pos:Pos} {sts:List aS} {s1:TS} {tg:bz} {wi:TI} {g:TG} (hp:UK 0#C X.A X.env X.xe) (hc:X.calm=true) (hi:QI X tg e wi) (hg:QG X tg g) (hb:O8 X sts s1)
 (hs:∀x,Mu e X.env x=pure x:=by intro _;rfl):QS X (.For tg e sts [] pos) (agA wi g s1):=⟨L2.QZ hp hc hi.h hg.h hb.h hs⟩
def Lc {X:Cx} {pos:Pos} {x:Str} {i:Nat} (hN:X.N.Nodup) (hi:X.N[i]?=some x) (hx:Loc X.env.scope x) (hf:0#k:=by first | exact .inl rfl | exact .inr rfl | assumption):QG X (.Name x pos) (kj i):=⟨L2.Lc hN hi hx hf⟩
def Ld {X:Cx}:QGs X [] WT:=⟨L2.Ld⟩
def FQ {X:Cx} {e:bz} {es:List bz} {g:TG} {u:TGs} (h1:QG X e g) (h2:QGs X es u) (hs:(rS (e::es) X.env).map (·.2)=assign e X.env::(rS es X.env).map (·.2):=by rfl):QGs X (e::es) (wJ g u):=⟨L2.FQ h1.h h2.h hs⟩
def QM (K:bU)  (hc:X.calm=true) (h2:QGs X es g) (hn:(rS es X.env).length=n:=by rfl) (hst:(rS es X.env).findIdx? (·.1)=none:=by rfl) (h:X.K=K:=by rfl):QG X (.Tuple es k pos) (U3 K n g):=⟨My.QM K hc h2.h hn hst h⟩
def piL {X:Cx} {e:bz} {te:TE} (K:bU) {tg:bz} (hl:QE X e te) (h:X.K=K:=by rfl):QI X tg e (S4 K te):=⟨My.piL K hl.h h⟩
def piT (K:bU)  (hl:QE X e te) (h:X.K=K:=by rfl):QI X tg e (aaQ K te):=⟨My.piT K hl.h h⟩
def Bs (hg:Gl X "range") (hm:X.mg "range"=none) (ha:QA X [a] t) (hs:dg [a] X.env=[(false,eval a X.env)]:=by rfl):QI X tg (.Call (.Name "range" p) [a] [] pos) (Xa t):=⟨L2.Bs hg hm ha.h hs⟩
def FL (hg:Gl X x) (C:Cn X.mg x n) (hd:0#e:=by decide):QE X (.Name x pos) (tC (.int n)):=⟨My.FL hg C hd⟩
def zK (ho:QE X o to) (hbase:wF o "bit_length" X.env (eval o X.env)=eval o X.env:=by rfl) (hline:0#q:=by rfl) :
 QE X (.Call (.Attribute o "bit_length" apos) [] [] cpos) (tUn (λx H Q=>tyV X.K "int" x H/\([]:0#n)=[]/\Tv x H Q) to):=⟨My.zK ho.h hbase hline⟩
def QU (ho:QE X o to) (hi:QE X i ti) (hs:aeE X ts)
 (ha:∀v,assign (.Subscript o i pos) X.env v=(holding [v] (eval o X.env) >>= λov=>holding [v,ov] (eval i X.env) >>= λiv=>xy pos >>= λ_=>holding [v,ov,iv] (setItem ov iv v) >>= λ_=>release [v,ov,iv] []):=by intro _;rfl) :
 QG X (.Subscript o i pos) (afc to ti ts):=⟨L2.QU ho.h hi.h hs ha⟩
end Jd
namespace My
noncomputable def ja (cells:List (Str×ah)):List (Str×Au)->List (Str×ah)->List (Str×ah)
 | [],cs=>cs
 | (y,k)::r,cs=>ja cells r (if k=.free then ((cells.lookup y).map λc=>(y,c)).toList++cs else cs)
noncomputable def jq (cells:List (Str×ah)) (names:List (Str×Au)):Bool:=names.all λp=>!(p.2==NameKind.free)||(cells.lookup p.1).isSome
def xO {env:Env}:∀(names:List (Str×Au)) (cs:List (Str×ah)),jq env.cells names=true ->
 (forIn (m:=Sem) names cs λx r=>match x with | (name,kind)=>if (kind==NameKind.free)=true then do let a <- cellOf env name;pure (ForInStep.yield ((name,a)::r)) else pure (ForInStep.yield r))=pure (ja env.cells names cs)
 | [],cs,_=>rfl
 | (y,k)::r,cs,h=>by
   have h2:jq env.cells r=true:=by
    unfold jq at h ⊢
    rw [JQ,ue] at h
    exact h.2
   rw [List.forIn_cons]
   by_cases hk:k=.free
   ·subst hk
    have A:(env.cells.lookup y).isSome=true:=by
     unfold jq at h
     rw [JQ,ue] at h
     simpa using h.1
    obtain ⟨c,z⟩:=Om.mp A
    have v:=xO r ((y,c)::cs) h2
    have e:cellOf env y=pure c:=by unfold cellOf;rw [z]
    show (((if (NameKind.free==NameKind.free)=true then do let a <- cellOf env y;pure (ForInStep.yield ((y,a)::cs)) else pure (ForInStep.yield cs)):Sem _) >>= _)=_
    rw [if_pos (by rfl),e,pure_bind,pure_bind]
    show forIn (m:=Sem) r ((y,c)::cs) _=_
    rw [v]
    show _=pure (ja env.cells r (if NameKind.free=.free then ((env.cells.lookup y).map λc=>(y,c)).toList++cs else cs))
    rw [if_pos rfl,z]
    rfl
   ·have v:=xO r cs h2
    have u:(k==NameKind.free)=false:=by simpa using hk
    show (((if (k==NameKind.free)=true then do let a <- cellOf env y;pure (ForInStep.yield ((y,a)::cs)) else pure (ForInStep.yield cs)):Sem _) >>= _)=_
    rw [u,if_neg pJ,pure_bind]
    show forIn (m:=Sem) r cs _=_
    rw [v]
    show _=pure (ja env.cells r (if k=.free then _ else cs))
    rw [if_neg hk]
def EA (h:jq env.cells scope.names=true):closureFor scope env=pure (ja env.cells scope.names []):=by
 have e:=xO (env:=env) scope.names [] h
 show (forIn (m:=Sem) scope.names [] _ >>= λcs=>pure cs)=_
 exact (congrArg (· >>= λcs=>pure cs) e).trans (pure_bind _ _)
def IW:∀(names:List (Str×Au)) (cs:List (Str×ah)) (p:Str×ah),p∈ja cells names cs->p∈cs\/cells.lookup p.1=some p.2
 | [],_,_,h=>.inl h
 | (y,k)::r,cs,p,h=>by
   rcases IW r _ p h with q | q
   ·by_cases hk:k=.free
    ·rw [if_pos hk] at q
     rcases i8.mp q with z | z
     ·cases e:cells.lookup y with
      | none=>rw [e] at z;simp at z
      | some c=>rw [e] at z;simp at z;subst z;exact .inr e
     ·exact .inl z
    ·rw [if_neg hk] at q
     exact .inl q
   ·exact .inr q
def IV:∀(names:List (Str×Au)) (cs:List (Str×ah)) (y:Str) (c:ah),((y,NameKind.free)∈names/\cells.lookup y=some c)\/(y,c)∈cs->(y,c)∈ja cells names cs
 | [],_,_,_,h=>h.elim (λz=>by simp at z) id
 | (z,k)::r,cs,y,c,h=>by
   refine IV r _ y c ?_
   rcases h with ⟨m,e⟩ | m
   ·rcases kM.mp m with q | q
    ·cases q
     right
     rw [if_pos rfl,e]
     simp
    ·exact .inl ⟨q,e⟩
   ·right
    by_cases hk:k=.free
    ·rw [if_pos hk];exact DE _ m
    ·rw [if_neg hk];exact m
def vQ {α:Type}:∀{l:List (Str×α)} {x:Str} {v:α},l.lookup x=some v->(x,v)∈l
 | (y,u)::r,x,v,h=>by
   rw [OI] at h
   cases e:x==y with
   | true=>
     rw [e] at h
     cases h
     have:x=y:=by simpa using e
     subst this
     exact CA
   | false=>
     rw [e] at h
     exact DF _ (vQ h)
def Jl {α:Type}:∀{l:List (Str×α)} {x:Str} {v:α},(x,v)∈l->∃u,l.lookup x=some u
 | (y,u)::r,x,v,h=>by
   rw [OI]
   cases e:x==y with
   | true=>exact ⟨_,rfl⟩
   | false=>
     rcases kM.mp h with q | q
     ·cases q;simp at e
     ·exact Jl q
def xN (h:(ja cells names []).lookup y=some c):cells.lookup y=some c:=
 (IW names [] (y,c) (vQ h)).elim (λz=>by simp at z) id
def Ez (h:(y,NameKind.free)∈names) (e:cells.lookup y=some c):(ja cells names []).lookup y=some c:=by
 obtain ⟨u,q⟩:=Jl (IV names [] y c (.inl ⟨h,e⟩))
 rw [q]
 rw [xN q] at e
 exact e
def MA (X:Cx) (scope:nO):List Str->List Nat->Prop
 | [],[]=>True
 | y::ys,j::js=>(X.N[j]?=some y/\X.env.kindOf y=some .cell/\scope.names.lookup y=some .free/\(relabel scope X.env).names.lookup y=some .cell)/\MA X scope ys js
 | _,_=>False
def IZ (h:jq cells names=true) (m:(y,NameKind.free)∈names):∃c,cells.lookup y=some c:=by
 unfold jq at h
 have q:=ZF.mp h _ m
 exact Om.mp (by simpa using q)
def MA.ok (h:jq X.env.cells scope.names=true):∀{ys:List Str} {js:List Nat},MA X scope ys js->yM X scope (ja X.env.cells scope.names []) ys js
 | [],[],_=>trivial
 | y::ys,j::js,⟨⟨a,b,c,d⟩,r⟩=>by
   have m:=vQ c
   obtain ⟨e,he⟩:=IZ h m
   exact ⟨⟨a,b,d,by rw [Ez m he,he]⟩,MA.ok h r⟩
def Cs (h:jq env.cells scope.names=true) (hcell:∀y∈scope.names,y.2≠.cell) (y:Str)
 (q:(relabel scope env).names.lookup y=some .cell\/(relabel scope env).names.lookup y=some .free):∃c,(ja env.cells scope.names []).lookup y=some c:=by
 have m:(y,NameKind.free)∈scope.names:=by
  rcases q with q | q
  all_goals
   have m:=vQ q
   unfold relabel at m
   obtain ⟨⟨n,k⟩,v,e⟩:=kc.mp m
   dsimp only at e
   split at e
   ·rename_i u
    rw [ue,ue] at u
    have z:k=.free:=by simpa using u.1.1
    subst z
    cases e
    first | exact v | done
   ·cases e
    first | exact v | exact absurd rfl (hcell _ v)
 obtain ⟨c,u⟩:=IZ h m
 exact ⟨c,Ez m u⟩
def X0 (hc:X.calm=true) (hi:PI X tg iter wi)
 (hg:∀(C:ah) (s0:bB) (H0:Hp) (ex':List ah) (ic:List (ah×Obj)),PG 0#J tg g)
 (Vl:∀(C:ah) (s0:bB) (H0:Hp) (ex':List ah) (ic:List (ah×Obj)),PTs 0#J ifs tt)
 (helt:∀(C:ah) (s0:bB) (H0:Hp) (ex':List ah) (ic:List (ah×Obj)),PE 0#J elt te)
 (hO:O.length=n) (hcap:MA X scope N' cap) (hf:jq X.env.cells scope.names=true) (hcell:∀y∈scope.names,y.2≠.cell) (hkind:scope.kind=.function) (hnames:0#o)
 (hs:∀z,Mu iter X.env z=pure z:=by intro _;rfl) :
 PE X 0#N (Cw wi n cap g tt te):=
 K8 hc hi hg Vl helt hO (hcap.ok hf) (EA hf) hcell hkind hnames (λ_ _=>xN) (Cs hf hcell) hs
def X9 (hN:X.N.Nodup) (hix:X.N[i]?=some x) (hx:Loc X.env.scope x) (hc:X.calm=true) (hi:PI X tg iter wi)
 (hg:∀(C:ah) (s0:bB) (H0:Hp) (ex':List ah) (ic:List (ah×Obj)),PG 0#J tg g)
 (Vl:∀(C:ah) (s0:bB) (H0:Hp) (ex':List ah) (ic:List (ah×Obj)),PTs 0#J ifs tt)
 (helt:∀(C:ah) (s0:bB) (H0:Hp) (ex':List ah) (ic:List (ah×Obj)),PE 0#J elt te)
 (hO:O.length=n) (hcap:MA X scope N' cap) (hf:jq X.env.cells scope.names=true) (hcell:∀y∈scope.names,y.2≠.cell) (hkind:scope.kind=.function) (hnames:0#o)
 (hsw:kR 0#N (some (.Name x pos')) spos.line X.env=pure true)
 (hs:∀z,Mu iter X.env z=pure z:=by intro _;rfl) (hfn:0#k:=by first | exact .inl rfl | exact .inr rfl | assumption) :
 PS X (.Assign [.Name x pos'] 0#N spos) (IE (Cw wi n cap g tt te) (kj i)):=
 oh hN hix hx hc hi hg Vl helt hO (hcap.ok hf) (EA hf) hcell hkind hnames (λ_ _=>xN) (Cs hf hcell) hsw hs hfn
noncomputable def rm (D:ah) (H:Hp):Hp:=λb=>if b=D then none else H b
def kQ (h:b≠D):rm D H b=H b:=if_neg h
def jt:ao (rm D H) H:=λb o e=>by
 unfold rm at e
 by_cases h:b=D
 ·rw [if_pos h] at e;cases e
 ·rw [if_neg h] at e;exact e
def rK (s:ao H H'):ao (rm D H) (rm D H'):=λb o e=>by
 unfold rm at e ⊢
 by_cases h:b=D
 ·rw [if_pos h] at e;cases e
 ·rw [if_neg h] at e ⊢;exact s b o e
def Bw:rm D (upd H D o)=rm D H:=by
 funext b
 unfold rm
 by_cases h:b=D
 ·rw [if_pos h,if_pos h]
 ·rw [if_neg h,if_neg h,aF h]
def lK (hD:H D=some (.lst ys)) (h:H p=some 0#Z):rm D H p=some 0#Z:=by
 rw [kQ (λe=>by rw [e,hD] at h;cases h)];exact h
def Ct (D:ah) (H:Hp) (o:HO):ao (rm D H) (upd H D o):=λb u e=>by
 unfold rm at e
 by_cases h:b=D
 ·rw [if_pos h] at e;cases e
 ·rw [if_neg h] at e;rw [aF h];exact e
def DP (h:n=m+1):Wa n (-1)=some m:=by
 subst h
 unfold Wa
 rw [if_neg 0#z,if_pos 0#z]
 congr 1
 simp?
def Xf {n:Nat} (h0:0<=i) (h:i<(n:Int)):Wa n i=some i.toNat:=by
 unfold Wa
 rw [if_pos h0,if_pos h]
structure Tells (J:It) (ok:Hp->Prop) (xs:0#n):Prop where
 go:∀i H,ok H->i<xs.length->J.go i H/\∀x H',J.Zb i H x H'->H'=H/\xs[i]?=some x
 stop:∀H,ok H->J.stop xs.length H
def dm {K:bU}:Tells (Itl K a) (λH=>bS K H a xs) xs:=
 ⟨λi H h hi=>⟨⟨xs,xs[i],h,by simp [hi]⟩,λx H' y=>⟨y.1,y.2 xs h⟩⟩,λH h=>⟨xs,h,gI _⟩⟩
def VS {K:bU}:Tells (Itt K a) (λH=>qR K H a xs) xs:=
 ⟨λi H h hi=>⟨⟨xs,xs[i],h,by simp [hi]⟩,λx H' y=>⟨y.1,y.2 xs h⟩⟩,λH h=>⟨xs,h,gI _⟩⟩
def VR {lo:Int}:Tells (Itr lo n) (λ_=>True) ((jg n).map λ(i:Nat)=>V.int (lo+(i:Int))):=
 ⟨λi H h hi=>⟨show i<n by simpa using hi,λx H' y=>⟨y.1,by
  have hi':i<n:=by simpa using hi
  rw [gF,OY hi']
  exact congrArg some y.2.symm⟩⟩,λH h=>by show n<=_;simp⟩
def Sk (n:Nat) (cap:List Nat) (g:TG) (tt:TT) (te:TE) (σ:L2.St) (Q:VK) (J:It) (H1:Hp):Prop:=∀D,H1 D=none->∃W:Nat->Nat->0#n->Hp->Prop,(∃m,W 0 m [] (upd H1 D (.lst []))) /\
 ∀i m xs H2,W i m xs H2->H2 D=some (.lst xs)/\((J.stop i H2/\Q (.ref D) H2)\/(J.go i H2/\xs.length<sizeLine/\∀x H3 nQ,nQ.length=n->J.Zb i H2 x H3 ->
  g x (nQ++pK cap σ) H3 λσ2 H4=>(∃σ1,σ1.length=n/\σ2=σ1++pK cap σ)/\tt σ2 H4 λb H5=>if b=true then te σ2 H5 λy H6=>H6 D=some (.lst xs)/\∃m',m'<m/\W (i+1) m' (xs++[y]) (upd H6 D (.lst (xs++[y])))
    else ∃m',m'<m/\W (i+1) m' xs H5))
def af6 (h:wi σ H λJ H1=>Sk n cap g tt te σ Q J H1):Cw wi n cap g tt te σ H Q:=h
def Bv (h:ta σ H λvs H1=>∃j:Int,vs=[.int j]/\-(2 ^ 62)<=j/\j<2 ^ 62/\R (Itr 0 j.toNat) H1):Xa ta σ H R:=h
def aip (h:B true H):agG σ H B:=h
def d8 (T:Tells J ok xs) (hok:∀H2,ao H H2->ok H2) (hl:xs.length<=1000000) (P:Nat->0#n->Hp->Prop) (h0:P 0 [] H)
 (step:∀(D:ah) (i:Nat) (x:V) (ys:0#n) (H2:Hp) (nQ:L2.St) (N:VK) (N0:Hp->Prop),nQ.length=n->H D=none->H2 D=some (.lst ys)->ao H H2->xs[i]?=some x->ys.length<=i->P i ys (rm D H2) ->
   (∀y H6,ao H2 H6->P (i+1) (ys++[y]) (rm D H6)->N y H6)->(∀H5,ao H2 H5->P (i+1) ys (rm D H5)->N0 H5) ->
   g x (nQ++pK cap σ) H2 λσ2 H4=>(∃σ1,σ1.length=n/\σ2=σ1++pK cap σ)/\tt σ2 H4 λb H5=>if b=true then te σ2 H5 N else N0 H5)
 (done:∀(D:ah) (ys:0#n) (H2:Hp),H D=none->H2 D=some (.lst ys)->ao H H2->ys.length<=xs.length->P xs.length ys (rm D H2)->Q (.ref D) H2):Sk n cap g tt te σ Q J H:=by
 intro D u
 refine ⟨λi m ys H2=>H2 D=some (.lst ys)/\ao H H2/\ys.length<=i/\i<=xs.length/\m=xs.length-i/\P i ys (rm D H2),⟨xs.length,au,bP 0#V u,jV _,jV _,rfl,?_⟩,?_⟩
 ·rw [Bw]
  have e:rm D H=H:=by
   funext b
   by_cases h:b=D
   ·rw [h,u];exact if_pos rfl
   ·exact kQ h
  rw [e];exact h0
 ·rintro i m ys H2 ⟨e,s,v,I,rfl,p⟩
  refine ⟨e,?_⟩
  by_cases hlt:i<xs.length
  ·obtain ⟨go,E⟩:=T.go i H2 (hok H2 s) hlt
   refine .inr ⟨go,Mt (g9 (g9 v I) hl) 0#y,λx B nQ h0 y=>?_⟩
   obtain ⟨rfl,L⟩:=E x B y
   refine step D i x ys _ nQ _ _ h0 u e s L v p (λy H6 A O=>?_) λH5 z M=>?_
   ·refine ⟨A _ _ e,xs.length-(i+1),by simp?,au,bP (s.trans A) u,?_,by simp?,rfl,?_⟩
    ·rw [jf,JH];simp?
    ·rw [Bw];exact O
   ·exact ⟨xs.length-(i+1),by simp?,z _ _ e,s.trans z,by simp?,by simp?,rfl,M⟩
  ·have G:i=xs.length:=by simp?
   subst G
   exact .inl ⟨T.stop H2 (hok H2 s),done D ys H2 u e s v p⟩
def jB {R:L2.St->Hp->Prop} (h0:nQ.length=1) (h:R (some x::pK cap σ) H):kj 0 x (nQ++pK cap σ) H λσ2 H4=>(∃σ1,σ1.length=1/\σ2=σ1++pK cap σ)/\R σ2 H4:=by
 obtain ⟨v,rfl⟩:=iZ h0
 exact ⟨⟨[some x],rfl,rfl⟩,h⟩
def F4 {K:bU} {R:L2.St->Hp->Prop} (h0:nQ.length=2) (hp:H p=some (.tup [x,y])) (h:R (some x::some y::pK cap σ) H) :
 U3 K 2 (wJ (kj 0) (wJ (kj 1) WT)) (.ref p) (nQ++pK cap σ) H λσ2 H4=>(∃σ1,σ1.length=2/\σ2=σ1++pK cap σ)/\R σ2 H4:=by
 obtain ⟨v,u,rfl⟩:=ahF h0
 exact ⟨p,_,rfl,qR.of hp,rfl,x,_,rfl,y,_,rfl,rfl,⟨[some x,some y],rfl,rfl⟩,h⟩
end My
namespace Jd
structure QTs (X:Cx) (ifs:List bz) (t:TT):Prop where
 h:PTs X ifs t
def Lo {X:Cx}:QTs X [] agG:=⟨My.Lo⟩
def pU (h:QT X c tt):QTs X [c] tt:=⟨My.pU h.h⟩
def K8 {X:Cx} {elt iter tg:bz} {ifs:List bz} {pos:Pos} {scope:nO} {wi:TI} {te:TE} {tt:TT} {g:TG} {O N':List Str} {cap:List Nat} {n:Nat} (hc:X.calm=true) (hi:QI X tg iter wi)
 (hg:∀(C:ah) (s0:bB) (H0:Hp) (ex':List ah) (ic:List (ah×Obj)),QG 0#J tg g)
 (Vl:∀(C:ah) (s0:bB) (H0:Hp) (ex':List ah) (ic:List (ah×Obj)),QTs 0#J ifs tt)
 (helt:∀(C:ah) (s0:bB) (H0:Hp) (ex':List ah) (ic:List (ah×Obj)),QE 0#J elt te)
 (hO:O.length=n) (hcap:MA X scope N' cap) (hf:jq X.env.cells scope.names=true) (hcell:∀y∈scope.names,y.2≠.cell) (hkind:scope.kind=.function) (hnames:0#o)
 (hs:∀z,Mu iter X.env z=pure z:=by intro _;rfl) :
 QE X 0#N (Cw wi n cap g tt te):=
 ⟨My.X0 hc hi.h (λC s0 H0 ex' ic=>(hg C s0 H0 ex' ic).h) (λC s0 H0 ex' ic=>(Vl C s0 H0 ex' ic).h) (λC s0 H0 ex' ic=>(helt C s0 H0 ex' ic).h) hO hcap hf hcell hkind hnames hs⟩
def oh (hN:X.N.Nodup) (hix:X.N[i]?=some x) (hx:Loc X.env.scope x) (hc:X.calm=true) (hi:QI X tg iter wi)
 (hg:∀(C:ah) (s0:bB) (H0:Hp) (ex':List ah) (ic:List (ah×Obj)),QG 0#J tg g)
 (Vl:∀(C:ah) (s0:bB) (H0:Hp) (ex':List ah) (ic:List (ah×Obj)),QTs 0#J ifs tt)
 (helt:∀(C:ah) (s0:bB) (H0:Hp) (ex':List ah) (ic:List (ah×Obj)),QE 0#J elt te)
 (hO:O.length=n) (hcap:MA X scope N' cap) (hf:jq X.env.cells scope.names=true) (hcell:∀y∈scope.names,y.2≠.cell) (hkind:scope.kind=.function) (hnames:0#o)
 (hsw:kR 0#N (some (.Name x pos')) spos.line X.env=pure true)
 (hs:∀z,Mu iter X.env z=pure z:=by intro _;rfl) (hfn:0#k:=by first | exact .inl rfl | exact .inr rfl | assumption) :
 QS X (.Assign [.Name x pos'] 0#N spos) (IE (Cw wi n cap g tt te) (kj i)):=
 ⟨My.X9 hN hix hx hc hi.h (λC s0 H0 ex' ic=>(hg C s0 H0 ex' ic).h) (λC s0 H0 ex' ic=>(Vl C s0 H0 ex' ic).h) (λC s0 H0 ex' ic=>(helt C s0 H0 ex' ic).h) hO hcap hf hcell hkind hnames hsw hs hfn⟩
end Jd
namespace My
def Kp {α:Type}:Sem α->Prop
 | .pure _=>True
 | .raise _=>True
 | .unsupported _=>True
 | .finish _=>True
 | .rule _ k=>Kp (k ())
 | .at _ k=>Kp (k ())
 | .load _ _ k=>∀o,Kp (k o)
 | .update _ _ f k=>(∀o:Obj,(f o).dict=o.dict/\(o.isFreed=false->(f o).isFreed=false))/\Kp (k ())
 | .loadIfAlive _ k=>∀o,Kp (k o)
 | .point _ k=>Kp (k ())
 | .register _ _=>True
 | .alloc _ k=>∀a,Kp (k a)
 | .fresh k=>∀t,Kp (k t)
 | .ask k=>∀x,Kp (k x)
 | .stack k=>∀x,Kp (k x)
 | .handled _ k=>∀x,Kp (k x)
 | .thread k=>∀x,Kp (k x)
 | _=>False
def DK (h h':cH):Prop:=∀b o,h.get? b=some o->∃o',h'.get? b=some o'/\o'.dict=o.dict
def DK.refl (h:cH):DK h h:=λ_ o e=>⟨o,e,rfl⟩
def DK.trans (a:DK h h') (b:DK h' h''):DK h h'':=λc o e=>by
 obtain ⟨o1,e1,d1⟩:=a c o e
 obtain ⟨o2,e2,d2⟩:=b c o1 e1
 exact ⟨o2,e2,d2.trans d1⟩
def DK.push (h:cH) (o:Obj):DK h (h.push o):=λb v e=>⟨v,pM _ e,rfl⟩
def DK.update (hf:∀o:Obj,(f o).dict=o.dict/\(o.isFreed=false->(f o).isFreed=false)):DK h (h.update a f):=λb o e=>by
 by_cases q:b=a
 ·subst q
  refine ⟨f o,acJ _ e ((hf o).2 ?_),(hf o).1⟩
  exact (Heap.get?_some_iff.mp e).2
 ·exact ⟨o,by rw [Zj _ _ (jx q)];exact e,rfl⟩
def dc {f:α->Sem β} (hm:Kp m) (hf:∀a,Kp (f a)):Kp (m >>= f):=by
 show Kp (m.bind f)
 induction m with
 | pure a=>exact hf a
 | raise | unsupported | finish | register=>exact True.intro
 | rule _ k ih | «at» _ k ih | point _ k ih=>exact ih _ hm
 | load _ _ k ih | loadIfAlive _ k ih | alloc _ k ih | fresh k ih | ask k ih | stack k ih | handled _ k ih | thread k ih=>exact λo=>ih o (hm o)
 | update _ _ _ k ih=>exact ⟨hm.1,ih _ hm.2⟩
 | choose | os | call | newGen | genState | resume | yield | fork | await=>exact hm.elim
def aiy (hk:Kp t) (h:Sem.wp M Γ t Q E p s) :
 Sem.wp M Γ t (λa p' s'=>Q a p' s'/\DK s.heap s'.heap) (λe p' s'=>E e p' s'/\DK s.heap s'.heap) p s:=by
 induction t generalizing p s with
 | pure a=>exact ⟨h,DK.refl _⟩
 | raise e=>exact ⟨h,DK.refl _⟩
 | unsupported | finish | register=>exact h.elim
 | rule _ k ih | «at» _ k ih | point _ k ih=>exact ih _ hk h
 | load a _ k ih=>exact let ⟨o,ho,h⟩:=h;⟨o,ho,ih _ (hk _) h⟩
 | loadIfAlive _ k ih | ask k ih | stack k ih | handled _ k ih | thread k ih=>exact ih _ (hk _) h
 | fresh k ih=>exact ih _ (hk _) h
 | alloc o k ih=>exact aek M Γ _ (λ_ _ _ z=>⟨z.1,(DK.push _ _).trans z.2⟩) (λ_ _ _ z=>⟨z.1,(DK.push _ _).trans z.2⟩) _ _ (ih _ (hk _) h)
 | update a _ f k ih=>exact ⟨h.1,aek M Γ _ (λ_ _ _ z=>⟨z.1,(DK.update hk.1).trans z.2⟩) (λ_ _ _ z=>⟨z.1,(DK.update hk.1).trans z.2⟩) _ _ (ih _ hk.2 h.2)⟩
 | choose | os | call | newGen | genState | resume | yield | fork | await=>exact hk.elim
def Y6 (hk:Kp t) (h:bY M A t Q E s):bY M A t (λa s'=>Q a s'/\DK s.heap s'.heap) (λe s'=>E e s'/\DK s.heap s'.heap) s:=
 λΓ p hΓ=>aiy hk (h Γ p hΓ)
def KA:Kp (PySem.load a):=λ_=>True.intro
def fF:Kp (pure a:Sem α):=True.intro
def wN:Kp (ade w:Sem α):=True.intro
def Vw (g:Array bq->Array bq) (o:Obj):(ZQ g o).dict=o.dict/\(o.isFreed=false->(ZQ g o).isFreed=false):=by
 unfold ZQ
 split
 ·exact ⟨rfl,λ_=>rfl⟩
 ·exact ⟨rfl,id⟩
def Nr:Kp (fieldsOf v):=by
 unfold fieldsOf
 split
 ·refine dc KA λo=>?_
  split
  ·exact fF
  ·exact wN
 ·exact wN
def yV:Kp (ael v i):=by
 unfold ael
 refine dc Nr λa=>?_
 split
 ·exact fF
 ·exact wN
def Ji (h:∀o:Obj,(f o).dict=o.dict/\(o.isFreed=false->(f o).isFreed=false)):Kp (PySem.update a f):=⟨h,True.intro⟩
def uM:Kp (ZN v i x):=by
 unfold ZN
 split
 ·unfold updateField
  refine dc KA λo=>?_
  split
  ·split
   ·exact Ji λo=>Vw _ o
   ·exact wN
  ·exact wN
 ·exact wN
def Xk [Decidable c]  (ha:Kp a) (hb:Kp b):Kp (if c then a else b):=by split <;> assumption
def E5:Kp PySem.stack:=λ_=>True.intro
def sC:Kp (setFlight e o):=by
 unfold setFlight
 refine dc yV λtb=>?_
 split
 ·exact uM
 ·exact fF
def KC:Kp (newFields c vs):=by
 have u:Kp (newObjAsIs (.type c) (.fields vs.toArray)):=by
  unfold newObjAsIs
  exact dc (λ_=>True.intro) λa=>fF
 show Kp (if vs.toArray.size>sizeLine+2 then (ade "record:memory" >>= λ_=>newObjAsIs (.type c) (.fields vs.toArray)) else newObjAsIs (.type c) (.fields vs.toArray))
 exact Xk (dc wN λ_=>u) u
def Nt:∀l:List Env,Kp (readyFrames l)
 | []=>fF
 | env::outer=>by
   unfold readyFrames
   split
   ·refine dc KA λo=>?_
    split
    ·exact fF
    ·refine dc ?_ λb=>dc ?_ λback=>dc (Ji λo=>⟨rfl,?_⟩) λ_=>Nt outer
     ·unfold behindIsImport
      split
      ·exact fF
      ·split
       ·exact fF
       ·exact dc yV λ_=>fF
     ·cases outer with
      | nil=>
        unfold keptBack
        refine Xk fF (dc ?_ λ_=>fF)
        unfold underTheClaimsCaller
        exact dc E5 λ_=>fF
      | cons _ _=>exact fF
     ·intro h
      obtain ⟨a,b,c,d⟩:=o
      cases c <;> first | rfl | cases h
   ·exact wN
def Qe:Kp (ZR env):=by
 unfold ZR
 refine dc (dc E5 λ_=>fF) λl=>dc ?_ λo=>?_
 ·unfold frameObject
  split
  ·exact fF
  ·exact dc (Nt _) λ_=>fF
 ·split
  ·exact fF
  ·exact wN
def Dc:Kp (entryPlaceOf f b):=by
 unfold entryPlaceOf
 refine dc E5 λ_=>?_
 split <;> exact fF
def yW:Kp (noteFrame e env):=by
 have z:∀(u:bq) (f:ah) (b:Bool),Kp (do let a <- ZR env;let pl <- entryPlaceOf f b;let n <- acV u a .none (rawInt f) .none pl;ZN e 1 n):=λu f b=>
  dc Qe λ_=>dc Dc λ_=>dc (by unfold acV;exact KC) λ_=>uM
 unfold noteFrame
 split
 ·refine dc yV λu=>?_
  split
  ·refine dc yV λv=>?_
   split
   ·exact fF
   ·exact dc uM λ_=>z _ _ _
  ·exact z _ _ _
 ·exact wN
def E4:Kp (leaving env e):=by
 unfold leaving
 exact dc yW λ_=>sC
def E6 {R:cH->Prop} (hk:Kp t) (h:∀Q0:Unit->bB->Prop,(∀h',R h'->Q0 () { s with heap:=h' })->bY M A t Q0 E s) (k:∀h',R h'->DK s.heap h'->Q () { s with heap:=h' }):bY M A t Q E s:=
 pO (Y6 hk (h (λ_ s2=>∃h',s2={ s with heap:=h' }/\R h') λh' r=>⟨h',rfl,r⟩)) (λ_ s2 ⟨⟨h',e,r⟩,dk⟩=>by subst e;exact k h' r dk) λ_ _ z=>z.1
def DictAt (h:cH) (e:ah) (dx:Option ah):Prop:=∃ob,h.get? e=some ob/\ob.dict=dx
def DictAt.dk (x:DictAt h e dx) (k:DK h h'):DictAt h' e dx:=by
 obtain ⟨A,a,b⟩:=x
 obtain ⟨z,u,v⟩:=k e A a
 exact ⟨z,u,v.trans b⟩
def mO (P:fT) (w:dO):CXT:=λouter H s E ev s'=>∃(e t:ah) (C:bq) (H':Hp) (B:cH),ev=.ref e/\s'.os=s.os/\xx s'.gens/\Un (frs outer) [] H H' s.heap s'.heap/\tZ P w H' s'.heap /\
 xm B outer e C (.ref t) s'.heap/\(∀b o,s'.heap.get? b=some o->(H' b≠none\/s.heap.get? b≠none)->b∉frs outer->B.get? b=some o)/\∃dx,DictAt s'.heap e dx/\E C dx H'
def W7 (x:tZ P w H h) (k:∀c v,H c≠none->h.get? c=some v->h'.get? c=some v):tZ P w H h':=λb u e=>
 (x b u e).stay (λc v hc q=>k c v (by
   rcases hc with z | z
   ·rw [z,e];simp
   ·rw [z];simp) q) (λ_ q=>q) λ_ _ q=>q
def Y4 (hfs:∀b∈fs,b∈frs l) (u:Un fs [] H H' h h1) (ae4:h1.FunFrames B l) (st:B.StaysIn h2) (up:h1.UpToSlots h2)
 (bk:∀b o,h1.get? b=some o->h.get? b≠none->b∉fs->B.get? b=some o):Un fs [] H H' h h2:=by
 have I:∀b o,h1.get? b=some o->b∈fs->∃sl,h2.get? b=some { o with slots:=sl }:=λb o e v=>by
  obtain ⟨_,D,z,L⟩:=ae4.mem (hfs b v)
  rw [e] at z
  cases z
  exact up b o e L
 have J:∀b o,h1.get? b=some o->h.get? b≠none->b∉fs->h2.get? b=some o:=λb o e M v=>st b o (bk b o e M v)
 refine ⟨λb o q n v A=>?_,λb o q n v A=>?_,u.free,λb o q A=>?_,u.tups,u.EH,u.IF⟩
 ·exact J b o (u.keep b o q n v A) (by rw [q];simp) v
 ·obtain ⟨sl,e⟩:=u.slot b o q n v A
  obtain ⟨G,E⟩:=I b _ e v
  exact ⟨G,E⟩
 ·obtain ⟨D,e⟩:=u.there b o q A
  by_cases v:b∈fs
  ·obtain ⟨sl,E⟩:=I b D e v
   exact ⟨_,E⟩
  ·exact ⟨D,J b D e (by rw [q];simp) v⟩
def vU (x:d7 P w H h a o):∃u,h.get? a=some u:=by
 cases o with
 | lst _=>exact let ⟨_,_,_,_,e⟩:=x;⟨_,e⟩
 | tup _=>exact let ⟨_,_,_,u,e,_⟩:=x;⟨u,e⟩
 | dK _=>exact let ⟨_,_,_,_,u,_,_,e,_⟩:=x;⟨u,e⟩
 | dT _=>exact let ⟨_,_,_,_,u,_,_,e,_⟩:=x;⟨u,e⟩
 | set _ _=>exact let ⟨u,_,_,_,e,_⟩:=x;⟨u,e⟩
 | ins _ _ _=>exact let ⟨_,_,_,e,_⟩:=x;⟨_,e⟩
 | own _=>exact x
 | xd _=>exact let ⟨_,⟨u,_,_,e,_⟩,_⟩:=x;⟨u,e⟩
 | rng _ _=>exact let ⟨_,_,_,e⟩:=x;⟨_,e⟩
 | Po _ _=>exact ⟨_,x.1⟩
 | tbl _=>exact ⟨_,x⟩
 | met _ _=>exact ⟨_,x⟩
 | ext _=>exact x.2.1
def Nu {P:fT} {w:dO} {K:bU} {mg:0#g} {base:cH} {N:List Str} {qual:Str} {f:ah} {cd:bq} {A:je} {outer:List Env} {s0:bB} {H0:Hp} {E:XK} {pins:0#l} {σ:L2.St} {H:Hp} {s:bB} {B h2:cH} {e t:ah} {C:bq} (I:L2.Inv 0#O pins σ H s)
 (ae4:s.heap.FunFrames B (fS qual scope s0.heap.objs.size f cd::outer)) (bk:∀b o,s.heap.get? b=some o->(H b≠none\/s0.heap.get? b≠none)->b∉frs (fS qual scope s0.heap.objs.size f cd::outer)->B.get? b=some o)
 {dx:Option ah} (OZ:xm B outer e C (.ref t) h2) (up:s.heap.UpToSlots h2) (hd:DictAt h2 e dx) (hE:E C dx H):mO P w outer H0 s0 E (.ref e) { s with heap:=h2 }:=by
 have M:∀b,s0.heap.get? b≠none->b∉frs outer->b∉frs (fS qual scope s0.heap.objs.size f cd::outer):=λb D G z=>by
  rcases kM.mp (show b∈s0.heap.objs.size::frs outer from z) with q | q
  ·cases g:s0.heap.get? b with
   | none=>exact D g
   | some o=>exact absurd (fW g) (by rw [q];exact wY _)
  ·exact G q
 have sub:∀b∈frs outer,b∈frs (fS qual scope s0.heap.objs.size f cd::outer):=λb D=>DF _ D
 have u:Un (frs outer) [] H0 H s0.heap s.heap:=I.base
 have Q:∀c v,H c≠none->s.heap.get? c=some v->B.get? c=some v:=λc v J q=>bk c v q (.inl J) λz=>J (I.Ec c z)
 refine ⟨e,t,C,H,B,rfl,I.os,I.bare,Y4 sub u ae4 OZ.1 up λb o q D G=>bk b o q (.inr D) (M b D G),W7 I.hok λc v J q=>OZ.1 c v (Q c v J q),OZ,λb o q D G=>?_,dx,hd,hE⟩
 have q:h2.get? b=some o:=q
 rcases D with D | D
 ·cases g:H b with
  | none=>exact absurd g D
  | some ho=>
    obtain ⟨v,L⟩:=vU (I.hok b ho g)
    have e1:=Q b v D L
    have:=OZ.1 b v e1
    rw [q] at this
    cases this
    exact e1
 ·cases g:s0.heap.get? b with
  | none=>exact absurd g D
  | some o0=>
    obtain ⟨v,L⟩:=u.there b o0 g 0#w
    have e1:=bk b v L (.inr D) (M b D G)
    have:=OZ.1 b v e1
    rw [q] at this
    cases this
    exact e1
def Vu {P:fT} {w:dO} {K:bU} {mg:0#g} {base:cH} {N:List Str} {qual:Str} {f:ah} {cd:bq} {A:je} {outer:List Env} {s0:bB} {H0:Hp} {E:XK} {pins:0#l} {σ:L2.St} {H:Hp} {s:bB} {h':cH} {e:ah} {C:bq} {vs:List bq} (I:L2.Inv 0#O pins σ H s) (hx:Heap.MadeExcOf s.heap h' e C vs) (hE:E C none H) :
 (lG (mO P w) P w K mg base N qual scope f cd A outer s0 H0 E).xe (.ref e) { s with heap:=h' }:=by
 have U:L2.Inv 0#O pins σ H { s with heap:=h' }:=I.kept (t':=s.toks) hx.keeps
 have M:∀u∈(fS qual scope s0.heap.objs.size f cd::outer),∀b,u.frame=some b->b∈frs (fS qual scope s0.heap.objs.size f cd::outer):=λu Y b z=>JL.mpr ⟨u,Y,z⟩
 have D:s.heap.FunFrames (ady s.heap (frs (fS qual scope s0.heap.objs.size f cd::outer))) (fS qual scope s0.heap.objs.size f cd::outer):=PySem.W.funFrames_hide (base:=base) I.stack M
 obtain ⟨t9,Q,_⟩:=hx.there
 refine E6 (R:=λG=>∃t,xm _ outer e C (.ref t) G/\h'.UpToSlots G) E4 (λQ0 L=>wpAny_leaves_madeW I.ok.frames rfl (λb o q=>acZ _ q) D hx λG t J tup nt up=>L G ⟨t,J,up⟩) (λG ⟨t,J,up⟩ dk=>?_)
 refine Nu U (D.of_keeps λb o q _=>⟨o,hx.keeps b o q,rfl⟩) (λb o q z Z=>?_) J up (DictAt.dk ⟨_,Q,rfl⟩ dk) hE
 have q:h'.get? b=some o:=q
 have B:∃v,s.heap.get? b=some v:=by
  rcases z with z | z
  ·cases g:H b with
   | none=>exact absurd g z
   | some ho=>exact vU (I.hok b ho g)
  ·cases g:s0.heap.get? b with
   | none=>exact absurd g z
   | some o0=>exact I.base.there b o0 g (show b∉([]:List ah) by simp)
 obtain ⟨v,S⟩:=B
 have:=hx.keeps b v S
 rw [q] at this
 cases this
 exact acS _ S Z
def dH {K:bU}:Passes (mO P w) 0#O E:=by
 rintro M σ H s ev Z I ⟨e,t,C,H1,B,rfl,os,D,un,U,Y,bk,dx,S,hE⟩
 have J:L2.Inv 0#O M σ H1 Z:=I.ML (ch:=[]) os un U D λb z=>absurd z 0#w
 refine E6 (R:=λG=>xm B outer e C (.ref t) G/\Z.heap.UpToSlots G) E4 (λQ0 Q=>wpAny_leaves_onW I.ok.frames rfl Y λG u up=>Q G ⟨u,up⟩) (λG ⟨u,up⟩ dk=>?_)
 refine Nu J Y.2.2.1 (λb o q L hn=>bk b o q ?_ hn) u up (S.dk dk) hE
 rcases L with L | L
 ·exact .inl L
 ·right
  cases g:s0.heap.get? b with
  | none=>exact absurd g L
  | some o0=>
    obtain ⟨v,hv⟩:=I.base.there b o0 g (show b∉([]:List ah) by simp)
    rw [hv]
    simp
structure Xc (K:bU) (mg:0#g) (x:Str) (C:ah):Prop where
 at_:mg x=some (.ref C)
 is_:tX K C [.type "ValueError",.type "Exception",.type "BaseException",.type "object"] "ValueError.__new__"=true
 akM:vI K (.ref C) (.ref C)=some true
def Xc.own {K:bU} (X:K.In h) (c:Xc K mg x C):OwnCls x C [.type "ValueError",.type "Exception",.type "BaseException",.type "object"] "ValueError.__new__" mg h:=by
 have q:=c.is_
 refine ⟨c.at_,?_⟩
 unfold tX at q
 split at q
 ·next dd cd sl ho=>
  split at q
  ·next C' bm a0 a1 a2 a3 n a5 hm hs=>
   simp only [ue,tR,ZA] at q
   obtain ⟨⟨⟨⟨⟨e1,e2⟩,e3⟩,e4⟩,e5⟩,e6⟩:=q
   subst e1 e2
   obtain ⟨A,B,f3,D,E,G,I,J,L,u,f11⟩:=cd
   dsimp only at hm e3 e5 e6
   subst hm e3
   obtain ⟨z⟩:=sl
   have v:z=[a0,a1,a2,a3,some (.builtin _),a5]:=hs
   subst v
   exact ⟨bm,D,A,E,B,G,I,J,L,u,dd,a0,a1,a2,a3,a5,_,X _ _ ho,.of_isNs (PySem.W.isNs_of_in X e5),PySem.W.nsMap_none_of_in X e5 e6,PySem.W.tail_of_in X e4⟩
  ·cases q
 ·cases q
def RT (ta:TA) (E:XK) (C:ah):TS:=λ_ σ H=>ta σ H λvs H1=>vs.length<=sizeLine/\E (.ref C) none H1
def FZ {P:fT} {w:dO} {K:bU} {mg:0#g} {base:cH} {N:List Str} {qual:Str} {scope:nO} {f:ah} {cd:bq} {A:je} {outer:List Env} {s0:bB} {H0:Hp} {E:XK} {x:Str} {C:ah} {a:bz} {es:List bz} {ta:TA} {np cpos pos:Pos} (c:Xc K mg x C) (hg:Gl 0#O x)
 (ha:PA 0#O (a::es) ta) (hd:0#e:=by decide)
 (he:dg (a::es) (fS qual scope s0.heap.objs.size f cd)=(false,eval a (fS qual scope s0.heap.objs.size f cd))::dg es (fS qual scope s0.heap.objs.size f cd):=by rfl)
 (hpl:(gc cpos (dg es (fS qual scope s0.heap.objs.size f cd))).any (·.1)=false:=by rfl) :
 PS 0#O (.Raise (some (.Call (.Name x np) (a::es) [] cpos)) none pos) (RT ta E C):=by
 intro u s U H D I h
 have O:=c.own (show K.In base from I.ok.mod.kin)
 obtain ⟨tl,M,nm,q,bs,hdct,sn,sub,ab,col,dd,k0,k1,k2,k3,k5,mN,Z,hN,J,T⟩:=O.obj
 refine wpAny_Raise_call_subT (C:=C) (nm:=nm) (q:=q) (N:=M) (bs:=bs) (bm:=tl) (hdct:=hdct) (sn:=sn) (sub:=sub) (ab:=ab) (col:=col) (dd:=dd) (k0:=k0) (k1:=k1) (k2:=k2) (k3:=k3) (k5:=k5) (mN:=mN)
  PySem.F.excBase_ValueError (T.hasType 0#y) (I.ok.hd rfl) ?_ J ?_
 ·show (gc cpos (dg (a::es) (fS qual scope s0.heap.objs.size f cd))).any (·.1)=false
  rw [he]
  exact hpl
 refine pO (L2.DW hg c.at_ (show RelV (.ref C) (.ref C) from rfl) hd u s U H (λv B=>v=.ref C/\B=H) I ⟨rfl,rfl⟩) (λv s1 Q=>?_) λ_ _ z=>z
 obtain ⟨y,B,Y,r1,e1,e2⟩:=Q
 subst e1 e2
 cases r1
 refine ⟨rfl,?_⟩
 have S:=ha cpos u s1 U B _ Y h
 have G:dg (a::es) (lG (mO P w) P w K mg base N qual scope f cd A outer s0 H0 E).env=(false,eval a (lG (mO P w) P w K mg base N qual scope f cd A outer s0 H0 E).env)::dg es (lG (mO P w) P w K mg base N qual scope f cd A outer s0 H0 E).env:=he
 rw [G] at S ⊢
 refine Ug (pO S (λus s2 Q=>?_) λ_ _ z=>z)
 obtain ⟨vs,H2,R,r2,hl,hE⟩:=Q
 have L:∀b o,base.get? b=some o->s2.heap.get? b=some o:=λb o e=>(R.bs b o e).1
 exact ⟨rfl,by rw [<- r2.length];exact hl,L _ _ Z,hN.keeps L,T.keeps L,λh' e hx=>Vu R hx hE⟩
def i9.Qo {K:bU} {st:aS} (F:i9 K x qual st f fd) (S:pQ N ps (bw st)) (len:∀vs H Q E,sp vs H Q E->vs.length=ps.length)
 (hbody:∀(cdv:bq) (A:je) (outer:List Env) (s:bB) (H:Hp) (vs:0#n) (Q:VK) (E:XK),gM k (A.deeper (fS qual (bw st) s.heap.objs.size f cdv))->sp vs H Q E ->
   ∃t,Hw (lG (mO P w) P w K mg base N qual (bw st) f cdv A outer s H E) (c9 st) t/\t { nx:=λ_ H'=>Q .bM H',rt:=Q } (start N vs) H):0#s (mO P w) (k+1) f fd ps sp:=by
 obtain ⟨oc,od,kV,doc,pm,an,cdv,ct,osl,e,v,u⟩:=F.ex
 subst e
 exact WM v u S len (hbody cdv)
structure DnX (P:fT) (w:dO) (K:bU) (mg:0#g) (base:cH) (k:Nat) (x:Str) (ps:List Str) (sp:Sp):Prop where
 ex:∃(f:ah) (fd:ia),bf P w K mg base (mO P w) k f fd ps sp/\mg x=some 1#e/\tQ K 1#e=true/\Binds K fd ps []
def aeR {K:bU} {st:aS} (F:i9 K x qual st f fd) (ok:0#s (mO P w) k f fd ps sp)
 (hm:mg x=some 1#e) (hb:Binds K fd ps []):DnX P w K mg base k x ps sp:=⟨f,fd,ok,hm,F.kp,hb⟩
def x8 (D:DnX X.prog X.w X.K X.mg X.base k x ps sp) (hp:Passes (mO X.prog X.w) X E) (hr:gM k X.A) (hg:Gl X x) (ha:PA X (e::es) t) (hdb:0#e:=by decide)
 (he:0#f:=by rfl) (hpl:0#i:=by rfl):PE X 1#g (wV sp [] E t):=by
 obtain ⟨f,fd,ok,z,v,u⟩:=D.ex
 exact Tj ok hr hg z v u .nil hp ha hdb he hpl
def afw {σ:L2.St} (I:L2.Inv X pins σ H s) (Ex:bq->bB->Prop):L2.Inv { X with pn:=X.pn++pins,xe:=Ex } [] σ H s:=
 ⟨⟨I.ok.mod,I.ok.kind,I.ok.glob,I.ok.blt,I.ok.above,I.ok.inj,I.ok.has,I.ok.V6,I.ok.hd,I.ok.frames,I.ok.stk,I.ok.exf,I.ok.bs,I.ok.UT,I.ok.KN,I.ok.MX,I.ok.uG,I.ok.V8⟩,I.os,I.bare,I.base,I.loc,I.cell,I.free,I.nJ,
  λp hp=>I.pin p (by simpa using hp),I.hok,I.len⟩
def aaT {σ:L2.St} (ok:X.Ok) (I:L2.Inv { X with pn:=X.pn++pins,xe:=Ex } rF σ H s):L2.Inv X pins σ H s:=
 ⟨ok,I.os,I.bare,I.base,I.loc,I.cell,I.free,I.nJ,λp hp=>I.pin p (Hh _ hp),I.hok,I.len⟩
def EZ {X:Cx} {σ:L2.St} (I:L2.Inv { X with pn:=ic,xe:=Ex } rF σ H s):L2.Inv { X with A:=X.A.mark (some (.ref e)),calm:=false,pn:=ic,xe:=Ey } rF σ H s:=
 ⟨⟨I.ok.mod,I.ok.kind,I.ok.glob,I.ok.blt,I.ok.above,I.ok.inj,I.ok.has,I.ok.V6,λz=>absurd z pJ,I.ok.frames,I.ok.stk,I.ok.exf,I.ok.bs,I.ok.UT,I.ok.KN,I.ok.MX,I.ok.uG,I.ok.V8⟩,I.os,I.bare,I.base,I.loc,I.cell,I.free,I.nJ,I.pin,I.hok,I.len⟩
def ait (k:∀σ H,L2.Inv Y rF σ H s->L2.Inv X pins σ H s) (h:SP Y rF D fl s):SP X pins D fl s:=by
 cases fl with
 | next=>exact let ⟨σ,H,I,q⟩:=h;⟨σ,H,k σ H I,q⟩
 | brk=>exact let ⟨σ,H,I,q⟩:=h;⟨σ,H,k σ H I,q⟩
 | cont=>exact let ⟨σ,H,I,q⟩:=h;⟨σ,H,k σ H I,q⟩
 | ret u=>exact let ⟨v,σ,H,I,r,q⟩:=h;⟨v,σ,H,k σ H I,r,q⟩
def Xp (e:h.get? a=some o):PySem.W.Looks M h (typeOf (.ref a)) o.cls:=((ajw e).andThen .now)
def aby (h:ts σ H λvs H1=>sp (vs++[]) H1 Q E):wV sp [] E ts σ H Q:=h
def abz (h:ta σ H λvs H1=>vs.length<=sizeLine/\E (.ref C) none H1):RT ta E C D σ H:=h
end My
namespace Jd
def FZ {P:fT} {w:dO} {K:bU} {mg:0#g} {base:cH} {N:List Str} {qual:Str} {scope:nO} {f:ah} {cd:bq} {A:je} {outer:List Env} {s0:bB} {H0:Hp} {E:XK} {x:Str} {C:ah} {a:bz} {es:List bz} {ta:TA} {np cpos pos:Pos} (c:Xc K mg x C) (hg:Gl 0#O x)
 (ha:QA 0#O (a::es) ta) (hd:0#e:=by decide)
 (he:dg (a::es) (fS qual scope s0.heap.objs.size f cd)=(false,eval a (fS qual scope s0.heap.objs.size f cd))::dg es (fS qual scope s0.heap.objs.size f cd):=by rfl)
 (hpl:(gc cpos (dg es (fS qual scope s0.heap.objs.size f cd))).any (·.1)=false:=by rfl) :
 QS 0#O (.Raise (some (.Call (.Name x np) (a::es) [] cpos)) none pos) (RT ta E C):=⟨My.FZ c hg ha.h hd he hpl⟩
def x8 (D:DnX X.prog X.w X.K X.mg X.base k x ps sp) (hp:Passes (mO X.prog X.w) X E) (hr:gM k X.A) (hg:Gl X x) (ha:QA X (e::es) t) (hdb:0#e:=by decide)
 (he:0#f:=by rfl) (hpl:0#i:=by rfl):QE X 1#g (wV sp [] E t):=⟨My.x8 D hp hr hg ha.h hdb he hpl⟩
end Jd
namespace My
def P7 {σ:L2.St} (ok:X.Ok) (I:L2.Inv Y rF σ H s) (hn:h'.Ns X.env.locals m') (sb:CI X.env.locals s.heap h')
 (e1:Y.env=X.env) (e2:Y.s₀=X.s₀) (e3:Y.H₀=X.H₀) (e4:Y.fs=X.fs) (e5:Y.ex=X.ex) (e6:Y.prog=X.prog) (e7:Y.w=X.w) (hp:∀p∈X.pn++pins,p∈Y.pn++rF):L2.Inv X pins (ow X.N.length none) H { s with heap:=h',toks:=tk }:=by
 have A:=I.cne
 refine ⟨ok,by rw [<- e2];exact I.os,I.bare,?_,⟨m',hn,λi x v _ q _=>?_⟩,λx c q=>?_,by rw [<- e1];exact I.free,λx c q=>I.nJ x c (by rw [e1];exact q),λp q=>?_,?_,Si⟩
 ·have b:=I.base
  rw [e2,e3,e4,e5] at b
  exact agJ b λb u=>sb.2 b (λz=>absurd (nI u ok.above) (by rw [z];exact wY _))
 ·rw [Oo] at q
  split at q <;> cases q
 ·obtain ⟨v,o,D,B⟩:=I.cell x c (by rw [e1];exact q)
  exact ⟨v,o,(sb.2 c (by rw [<- e1];exact A x c (by rw [e1];exact q))).trans D,B⟩
 ·obtain ⟨a,b,c,d,f⟩:=I.pin p (hp p q)
  exact ⟨(sb.2 p.1 (by rw [<- e1];exact c)).trans a,b,by rw [<- e1];exact c,by rw [<- e4];exact d,f⟩
 ·rw [<- e6,<- e7]
  exact S2 I.hok (by rw [<- e1];exact I.free) λb o u q=>(sb.2 b u).trans q
def Ml (K:bU) (n j:Nat) (tb:XK->TS) (Cc:ah) (ts:ah->bq->Option ah->TS):TS:=λD σ H=>
 tb (λC dx H2=>vI K C (.ref Cc)=some true/\∀(e:ah) (σ':L2.St),σ'.length=n->ts e C dx { nx:=λ_ _=>False,rt:=D.rt } (σ'.set j (some (.ref e))) H2) D σ H
def vW (hN:X.N.Nodup) (hj:X.N[j]?=some nm) (hl:X.env.scope.names.lookup nm=some .local) (hg:Gl X x) (hm:X.mg x=some (.ref Cc)) (hfr:X.env.frame=some X.env.locals) (HX:X.stack=X.env::X.outer)
 (hb:∀(ic:List (ah×Obj)) (xe':bq->bB->Prop) (E:XK),Passes (mO X.prog X.w) { X with pn:=ic,xe:=xe' } E->Hw { X with pn:=ic,xe:=xe' } body (tb E))
 (hs:∀(e:ah) (ob:Obj) (c:bq) (dx:Option ah) (ic:List (ah×Obj)),(e,ob)∈ic->ob.cls=c->ob.dict=dx->CH ob=true->Hw { X with A:=X.A.mark (some (.ref e)),calm:=false,pn:=ic,xe:=λ_ _=>False } (b0::suite) (ts e c dx)) (hd:0#e:=by decide) :
 PS X (.Try body [.ExceptHandler (some (.Name x np)) (some nm) (b0::suite) hpos] [] [] pos) (Ml X.K X.N.length j tb Cc ts):=by
 intro L s σ H D I h
 refine wpAny_Try_except ?_
 generalize hT:(λ(ev:bq) (s1:bB)=>bY 0#C X.A (noteFrame ev X.env) (λ_ s2=>bY 0#C X.A (setFlight ev none) (λ_ s3=>bY 0#C X.A (handleBy ev X.env [.ExceptHandler (some (.Name x np)) (some nm) (b0::suite) hpos]) (SP X L D) X.xe s3) X.xe s2) X.xe s1)=ak
 have a6:Passes (mO X.prog X.w) { X with pn:=X.pn++L,xe:=ak } (λC dx H2=>vI X.K C (.ref Cc)=some true/\∀(e:ah) (Q:L2.St),Q.length=X.N.length->ts e C dx { nx:=λ_ _=>False,rt:=D.rt } (Q.set j (some (.ref e))) H2):=by
  rintro rF Q H1 s1 ev s2 I1 ⟨e,t,C,H2,B,rfl,os,ae,un,ap,OZ,bk,dx,aQ,hx,hE⟩
  have J:L2.Inv { X with pn:=X.pn++L,xe:=ak } rF Q H2 s2:=I1.ML (ch:=[]) os un ap ae λb z=>absurd z 0#w
  have inv:∀O,xm B X.stack e C (.ref t) O->s2.heap.UpToSlots O->L2.Inv { X with pn:=X.pn++L,xe:=ak } rF Q H2 { s2 with heap:=O }:=λO M3 S=>
   I1.ML (s':={ s2 with heap:=O }) (ch:=[]) os (Y4 (λb hb=>hb) un OZ.2.2.1 M3.1 S λb o q hb hn=>bk b o q (.inr hb) hn)
    (W7 ap λc v hc q=>M3.1 c v (bk c v q (.inl hc) λz=>hc (J.Ec c z))) ae λb z=>absurd z 0#w
  have fr:X.A.frames=some (X.env::X.outer):=by rw [<- HX];exact I.ok.frames
  have av:xm B (X.env::X.outer) e C (.ref t) s2.heap:=by rw [<- HX];exact OZ
  subst hT
  refine E6 (R:=λh4=>Heap.HeldW B (X.env::X.outer) e C (.ref t) X.env.locals h4/\s2.heap.UpToSlots h4) yW (λQ0 U=>wpAny_looks_onW fr hfr av λh4 Y ad=>U h4 ⟨Y,ad⟩) (λh4 ⟨Y,ad⟩ ax=>?_)
  refine E6 (R:=λO=>xm B (X.env::X.outer) e C (.ref t) O/\h4.UpToSlots O) sC (λQ0 U=>wpAny_landsW Y λO M3 S=>U O ⟨M3,S⟩) (λO ⟨M3,S⟩ ay=>?_)
  have as:xm B X.stack e C (.ref t) O:=by rw [HX];exact M3
  have J5:=inv O as (ad.trans S)
  obtain ⟨ob,aZ,an⟩:=M3.there
  refine wpAny_handleBy_cons ?_ (by intro q;cases q)
  refine codeAny_handlers_test ?_
  have al:=EZ (Ey:=λ_ _=>False) (e:=e) J5
  refine yX al hg hm ?_ hd
  have LT:=Xp (M:=model X.prog X.w) aZ
  rw [an] at LT
  refine PySem.W.exm_one al.yL LT hx _ _ _ _ (λ_ _ z=>z) ?_
  refine codeAny_handlers_suite_as ?_
  refine E6 (s:={ s2 with heap:=O }) (R:=λh6=>xm B (X.env::X.outer) e C (.ref t) h6/\O.UpToSlots h6) sC (λQ0 U=>lands_againW (s:={ s2 with heap:=O }) M3 λh6 ac aj=>U h6 ⟨ac,aj⟩) (λh6 ⟨ac,aj⟩ aE=>?_)
  have am:xm B X.stack e C (.ref t) h6:=by rw [HX];exact ac
  have J6:=inv h6 am ((ad.trans S).trans aj)
  obtain ⟨Z,a8,_,_,_,ag,⟨aK,_⟩,af,_⟩:=ac.2.2.2
  have aL:Z.dict=dx:=by
   obtain ⟨ob,a,b⟩:=aQ.dk (ax.trans (ay.trans aE))
   have a:h6.get? e=some ob:=a
   rw [ag] at a
   cases a
   exact b
  have ai:e∉frs X.stack:=λz=>by
   obtain ⟨_,o,ho,aN⟩:=am.2.2.1.mem z
   rw [ag] at ho
   cases ho
   exact aN a8 af
  have ne:H2 e=none:=by
   cases g:H2 e with
   | none=>rfl
   | some ho=>
     obtain ⟨o,hh⟩:=vU (J.hok e ho g)
     have:=bk e o hh (.inl (by rw [g];simp)) ai
     rw [OZ.2.1] at this
     cases this
  have aw:e≠X.env.locals:=λz=>ai (by
   rw [HX,z]
   exact JL.mpr ⟨X.env,CA,hfr⟩)
  have a5:e∉X.fs:=λz=>ai (by rw [HX];exact JL.mpr (let ⟨env,he,hf⟩:=JL.mp z;⟨env,DF _ he,hf⟩))
  have G:=EZ (Ey:=λ_ _=>False) (e:=e) J6
  have ar:L2.Inv { X with A:=X.A.mark (some (.ref e)),calm:=false,pn:=(X.pn++L)++[(e,Z)],xe:=λ_ _=>False } rF Q H2 { s2 with heap:=h6 }:=
   ⟨⟨G.ok.mod,G.ok.kind,G.ok.glob,G.ok.blt,G.ok.above,G.ok.inj,G.ok.has,G.ok.V6,λz=>absurd z pJ,G.ok.frames,G.ok.stk,G.ok.exf,G.ok.bs,G.ok.UT,G.ok.KN,G.ok.MX,G.ok.uG,G.ok.V8⟩,G.os,G.bare,G.base,G.loc,G.cell,G.free,G.nJ,
    λp hp=>by
     rcases i8.mp hp with z | z
     ·rcases i8.mp z with y | y
      ·exact G.pin p (Hh _ y)
      ·obtain rfl:p=(e,Z):=by simpa using y
       exact ⟨ag,ne,aw,a5,λv z=>by rw [af] at z;cases z⟩
     ·exact G.pin p (DE _ z),G.hok,G.len⟩
  refine vA (X:={ X with A:=X.A.mark (some (.ref e)),calm:=false,pn:=(X.pn++L)++[(e,Z)],xe:=λ_ _=>False }) ar hN hj (.inl hl) (show RelV (.ref e) (.ref e) from rfl) (λs7 I7=>?_) (.inr hl)
  have rd:=hE e Q J6.len
  refine pO (hs e Z C dx _ 0#w aK aL (by unfold CH;rw [af]) rF s7 _ H2 _ I7 rd) (λfl s8 q=>?_) λ_ _ z=>z.elim
  cases fl with
  | next=>exact let ⟨_,_,_,z⟩:=q;z.elim
  | brk=>exact let ⟨_,_,_,z⟩:=q;z.elim
  | cont=>exact let ⟨_,_,_,z⟩:=q;z.elim
  | ret u=>
    obtain ⟨v,σ3,H3,I8,r8,q8⟩:=q
    obtain ⟨m8,aR,_⟩:=id I8.loc
    refine wpAny_nameGoes (m:=m8) hl aR (by rw [I.ok.kind];rfl) λh9 m9 aU a7=>?_
    exact ⟨v,_,H3,P7 I.ok I8 aU a7 rfl rfl rfl rfl rfl rfl rfl λp hp=>Hh _ (Hh _ hp),r8,q8⟩
 refine pO (hb _ _ _ a6 [] s σ H D (afw I _) h) (λfl s1 q=>?_) λev s1 z=>?_
 ·have q':=ait (λσ H J=>aaT I.ok J) q
  cases fl with
  | next=>exact jW q'
  | brk=>exact q'
  | cont=>exact q'
  | ret u=>exact q'
 ·subst hT
  exact z
end My
namespace Jd
def zN (hg:Gl X x) (c:Xc X.K X.mg x C) (hd:0#e:=by decide):QE X (.Name x pos) (tC (.ref C)):=⟨L2.DW hg c.at_ (show RelV (.ref C) (.ref C) from rfl) hd⟩
end Jd
namespace My
noncomputable def Th (K:bU) (C fI:ah):Bool:=match K.lookup C with
 | some ⟨.type "type",_,.cls cd,sl⟩=>(match cd.mro,sl.toList with
   | .ref C'::bm,[_,_,_,_,some (.builtin n),_]=>C'==C&&n == "ValueError.__new__"&&!cd.hasDel&&cd.hasDict&&PySem.W.tailIn K [.type "ValueError",.type "Exception",.type "BaseException",.type "object"] bm&&PySem.W.nsOkIn K cd.ns&&fX K cd.ns "__init__"==some (some (.ref fI))
   | _,_=>false)
 | _=>false
end My
namespace My
open PySem PySem.Spec PyProof.Rows PySem.W
structure Xg (K:bU) (C:ah):Prop where
 ga:findIn K (.ref C) "__getattribute__"=some (some (.builtin "BaseException.__getattribute__"))
 gk:findIn K (.ref C) "__getattr__"=some none
 gm:mroIn K C (.type "BaseException")=some true
end My
namespace My
structure Xq (K:bU) (C:ah):Prop where
 g:Xg K C
 hd:CB K C=true
 ha:iz K (.ref C) "__class__"=some (some (.builtin "object.__class__"))
 hn:Zx K (.builtin "object.__class__") "__get__"=some (some (.builtin "getset_descriptor.__get__"))
 htk:ZH K (.builtin "object.__class__")=some true
 hm:UB K C (.type "object")=some true
section
open PySem.W
def HD {K:bU} (hc:(clsIn K C).isSome=true) (ha:findIn K (.ref C) name=some (some a)) (hg:specialIn K a "__get__"=some (some g)) (ht:takesIn K a=some true):findObj K C od name=some (.bind g a):=by
 obtain ⟨cd,hc⟩:=Om.mp hc
 unfold findObj
 rw [hc,ads,ha,ads]
 simp [hg,ht]
def ahe {K:bU} (q:Xq K C) (X:K.In s.heap) (I:OR s.heap x ox C od) (h:Q (some (.ref C)) { s with toks:=s.toks+1 }):bY 1#b A (getAttr? (.ref x) "__class__") Q E s:=by
 obtain ⟨u,g,d,t,B⟩:=s
 have L:findObj K C od "__class__"=some (.bind (.builtin "getset_descriptor.__get__") (.builtin "object.__class__")):=HD (by obtain ⟨cd,J,_⟩:=UJ q.hd;rw [J];rfl) q.ha q.hn q.htk
 have v:=I.type (M:=model prog w)
 have D:=adn (M:=model prog w) X q.g.ga
 have L2:=looks_find (M:=model prog w) X I L
 have z:=PySem.F.excAttr_ValueError
 unfold getAttr? getAttrBy? getAttrBy
 refine dX (wpAny_mkText (dX (adX (G4 (dX (v.at (dX (D.at ?_))))))))
 show bY _ _ (if (onTheHeap (Value.ref C)&&(Value.builtin "BaseException.__getattribute__")==Value.builtin "object.__getattribute__")=true then _ else getAttrByItsOwn _ _ _ _ _ _) _ _ _
 rw [if_neg (by show ¬((true&&_)=true);decide +kernel)]
 unfold getAttrByItsOwn
 refine dX ((looks_hook (M:=model prog w) (mc:=.ref C) X (r:=none) (show (if true=true then _ else _)=_ from by rw [if_pos rfl];exact q.g.gk)).at ?_)
 refine dX (adX (G4 ?_))
 unfold callGetattribute
 have sub:Looks 1#b u (isInstance (.ref x) (.type "BaseException")) true:=v.andThen (looks_mroIn X q.g.gm)
 rw [if_neg (show ¬((false&&onTheHeap (Value.builtin "BaseException.__getattribute__"))=true) by decide)]
 unfold boundAndCalled
 have G:=z.ga.bind (.ref x)
 rw [G]
 refine dX (jW ?_)
 refine OU (codeAny_call_builtin z.ga.plain PySem.F.entry_bexc_ga (@check_slot 1#b _ _ ⟨u,g,d,t+1,B⟩ "BaseException.__getattribute__" "BaseException" "__getattribute__" (.ref x) [.str "__class__" t] [] _ 0#x 0#x sub (PySem.F.args_bexc_ga _ _) ?_))
 refine dX (jW (dX (jW (dX (v.at (dX (L2.at ?_)))))))
 show bY _ _ (holding [Value.builtin "object.__class__"] (call (.builtin "getset_descriptor.__get__") [.builtin "object.__class__",.ref x,.ref C]) >>= _) _ _ _
 refine dX (G4 (OU (class_get (s:=⟨u,g,d,t+1,B⟩) (ox:=ox) (od:=od) X I q.hm ?_)))
 refine jW ?_
 show bY _ _ (handedOut (Value.ref C)) _ _ _
 rw [handedOut_of rfl]
 exact jW (jW h)
def Nq {K:bU} (q:Xq K C):KitX K (.ref x) (.ref C) (λh=>OR h x ox C od) where
 ty:=λ_ _ _ I=>I.type
 it:=λ_ _ X _=>by
  obtain ⟨cdD,hcD,_⟩:=UJ q.hd
  unfold clsIn at hcD
  split at hcD
  ·rename_i c' d' cd' sl' ho
   intro A' Q' E' s' k q
   unfold isType loadHead
   exact dX (adH (k _ _ (X _ _ ho)) (jW q))
  ·cases hcD
 ne:=λh tp dd its n sl X htp=>by
  obtain ⟨cdD,hcD,_⟩:=UJ q.hd
  refine gH.mpr λq=>?_
  have e:C=tp:=Value.ref.inj (tR.mp q)
  subst e
  unfold clsIn at hcD
  split at hcD
  ·rename_i c' d' cd' sl' ho
   have z:=(X _ _ ho).symm.trans htp
   cases z
  ·cases hcD
 ca:=λX I k=>ahe q X I k
end
inductive aeu:V->bq->Prop
 | own (C:ah):aeu (.ref C) (.ref C)
 | ty (n:String):aeu (.ty n) (.type n)
def afZ (K:bU) (e:ah) (c:bq) (dx:Option ah):0#n->Hp->VK->Prop:=λxs H Q=>∃(C:ah) (y:V) (cv:bq) (b:Bool),xs=[.ref e,y]/\aeu y cv/\c=.ref C/\(∀d,dx=some d->∃fs,H d=some (.xd fs))/\Xq K C/\Hi K (.ref C) cv=some b/\Q (.bl b) H
def aj6 (h:(e,ob)∈X.pn) (hc:ob.cls=c) (hd:ob.dict=dx) (hno:CH ob=true):jG X (.builtin "isinstance") (afZ X.K e c dx):=by
 intro pins s σ H xs us Q I r q
 obtain ⟨C,y,M,b,rfl,N,E,u,x,L,q⟩:=q
 obtain ⟨U,Y,rfl,R,S⟩:=vals2 r
 cases (show U=Value.ref e from R)
 have B:Y=M:=by cases N <;> exact S
 subst B
 have G:=(I.pin (e,ob) (Hh _ h)).1
 cases dx with
 | none=>
   have J:OR s.heap e ob C none:=⟨G,hc.trans E,hno,by rw [hd];trivial⟩
   exact B4 (Nq x) I.yL J L (λz=>nomatch z) λD=>⟨.bl b,H,I.tok D,rfl,q⟩
 | some d=>
   obtain ⟨fs,u⟩:=u d rfl
   obtain ⟨mA,v,_⟩:=I.hok d _ u
   obtain ⟨O,A,hlk⟩:=Jk v
   have J:OR s.heap e ob C (some O):=⟨G,hc.trans E,hno,by rw [hd];exact A⟩
   exact B4 (Nq x) I.yL J L (λz=>nomatch z) λD=>⟨.bl b,H,I.tok D,rfl,q⟩
def Ky (K:bU)  (h:(e,ob)∈X.pn) (hc:ob.cls=c) (hd:ob.dict=dx) (hno:CH ob=true) (hK:X.K=K:=by rfl):jG X (.builtin "isinstance") (afZ K e c dx):=hK▸aj6 h hc hd hno
end My
namespace Jd
def vW (hN:X.N.Nodup) (hj:X.N[j]?=some nm) (hl:X.env.scope.names.lookup nm=some .local) (hg:Gl X x) (hm:X.mg x=some (.ref Cc)) (hfr:X.env.frame=some X.env.locals) (HX:X.stack=X.env::X.outer)
 (hb:∀(ic:List (ah×Obj)) (xe':bq->bB->Prop) (E:XK),Passes (mO X.prog X.w) { X with pn:=ic,xe:=xe' } E->O8 { X with pn:=ic,xe:=xe' } body (tb E))
 (hs:∀(e:ah) (ob:Obj) (c:bq) (dx:Option ah) (ic:List (ah×Obj)),(e,ob)∈ic->ob.cls=c->ob.dict=dx->CH ob=true->O8 { X with A:=X.A.mark (some (.ref e)),calm:=false,pn:=ic,xe:=λ_ _=>False } (b0::suite) (ts e c dx)) (hd:0#e:=by decide) :
 QS X (.Try body [.ExceptHandler (some (.Name x np)) (some nm) (b0::suite) hpos] [] [] pos) (Ml X.K X.N.length j tb Cc ts):=
 ⟨My.vW hN hj hl hg hm hfr HX (λic xe' E hp=>(hb ic xe' E hp).h) (λe ob c dx ic h1 h2 h3 h4=>(hs e ob c dx ic h1 h2 h3 h4).h) hd⟩
end Jd
namespace My
def Ym {K:bU} (h:tb (λC dx H2=>vI K C (.ref Cc)=some true/\∀(e:ah) (σ':L2.St),σ'.length=n->ts e C dx { nx:=λ_ _=>False,rt:=D.rt } (σ'.set j (some (.ref e))) H2) D σ H):Ml K n j tb Cc ts D σ H:=h
end My
namespace Jd
def ab8 (hg:Gl X x) (hm:X.mg x=some (.ref C)) (hd:0#e:=by decide):QE X (.Name x pos) (tC (.ref C)):=⟨L2.DW hg hm (show RelV (.ref C) (.ref C) from rfl) hd⟩
end Jd
namespace My
noncomputable def xqB (K:bU) (C:ah):Bool:=
 iz K (.ref C) "__getattribute__"==some (some (.builtin "BaseException.__getattribute__"))&&(iz K (.ref C) "__getattr__"==some none&&(UB K C (.type "BaseException")==some true&&(CB K C&&(iz K (.ref C) "__class__"==some (some (.builtin "object.__class__")) &&
 (Zx K (.builtin "object.__class__") "__get__"==some (some (.builtin "getset_descriptor.__get__"))&&(ZH K (.builtin "object.__class__")==some true&&UB K C (.type "object")==some true))))))
def aiz {K:bU} (h:xqB K C=true):Xq K C:=by
 unfold xqB at h
 rw [ue,ue,ue,ue,ue,ue,ue] at h
 obtain ⟨a,b,c,d,e,f,g,i⟩:=h
 exact ⟨⟨tR.mp a,tR.mp b,tR.mp c⟩,d,tR.mp e,tR.mp f,tR.mp g,tR.mp i⟩
def rP:∀{us:List bq} {ns:List Int},Aw us ns->Vals 1#i us
 | _,_,.nil=>.nil
 | _,_,.cons n t r=>.cons ⟨t,rfl⟩ (rP r)
def Lv (h:ta σ H λvs H1=>∃i j:Int,vs=[.int i,.int j]/\(-(2 ^ 62)<=i/\i<2 ^ 62/\-(2 ^ 62)<=j/\j<2 ^ 62)/\R (Itr i (j-i).toNat) H1):Xb ta σ H R:=h
end My
namespace Jd
def oG (hg:Gl X "range") (hm:X.mg "range"=none) (ha:QA X [a,b] t) (hs:dg [a,b] X.env=[(false,eval a X.env),(false,eval b X.env)]:=by rfl) (hs2:dg [b] X.env=[(false,eval b X.env)]:=by rfl) :
 QI X tg (.Call (.Name "range" p) [a,b] [] pos) (Xb t):=⟨L2.oG hg hm ha.h hs hs2⟩
end Jd
namespace My
def uI {σ:L2.St} {T:ah} (ch:List ah) (I:L2.Inv X pins σ H s) (k:∀b u,b∉ch->s.heap.get? b=some u->h'.get? b=some u)
 (hf:∀b∈ch,CT X pins H b) (hT:s.heap.objs.size<=T) (new:d7 X.prog X.w (upd H T o) h' T o):L2.Inv X pins σ (upd H T o) { s with heap:=h',toks:=t' }:=by
 have O:H T=none:=I.hok.fresh hT
 have out:∀b u,H b=some u->b∉ch:=λb u e z=>by rw [(hf b z).1] at e;cases e
 have A:∀b u,H b=some u->upd H T o b=some u:=λb u e=>by rw [aF (bT e O)];exact e
 refine I.step (g':=s.gens) (d':=s.drawn) (ch:=ch) (λb D=>?_) (λb u _ _ B e _=>k b u B e) (λb u _ _ B e _=>⟨u.slots,k b u B e⟩) (λb u B e z=>?_) (λb u B e=>⟨u,k b u B e⟩)
  (λb R e=>A b _ e) (λb u v e=>A b _ e) (λb ps e=>⟨#[],by rw [A b _ e];simp⟩) (λm N=>?_) (λb u e=>?_) I.bare
 ·obtain ⟨_,G,_,J,L,M⟩:=hf b D
  exact ⟨J,G,L,M⟩
 ·have D:b≠T:=mK (nI (fW e) hT)
  rw [aF D]
  exact z
 ·obtain ⟨u,es,E,Q,r⟩:=N
  exact ⟨u,es,E,k _ u (λz=>(hf _ z).2.1 rfl) Q,r⟩
 ·by_cases D:b=T
  ·subst D
   rw [au] at e
   cases e
   exact new
  ·rw [aF D] at e
   exact d7.stay (I.hok b u e) (λc v B q=>k c v (B.elim (λz=>z▸out b u e) λz=>out c _ z) q) (λc q=>A c _ q) λc R q=>A c _ q
def Ite (K:bU) (a:ah):It:=
 ⟨λi H=>∃xs x,bS K H a xs/\xs[i]?=some x,λi H v H'=>∃(p:ah) (x:V),H p=none/\v=.ref p/\H'=upd H p (.tup [.int (i:Int),x])/\∀xs,bS K H a xs->xs[i]?=some x,λi H=>∃xs,bS K H a xs/\xs.length<=i⟩
def VU {K:bU} (a e it:ah) (hei:e≠it) :
 Turn P w K (.Tuple elts kt tpos) (Ite K a) [e,it] e (λi h=>(∃old,IsEnum h e it (i:Int) old)/\h.IsListIter it a i) where
 mem:=by simp
 obj:=λi h st b hb=>by
  obtain ⟨⟨old,he⟩,o,eo,c,d⟩:=st
  rcases (show b=e\/b=it by simpa using hb) with rfl | rfl
  ·exact ⟨_,he,λv z=>by cases z⟩
  ·exact ⟨o,eo,λv z=>by rw [d] at z;cases z⟩
 keep:=λi h h' st k=>⟨let ⟨old,he⟩:=st.1;⟨old,k e 0#w _ he⟩,st.2.at λo q=>k it 0#w o q⟩
 item:=by
  intro X S hw R hc i D s σ H E I N st Z
  subst S hw R
  obtain ⟨⟨old,he⟩,B⟩:=st
  obtain ⟨xs,x,O,hx⟩:=Z
  obtain ⟨ae,rv,p,hz⟩:=I.list O
  obtain ⟨u,hu,ru⟩:=rv.get hx
  refine wpAny_pyNext_enum_item he B p.isList (x:=u) (by simpa using hu) hei λh1 ho Q hT hsz hk=>?_
  refine ⟨_,rfl,wpAny_letOwnedTupleGo_enum (s:={ s with heap:=h1,toks:=s.toks+1 }) ho λM Y ac=>?_⟩
  have G:CI e h1 M:=ac
  have ke:∀b o,b∉[e,it]->s.heap.get? b=some o->M.get? b=some o:=λb o hb q=>by
   have A:b≠e:=λz=>hb (by simp [z])
   have J:b≠it:=λz=>hb (by simp [z])
   exact (G.2 b A).trans (hk b o A J q)
  have L:e<s.heap.objs.size:=fW he
  have U:M.get? s.heap.objs.size=some { cls:=.type "tuple",data:=.seq #[.int i s.toks,u] }:=(G.2 _ (ZV L)).trans hT
  have hn:H s.heap.objs.size=none:=I.hok.fresh (gI _)
  have I2:L2.Inv X D σ (upd H s.heap.objs.size (.tup [.int (i:Int),x])) { s with heap:=M,toks:=s.toks+1 }:=by
   refine uI [e,it] I ke N (gI _) ?_
   exact ⟨by show 2<=sizeLine;decide,[.int (i:Int) s.toks,u],.cons ⟨_,rfl⟩ (.cons ru .nil),_,U,rfl,_,rfl⟩
  refine ⟨.ref s.heap.objs.size,upd H s.heap.objs.size (.tup [.int (i:Int),x]),I2,rfl,⟨s.heap.objs.size,x,hn,rfl,rfl,λys hy=>by rw [I.zf hy O];exact hx⟩,⟨⟨u,?_⟩,Q.at λo q=>(G.2 it (jx hei)).trans q⟩,λb hb=>?_⟩
  ·have:=Y
   simpa using this
  ·have A:=(N b hb).1
   have ad:it<s.heap.objs.size:=by
    obtain ⟨o,eo,_⟩:=B
    exact fW eo
   have J:b≠s.heap.objs.size:=by
    rcases (show b=e\/b=it by simpa using hb) with rfl | rfl
    ·exact mK L
    ·exact mK ad
   rw [aF J]
   exact A
 done:=by
  intro X S hw R hc i D s σ H E I N st Z
  subst S hw R
  obtain ⟨⟨old,he⟩,B⟩:=st
  obtain ⟨xs,O,hx⟩:=Z
  obtain ⟨ae,rv,p,hz⟩:=I.list O
  have hl:=rv.length
  obtain ⟨f0,f1,f2,f3,f4,f5⟩:=N it 0#w
  exact wpAny_pyNext_enum_end (I.ok.hd hc) he B p.isList (by simp;simp?) λh' eb=>⟨rfl,I.turned (t':=s.toks) (λb o hb q=>eb b o hb q) f0 f1 f3 f4 f5⟩
 self:=λ_ _ _ _ _ st h=>let ⟨_,he⟩:=st.1;adf he h
def W9 (K:bU) (ta:TA):TI:=λσ H R=>ta σ H λvs H1=>∃a xs,vs=[.ref a]/\bS K H1 a xs/\R (Ite K a) H1
def DX (K:bU) (hg:Gl X "enumerate") (hm:X.mg "enumerate"=none) (ha:PA X [a] ta) (hs:dg [a] X.env=[(false,eval a X.env)]:=by rfl) (hK:X.K=K:=by rfl) :
 PI X (.Tuple elts kt tpos) (.Call (.Name "enumerate" p) [a] [] pos) (W9 K ta):=by
 subst hK
 intro v s G H R I h
 refine Call_ (xT I hg hm boot_enumerate (Ol (ig (ha pos v s G H _ I h) λus u ⟨vs,B,z,S,Q⟩=>?_) hs rfl))
 obtain ⟨l,xs,e,N,q⟩:=Q
 subst e
 cases S with
 | cons r rr=>
   cases rr
   cases r
   obtain ⟨its,rv,O,hz⟩:=z.list N
   refine call_enumerate_list O.isList λD E A hsz M=>?_
   have J:L2.Inv X v G B { u with heap:=D }:=z.kept (t':=u.toks) M
   refine adf (s:={ u with heap:=D }) E ?_
   refine ⟨u.heap.objs.size+1,[u.heap.objs.size+1,u.heap.objs.size],_,_,B,rfl,J,VU l (u.heap.objs.size+1) u.heap.objs.size (Nat.succ_ne_self _),⟨⟨_,E⟩,A⟩,λb L=>?_,q⟩
   rcases (show b=u.heap.objs.size+1\/b=u.heap.objs.size by simpa using L) with rfl | rfl
   ·exact z.Pn (OT _) (z.hok.fresh (OT _))
   ·exact z.Pn (gI _) (z.hok.fresh (gI _))
def Yi {K:bU} (h:ta σ H λvs H1=>∃a xs,vs=[.ref a]/\bS K H1 a xs/\R (Ite K a) H1):W9 K ta σ H R:=h
def WN {σ:L2.St} {H:Hp} {K:bU} {a:ah} {g:TG} {tb:TS} {D:Ends} (Pv:Nat->L2.St->Hp->Prop) (h0:Pv 0 σ H) (hl:∀i σ H,i<=xs.length->Pv i σ H->bS K H a xs)
 (hs:∀(i:Nat) (x:V) (σ:L2.St) (H:Hp) (p:ah) (H':Hp),xs[i]?=some x->Pv i σ H->ao H H'->H p=none->H' p=some (.tup [.int (i:Int),x])->g (.ref p) σ H' λσ2 H2=>tb { D with nx:=Pv (i+1),ct:=Pv (i+1),bk:=D.nx } σ2 H2)
 (hd:∀σ H,Pv xs.length σ H->D.nx σ H) :
 ∃W:Nat->Nat->L2.St->Hp->Prop,(∃m,W 0 m σ H)/\∀i m σ H,W i m σ H ->
  ((Ite K a).stop i H/\D.nx σ H)\/((Ite K a).go i H/\∃N:L2.St->Hp->Prop,(∀σ' H',N σ' H'->∃m',m'<m/\W (i+1) m' σ' H')/\∀x H',(Ite K a).Zb i H x H'->g x σ H' λσ2 H2=>tb { D with nx:=N,ct:=N,bk:=D.nx } σ2 H2):=by
 refine ⟨λi m σ H=>m=xs.length-i/\i<=xs.length/\Pv i σ H,⟨xs.length,rfl,jV _,h0⟩,?_⟩
 rintro i m σ H ⟨rfl,A,p⟩
 have q:=hl i σ H A p
 rcases ad5 i xs.length with u | hge
 ·refine .inr ⟨⟨xs,xs[i],q,jE u⟩,Pv (i+1),λσ' H' E=>⟨xs.length-(i+1),by simp?,rfl,u,E⟩,λx H' y=>?_⟩
  obtain ⟨pt,G,v,rfl,rfl,B⟩:=y
  exact hs i G σ H pt _ (B xs q) p (iG v _) v au
 ·have z:i=xs.length:=by simp?
  subst z
  exact .inl ⟨⟨xs,q,gI _⟩,hd σ H p⟩
def af8 (h:D.ct σ H):YO D σ H:=h
def EY (K:bU) (h:X.K=K:=by rfl):t6 X (pP .In) (rIn K false):=h▸VG
def NI (K:bU) (h:X.K=K:=by rfl):t6 X (pP .NotIn) (rIn K true):=h▸K6
end My
namespace Jd
def uS:QS X (.Continue pos) YO:=⟨L2.uS⟩
def DX (K:bU)  (hg:Gl X "enumerate") (hm:X.mg "enumerate"=none) (ha:QA X [a] ta) (hs:dg [a] X.env=[(false,eval a X.env)]:=by rfl) (hK:X.K=K:=by rfl) :
 QI X (.Tuple elts kt tpos) (.Call (.Name "enumerate" p) [a] [] pos) (W9 K ta):=⟨My.DX K hg hm ha.h hs hK⟩
end Jd
namespace My
def yN (K:bU) (C:ah):List Str->Prop
 | []=>True
 | f::fs=>qw K C f/\yN K C fs
def yN.of {K:bU}:∀{fs:List Str},yN K C fs->f∈fs->qw K C f
 | g::fs,h,hm=>by
   rcases kM.mp hm with z | z
   ·rw [z];exact h.1
   ·exact yN.of h.2 z
structure Cl (K:bU) (mg:0#g) (x:Str) (C:ah) (fs:List Str):Prop where
 cl:MB K C
 at_:mg x=some (.ref C)
 no:yN K C fs
structure Dm (P:fT) (w:dO) (K:bU) (mg:0#g) (base:cH) (k:Nat) (C:ah) (m:Str) (ps:List Str) (sp:Sp):Prop where
 ex:∃(f:ah) (fd:ia),bf P w K mg base dw k f fd ps sp/\Meth K C m f/\Binds K fd ps []
structure Dk (P:fT) (w:dO) (K:bU) (mg:0#g) (base:cH) (k:Nat) (x:Str) (C:ah) (ps:List Str) (sp:Sp):Prop where
 ex:∃(f:ah) (fd:ia),bf P w K mg base dw k f fd ps sp/\Mk K C f/\Binds K fd ps []/\mg x=some (.ref C)
def ah0 (K:bU) (f:Str):V->Hp->VK->Prop:=λx H Q=>∃a C dx fs v,x=.ref a/\H a=some (.ins C dx fs)/\MB K C/\qw K C f/\fs.lookup f=some v/\Q v H
def acd (K:bU) (f:Str) (y:V) (N:Hp->Prop):V->Hp->Prop:=λx H=>∃a C dx fs,x=.ref a/\H a=some (.ins C dx fs)/\MB K C/\qw K C f/\fs.length<1000/\N (upd H a (.ins C dx (aD f y fs)))
def acf (C:ah) (m:Str) (sp:Sp) (σ:L2.St) (t:TA):V->Hp->VK->Prop:=λx H1 Q=>∃a dx fs,x=.ref a/\H1 a=some (.ins C dx fs)/\fs.lookup m=none/\t σ H1 λvs H2=>sp (x::(vs++[])) H2 Q E0
def ah6 {K:bU} (h:to σ H λx H1=>ah0 K f x H1 Q):agz K to f σ H Q:=h
def agm {K:bU} (h:tv σ H λy H1=>to σ H1 λx H2=>acd K f y (λH3=>D.nx σ H3) x H2):agr K to tv f D σ H:=h
def agi (h:to σ H λx H1=>acf C m sp σ t x H1 Q):Cy C m sp [] E0 to t σ H Q:=h
def agg (h:t σ H λvs H1=>∀x dx,H1 x=none->H1 dx=none->dx≠x->sp (.ref x::(vs++[])) (upd (upd H1 dx (.own x)) x (.ins C dx [])) (λv H2=>v=.bM/\Q (.ref x) H2) E0):Oh C sp [] E0 t σ H Q:=h
def i7 {K:bU} (k:Cl K mg x C fn) (ha:H a=some (.ins C dx fs)) (hl:fs.lookup f=some v) (q:Q v H) (hf:f∈fn:=by decide):ah0 K f (.ref a) H Q:=⟨a,C,dx,fs,v,rfl,ha,k.cl,k.no.of hf,hl,q⟩
def yd {K:bU} (k:Cl K mg x C fn) (ha:H a=some (.ins C dx fs)) (hn:fs.length<1000) (q:N (upd H a (.ins C dx (aD f y fs)))) (hf:f∈fn:=by decide):acd K f y N (.ref a) H:=⟨a,C,dx,fs,rfl,ha,k.cl,k.no.of hf,hn,q⟩
def F3 (ha:H a=some (.ins C dx fs)) (hm:fs.lookup m=none) (q:t σ H λvs H2=>sp (.ref a::(vs++[])) H2 Q E0):acf C m sp σ t (.ref a) H Q:=⟨a,dx,fs,rfl,ha,hm,q⟩
end My
namespace Jd
def QD {X:Cx} {f:Str} {pos:Pos} {e:bz} {to:TE} (K:bU) (he:QE X e to) (hb:wF e f X.env (eval e X.env)=eval e X.env:=by rfl) (hK:X.K=K:=by rfl):QE X (.Attribute e f pos) (agz K to f):=⟨hK▸L2.QD he.h hb⟩
def QY {X:Cx} {f:Str} {pos:Pos} {o value:bz} {to tv:TE} (K:bU) {pos':Pos} (ha:QE X o to) (hv:QE X value tv) (hs:kR value (some (.Attribute o f pos')) pos.line X.env=pure false:=by rfl) (hK:X.K=K:=by rfl):QS X (.Assign [.Attribute o f pos'] value pos) (agr K to tv f):=⟨hK▸L2.QY ha.h hv.h hs⟩
def Tn (D:Dk X.prog X.w X.K X.mg X.base k x C ps sp) (hr:gM (k+1) X.A) (hg:Gl X x) (ha:QA X (e::es) t) (hdb:0#e:=by decide)
 (he:0#f:=by rfl) (hpl:0#i:=by rfl):QE X 1#g (Oh C sp [] E0 t):=by
 obtain ⟨fa,fd,ok,v,u,z⟩:=D.ex
 exact ⟨To v ok hr hg z u .nil Ti ha.h hdb he hpl⟩
def wQ {X:Cx} {k:Nat} {m:Str} {ps:List Str} {sp:Sp} {pos apos:Pos} {o e:bz} {es:List bz} {to:TE} {t:TA} {C:ah} (D:Dm X.prog X.w X.K X.mg X.base k C m ps sp) (c:MB X.K C) (hr:gM k X.A) (ho:QE X o to) (ha:QA X (e::es) t) {pl:Sem Bool}
 (he:0#f:=by rfl) (hpl:0#i:=by rfl)
 (ht:eval (.Call (.Attribute o m apos) (e::es) [] pos) X.env=(do
   let ov <- eval o X.env
   xy apos.atName
   let (g,first) <- holding [ov] (CM ov m pl)
   callWith pos g first (gc pos (dg (e::es) X.env)) (qe pos (qd [] X.env))):=by rfl):QE X (.Call (.Attribute o m apos) (e::es) [] pos) (Cy C m sp [] E0 to t):=by
 obtain ⟨fa,fd,ok,v,u⟩:=D.ex
 exact ⟨Tq ho.h c v ok hr u .nil Ti ha.h he hpl ht⟩
def afU {X:Cx} {k:Nat} {m:Str} {ps:List Str} {sp:Sp} {pos apos:Pos} {o:bz} {to:TE} {C:ah} (D:Dm X.prog X.w X.K X.mg X.base k C m ps sp) (c:MB X.K C) (hr:gM k X.A) (ho:QE X o to) {pl:Sem Bool}
 (ht:eval (.Call (.Attribute o m apos) [] [] pos) X.env=(do
   let ov <- eval o X.env
   xy apos.atName
   let (g,first) <- holding [ov] (CM ov m pl)
   callWith pos g first (gc pos (dg [] X.env)) (qe pos (qd [] X.env))):=by rfl):QE X (.Call (.Attribute o m apos) [] [] pos) (Cy C m sp [] E0 to pH):=by
 obtain ⟨fa,fd,ok,v,u⟩:=D.ex
 exact ⟨N4 ho.h c v ok hr u .nil Ti ht⟩
end Jd
namespace My
def agp (K:bU)  (ho:PE X o to) (h:X.K=K:=by rfl) (hbase:wF o "reverse" X.env (eval o X.env)=eval o X.env:=by rfl) (hline:0#q:=by rfl) :
 PE X (.Call (.Attribute o "reverse" apos) [] [] cpos) (tUn (λx H Q=>tyV K "list" x H/\zR x [] H Q) to):=
 h▸XZ T7 PySem.F.slot_list_reverse PySem.F.type_list_reverse Qm ho hbase hline
def aik (h:H p=some (.lst xs)) (q:Q .bM (upd H p (.lst xs.reverse))):zR (.ref p) [] H Q:=⟨p,xs,rfl,rfl,h,q⟩
def MY (K:bU)  (ho:PE X o to) (he:PE X e te) (h:X.K=K:=by rfl)
 (hbase:wF o "extend" X.env (eval o X.env)=eval o X.env:=by rfl)
 (hfew:((gc cpos (dg (e::[]) X.env)).all (λx=>!x.1)&&(qe cpos (qd [] X.env)).all (λx=>x.1.isSome)
   && decide ((e::([]:List bz)).length+([]:List nN).length+(if ([]:List nN).isEmpty then 0 else 1)<30))=true:=by rfl)
 (hline:0#q:=by rfl) (hs:dg (e::[]) X.env=(false,eval e X.env)::dg [] X.env:=by rfl) (hplain:(gc cpos (dg [] X.env)).any (·.1)=false:=by rfl) :
 PE X (.Call (.Attribute o "extend" apos) [e] [] cpos) (tBM K "list" DY to (fY te pH)):=
 h▸XY T7 PySem.F.slot_list_extend PySem.F.type_list_extend Vy ho (lY he xZ hs) hbase hfew hline hs hplain
def Jz (h:H p=some (.lst xs)) (hb:H b=some (.lst zs)) (hl:xs.length+zs.length<=sizeLine) (q:Q .bM (upd H p (.lst (xs++zs)))):DY (.ref p) [.ref b] H Q:=⟨p,b,xs,zs,rfl,rfl,h,hb,hl,q⟩
end My
namespace Jd
open PySem PySem.Spec PyProof.Rows L2 Mth
def agp (K:bU)  (ho:QE X o to) (h:X.K=K:=by rfl) (hbase:wF o "reverse" X.env (eval o X.env)=eval o X.env:=by rfl) (hline:0#q:=by rfl) :
 QE X (.Call (.Attribute o "reverse" apos) [] [] cpos) (tUn (λx H Q=>tyV K "list" x H/\zR x [] H Q) to):=⟨My.agp K ho.h h hbase hline⟩
def MY (K:bU)  (ho:QE X o to) (he:QE X e te) (h:X.K=K:=by rfl)
 (hbase:wF o "extend" X.env (eval o X.env)=eval o X.env:=by rfl)
 (hfew:((gc cpos (dg (e::[]) X.env)).all (λx=>!x.1)&&(qe cpos (qd [] X.env)).all (λx=>x.1.isSome)
   && decide ((e::([]:List bz)).length+([]:List nN).length+(if ([]:List nN).isEmpty then 0 else 1)<30))=true:=by rfl)
 (hline:0#q:=by rfl) (hs:dg (e::[]) X.env=(false,eval e X.env)::dg [] X.env:=by rfl) (hplain:(gc cpos (dg [] X.env)).any (·.1)=false:=by rfl) :
 QE X (.Call (.Attribute o "extend" apos) [e] [] cpos) (tBM K "list" DY to (fY te pH)):=⟨My.MY K ho.h he.h h hbase hfew hline hs hplain⟩
end Jd
namespace L2
open PySem PySem.Spec PyProof.Rows
def Ia {α:Type}:∀{us:List α},us.length=n+1->∃(a:α) (as:List α),us=a::as/\as.length=n
 | [],h=>nomatch h
 | a::as,h=>⟨a,as,rfl,ad3 h⟩
def len0 {α:Type}:∀{us:List α},us.length=0->us=[]
 | [],_=>rfl
 | _::_,h=>nomatch h
def i9.sr {K:bU} {st:aS} (F:i9 K x qual st f fd) (h:∀(kV doc pm:bq) (an:Option ah) (cdv ct ua:bq),xu (pN x qual (eY st) (c9 st) (bw st) .none kV doc pm an cdv ct) ⟨[ua],[]⟩=pure [(pa,ua)]):Binds K fd [pa] []:=
 F.binds λkV doc pm an cdv ct us hl=>by
  obtain ⟨ua,us0,rfl,hl0⟩:=Ia (n:=0) hl
  obtain rfl:=len0 hl0
  exact h kV doc pm an cdv ct ua
def i9.su {K:bU} {st:aS} (F:i9 K x qual st f fd) (h:∀(kV doc pm:bq) (an:Option ah) (cdv ct ua ub:bq),xu (pN x qual (eY st) (c9 st) (bw st) .none kV doc pm an cdv ct) ⟨[ua,ub],[]⟩=pure [(pa,ua),(pb,ub)]):Binds K fd [pa,pb] []:=
 F.binds λkV doc pm an cdv ct us hl=>by
  obtain ⟨ua,us1,rfl,hl1⟩:=Ia (n:=1) hl
  obtain ⟨ub,us0,rfl,hl0⟩:=Ia (n:=0) hl1
  obtain rfl:=len0 hl0
  exact h kV doc pm an cdv ct ua ub
def i9.Es {K:bU} {st:aS} (F:i9 K x qual st f fd) (h:∀(kV doc pm:bq) (an:Option ah) (cdv ct ua ub uc:bq),xu (pN x qual (eY st) (c9 st) (bw st) .none kV doc pm an cdv ct) ⟨[ua,ub,uc],[]⟩=pure [(pa,ua),(pb,ub),(pc,uc)]):Binds K fd [pa,pb,pc] []:=
 F.binds λkV doc pm an cdv ct us hl=>by
  obtain ⟨ua,us2,rfl,hl2⟩:=Ia (n:=2) hl
  obtain ⟨ub,us1,rfl,hl1⟩:=Ia (n:=1) hl2
  obtain ⟨uc,us0,rfl,hl0⟩:=Ia (n:=0) hl1
  obtain rfl:=len0 hl0
  exact h kV doc pm an cdv ct ua ub uc
def i9.Et {K:bU} {st:aS} (F:i9 K x qual st f fd) (h:∀(kV doc pm:bq) (an:Option ah) (cdv ct ua ub uc ud:bq),xu (pN x qual (eY st) (c9 st) (bw st) .none kV doc pm an cdv ct) ⟨[ua,ub,uc,ud],[]⟩=pure [(pa,ua),(pb,ub),(pc,uc),(pd,ud)]):Binds K fd [pa,pb,pc,pd] []:=
 F.binds λkV doc pm an cdv ct us hl=>by
  obtain ⟨ua,us3,rfl,hl3⟩:=Ia (n:=3) hl
  obtain ⟨ub,us2,rfl,hl2⟩:=Ia (n:=2) hl3
  obtain ⟨uc,us1,rfl,hl1⟩:=Ia (n:=1) hl2
  obtain ⟨ud,us0,rfl,hl0⟩:=Ia (n:=0) hl1
  obtain rfl:=len0 hl0
  exact h kV doc pm an cdv ct ua ub uc ud
end L2
namespace My
open PySem PySem.Spec PyProof.Rows L2
def iY (Pv:L2.St->Hp->Prop) (rest:∀σ' H',Pv σ' H'->u D σ' H') (h:∀N:L2.St->Hp->Prop,(∀σ' H',Pv σ' H'->N σ' H')->t { D with nx:=N } σ H):DC t u D σ H:=h (u D) rest
def YB (Pv:L2.St->Hp->Prop) (rest:∀σ' H',Pv σ' H'->u D σ' H') (h:∀N:L2.St->Hp->Prop,(∀σ' H',Pv σ' H'->N σ' H')->DC a (DC b (DC c d)) { D with nx:=N } σ H):DC a (DC b (DC c (DC d u))) D σ H:=h (u D) rest
def ab7 (h:N σ H):(Ends.mk N rt bk ct).nx σ H:=h
def fP {g:TG} {tb:TS} (h:∀(M B:L2.St->Hp->Prop) (R:VK),(∀σ H,Pv σ H->M σ H)->(∀σ H,bk σ H->B σ H)->(∀v H,rt v H->R v H)->g x σ H λσ2 H2=>tb (Ends.mk M R B M) σ2 H2):g x σ H λσ2 H2=>tb (Ends.mk Pv rt bk Pv) σ2 H2:=h Pv bk rt (λ_ _ z=>z) (λ_ _ z=>z) (λ_ _ z=>z)
end My
namespace My
def ace (K:bU):0#n->Hp->VK->Prop:=λxs H Q=>∃(l:ah) (ns:List Int),xs=[.ref l]/\bS K H l 1#i/\0<ns.length/\∀M:Int,M∈ns->(∀a∈ns,a<=M)->Q (.int M) H
def akc (K:bU) (hc:X.calm=true) (hK:X.K=K:=by rfl):jG X (.builtin "max") (ace K):=by
 subst hK
 intro pins s σ H xs us Q I r h
 obtain ⟨l,G,rfl,N,hpos,q⟩:=h
 obtain ⟨u,rfl,S⟩:=vals1 r
 cases S
 obtain ⟨its,R,p,hz⟩:=I.list N
 have E:=intsAre_of R
 obtain ⟨B,e⟩:=E.allInts.items
 have A:G=B.toList.map (·.1):=by
  have D:=nums_intItems B
  rw [<- e] at D
  exact E.numsOf.symm.trans D
 have J:s.heap.IsList l (intItems B):=by rw [<- e];exact p.isList
 have hlen:G.length=B.size:=by rw [A,iI,Uh]
 refine max_intList (I.ok.hd hc) J 0#z λv h' tk O M=>?_
 obtain ⟨t,rfl⟩:=intItems_at O
 obtain ⟨h1,D⟩:=argBest_gt (numAt B) (B.size-1)
 refine ⟨.int _,H,I.kept M,⟨t,rfl⟩,q _ ?_ λa L=>?_⟩
 ·rw [numAt_eq,<- A]
  exact PySem.getD_mem 0#z
 ·obtain ⟨j,hj,rfl⟩:=PySem.mem_getD L
  have:=D j 0#z
  rw [numAt_eq B j,<- A] at this
  exact this
def agh {K:bU} {ns:List Int} (h:bS K H l 1#i) (hp:0<ns.length) (q:∀M:Int,M∈ns->(∀a∈ns,a<=M)->Q (.int M) H):ace K [.ref l] H Q:=⟨l,ns,rfl,h,hp,q⟩
def Lu:V->0#n->Hp->VK->Prop:=λx vs H Q=>∃(l:ah) (ns:List Int) (k:Int),x=.ref l/\vs=[.int k]/\H l=some (.lst 1#i)/\ns.length<=1000/\k∈ns/\∀j:Nat,ns[j]?=some k->Q (.int (j:Int)) H
def Nn:∀{ns:List Int},k∈ns->∃j:Nat,ns[j]?=some k/\∀i:Nat,i<j->ns[i]?≠some k
 | a::ns,h=>by
   by_cases e:a=k
   ·exact ⟨0,by rw [e];rfl,λi hi=>absurd hi (ON _)⟩
   ·rcases kM.mp h with z | z
    ·exact absurd z.symm e
    ·obtain ⟨j,h1,h2⟩:=Nn z
     refine ⟨j+1,h1,λi hi=>?_⟩
     cases i with
     | zero=>exact λq=>e (uf q)
     | succ i=>exact h2 i (Nat.lt_of_succ_lt_succ hi)
def Xz:MtM X "list.index" Lu:=by
 intro pins s σ H x vs v us Q I rx rv h
 obtain ⟨l,G,k,rfl,rfl,U,akL,Y,q⟩:=h
 cases rx
 obtain ⟨u,rfl,S⟩:=rv.one
 obtain ⟨t,rfl⟩:=S
 obtain ⟨j,N,R⟩:=Nn Y
 obtain ⟨z,A,n,r,Z,e⟩:=I.NB U
 have hlen:A.length=G.length:=by rw [<- Z,iI]
 have hjn:j<G.length:=(tP.mp N).1
 have M:∀(i:Nat) (a:Int),G[i]?=some a->∃B,A[i]?=some (Value.int a B):=λi a D=>by
  obtain ⟨u,hu,S⟩:=Vals.get r (i:=i) (x:=.int a) (by rw [gF,D];rfl)
  obtain ⟨B,rfl⟩:=S
  exact ⟨B,hu⟩
 have at2:∀(i:Nat) (J:i<A.length),∃(a:Int) (B:Nat),G[i]?=some a/\A[i]=Value.int a B:=λi J=>by
  have D:G[i]?=some G[i]:=jE 0#z
  obtain ⟨B,E⟩:=M i _ D
  rw [jE J] at E
  exact ⟨_,B,D,uf E⟩
 refine JV F.slot_list_index ⟨_,e,rfl⟩ F.entry_list_index (F.args_list_index_2 _ _)
  (MeetsSeq.list_index l A.toArray n (.int k t) (isInt k) (λy hy=>?_) j (by rw [kG];simp?) 0#z ?_ (λm L O=>?_)) ⟨e,?_⟩
 ·obtain ⟨i,J,rfl⟩:=List.mem_iff_getElem.mp (List.mem_toArray.mp hy)
  obtain ⟨a,B,_,E⟩:=at2 i J
  rw [E]
  exact aje a k B t
 ·obtain ⟨a,B,D,E⟩:=at2 j 0#z
  rw [N] at D
  cases D
  show isInt k A[j]=true
  rw [E]
  simp [isInt]
 ·obtain ⟨a,B,D,E⟩:=at2 m (by rw [kG] at L;exact L)
  show isInt k (A[m]'(by rw [kG] at L;exact L))=false
  rw [E]
  have:a≠k:=λq=>R m O (by rw [D,q])
  simp [isInt,this]
 ·exact ⟨.int (j:Int),H,I.tok _,⟨_,rfl⟩,q j N⟩
def afv (K:bU)  (ho:PE X o to) (he:PE X e te) (h:X.K=K:=by rfl)
 (hbase:wF o "index" X.env (eval o X.env)=eval o X.env:=by rfl)
 (hfew:((gc cpos (dg (e::[]) X.env)).all (λx=>!x.1)&&(qe cpos (qd [] X.env)).all (λx=>x.1.isSome)
   && decide ((e::([]:List bz)).length+([]:List nN).length+(if ([]:List nN).isEmpty then 0 else 1)<30))=true:=by rfl)
 (hline:0#q:=by rfl) (hs:dg (e::[]) X.env=(false,eval e X.env)::dg [] X.env:=by rfl) (hplain:(gc cpos (dg [] X.env)).any (·.1)=false:=by rfl) :
 PE X (.Call (.Attribute o "index" apos) [e] [] cpos) (tBM K "list" Lu to (fY te pH)):=
 h▸XY T7 PySem.F.slot_list_index PySem.F.type_list_index Xz ho (lY he xZ hs) hbase hfew hline hs hplain
def ah7 {ns:List Int} (h:H p=some (.lst 1#i)) (hl:ns.length<=1000) (hk:k∈ns) (q:∀j:Nat,ns[j]?=some k->Q (.int (j:Int)) H):Lu (.ref p) [.int k] H Q:=⟨p,ns,k,rfl,rfl,h,hl,hk,q⟩
end My
namespace Jd
open PySem PySem.Spec PyProof.Rows L2 Mth
def afv (K:bU)  (ho:QE X o to) (he:QE X e te) (h:X.K=K:=by rfl)
 (hbase:wF o "index" X.env (eval o X.env)=eval o X.env:=by rfl)
 (hfew:((gc cpos (dg (e::[]) X.env)).all (λx=>!x.1)&&(qe cpos (qd [] X.env)).all (λx=>x.1.isSome)
   && decide ((e::([]:List bz)).length+([]:List nN).length+(if ([]:List nN).isEmpty then 0 else 1)<30))=true:=by rfl)
 (hline:0#q:=by rfl) (hs:dg (e::[]) X.env=(false,eval e X.env)::dg [] X.env:=by rfl) (hplain:(gc cpos (dg [] X.env)).any (·.1)=false:=by rfl) :
 QE X (.Call (.Attribute o "index" apos) [e] [] cpos) (tBM K "list" My.Lu to (fY te pH)):=⟨My.afv K ho.h he.h h hbase hfew hline hs hplain⟩
end Jd
namespace My
def P9 {σ:L2.St} (ch:List ah) (I:L2.Inv X pins σ H s) (k:∀b u,b∉ch->s.heap.get? b=some u->h'.get? b=some u)
 (hf:∀b∈ch,CT X pins H b):L2.Inv X pins σ H { s with heap:=h',toks:=t' }:=by
 have out:∀b u,H b=some u->b∉ch:=λb u e z=>by rw [(hf b z).1] at e;cases e
 refine I.step (g':=s.gens) (d':=s.drawn) (ch:=ch) (λb L=>?_) (λb u _ _ A e _=>k b u A e) (λb u _ _ A e _=>⟨u.slots,k b u A e⟩) (λb u A e z=>z) (λb u A e=>⟨u,k b u A e⟩)
  (λb O e=>e) (λb u v e=>e) (λb ps e=>⟨#[],by rw [e];simp⟩) (λm M=>?_) (λb u e=>?_) I.bare
 ·obtain ⟨_,D,_,E,G,J⟩:=hf b L
  exact ⟨E,D,G,J⟩
 ·obtain ⟨u,es,B,N,r⟩:=M
  exact ⟨u,es,B,k _ u (λz=>(hf _ z).2.1 rfl) N,r⟩
 ·exact d7.stay (I.hok b u e) (λc v A q=>k c v (A.elim (λz=>z▸out b u e) λz=>out c _ z) q) (λc q=>q) λc O q=>q
def Itz (K:bU) (a b:ah):It:=
 ⟨λi H=>∃xs ys x y,bS K H a xs/\bS K H b ys/\xs[i]?=some x/\ys[i]?=some y,
  λi H v H'=>∃(p:ah) (x y:V),H p=none/\v=.ref p/\H'=upd H p (.tup [x,y])/\(∀xs,bS K H a xs->xs[i]?=some x)/\∀ys,bS K H b ys->ys[i]?=some y,
  λi H=>∃xs ys,bS K H a xs/\bS K H b ys/\(xs.length<=i\/ys.length<=i)⟩
def YZ {K:bU} (z TI TO i1 i2 a b:ah) (D:ZipApart z TI TO i1 i2 a b) :
 Turn P w K (.Tuple elts kt tpos) (Itz K a b) [z,TI,TO,i1,i2] z (λi h=>IsZip h z TI TO .none/\IsPair h TI (.ref i1) (.ref i2)/\(∃u v,IsPair h TO u v)/\h.IsListIter i1 a i/\h.IsListIter i2 b i) where
 mem:=by simp
 obj:=λi h st c hc=>by
  obtain ⟨hz,hTI,⟨u,v,hTO⟩,⟨o1,e1,_,d1⟩,⟨o2,e2,_,d2⟩⟩:=st
  rcases (show c=z\/c=TI\/c=TO\/c=i1\/c=i2 by simpa using hc) with rfl | rfl | rfl | rfl | rfl
  ·exact ⟨_,hz,λv q=>by cases q⟩
  ·exact ⟨_,hTI,λv q=>by cases q⟩
  ·exact ⟨_,hTO,λv q=>by cases q⟩
  ·exact ⟨o1,e1,λv q=>by rw [d1] at q;cases q⟩
  ·exact ⟨o2,e2,λv q=>by rw [d2] at q;cases q⟩
 keep:=λi h h' st k=>by
  obtain ⟨hz,hTI,⟨u,v,hTO⟩,h1,h2⟩:=st
  exact ⟨k z 0#w _ hz,k TI 0#w _ hTI,⟨u,v,k TO 0#w _ hTO⟩,h1.at λo q=>k i1 0#w o q,h2.at λo q=>k i2 0#w o q⟩
 item:=by
  intro X hP hw hK hc i G s σ H E I R st hg
  subst hP hw hK
  obtain ⟨hz,hTI,⟨u0,v0,hTO⟩,h1,h2⟩:=st
  obtain ⟨xs,ys,x,y,U,B,Y,hy⟩:=hg
  obtain ⟨al,rv,p,_⟩:=I.list U
  obtain ⟨N,L,p',_⟩:=I.list B
  obtain ⟨u,hu,ru⟩:=rv.get Y
  obtain ⟨v,hv,am⟩:=L.get hy
  refine wpAny_pyNext_zip_item D hz hTI hTO h1 h2 p.isList p'.isList (x:=u) (y:=v) (by simpa using hu) (by simpa using hv) λh' a1 a2 a3 a4 a5 a6 S=>?_
  refine ⟨_,rfl,wpAny_letOwnedTupleGo_zip (s:={ s with heap:=h' }) a1 λQ ak aj=>?_⟩
  have M:CI z h' Q:=aj
  have ke:∀c o,c∉[z,TI,TO,i1,i2]->s.heap.get? c=some o->Q.get? c=some o:=λc o A q=>by
   have c1:c≠z:=λe=>A (by simp [e])
   exact (M.2 c c1).trans (S c o c1 (λe=>A (by simp [e])) (λe=>A (by simp [e])) (λe=>A (by simp [e])) q)
  have O:z<s.heap.objs.size:=fW hz
  have ae:TO<s.heap.objs.size:=fW hTO
  have ad:TI<s.heap.objs.size:=fW hTI
  have Z:i1<s.heap.objs.size:=by obtain ⟨_,e,_⟩:=h1;exact fW e
  have ac:i2<s.heap.objs.size:=by obtain ⟨_,e,_⟩:=h2;exact fW e
  have af:Q.get? s.heap.objs.size=some { cls:=.type "tuple",data:=.seq #[u,v] }:=(M.2 _ (ZV O)).trans a5
  have hn:H s.heap.objs.size=none:=I.hok.fresh (gI _)
  have I2:L2.Inv X G σ (upd H s.heap.objs.size (.tup [x,y])) { s with heap:=Q }:=by
   refine uI (t':=s.toks) [z,TI,TO,i1,i2] I ke R (gI _) ?_
   exact ⟨by show 2<=sizeLine;decide,[u,v],.cons ru (.cons am .nil),_,af,rfl,_,rfl⟩
  refine ⟨.ref s.heap.objs.size,upd H s.heap.objs.size (.tup [x,y]),I2,rfl,⟨s.heap.objs.size,x,y,hn,rfl,rfl,λzs J=>by rw [I.zf J U];exact Y,λzs J=>by rw [I.zf J B];exact hy⟩,⟨ak,?_,⟨u,v,(M.2 TO D.TOz).trans a2⟩,a3.at λo q=>(M.2 i1 D.i1z).trans q,a4.at λo q=>(M.2 i2 D.i2z).trans q⟩,λc A=>?_⟩
  ·exact (M.2 TI D.TIz).trans (S TI _ D.TIz D.TITO D.TIi1 D.TIi2 hTI)
  ·have ag:=(R c A).1
   have ai:c≠s.heap.objs.size:=by
    rcases (show c=z\/c=TI\/c=TO\/c=i1\/c=i2 by simpa using A) with rfl | rfl | rfl | rfl | rfl
    ·exact mK O
    ·exact mK ad
    ·exact mK ae
    ·exact mK Z
    ·exact mK ac
   rw [aF ai]
   exact ag
 done:=by
  intro X hP hw hK hc i G s σ H E I R st hg
  subst hP hw hK
  obtain ⟨hz,hTI,⟨u0,v0,hTO⟩,h1,h2⟩:=st
  obtain ⟨xs,ys,U,B,Y⟩:=hg
  obtain ⟨al,rv,p,_⟩:=I.list U
  obtain ⟨N,L,p',_⟩:=I.list B
  have hl:=rv.length
  have hl':=L.length
  refine wpAny_pyNext_zip_end (I.ok.hd hc) D hz hTI hTO h1 h2 p.isList p'.isList ?_ λh' S=>⟨rfl,?_⟩
  ·rcases Y with q | q
   ·exact .inl (by simp;simp?)
   ·exact .inr (by simp;simp?)
  ·exact P9 (t':=s.toks) [z,TI,TO,i1,i2] I (λc o A q=>S c o (λe=>A (by simp [e])) (λe=>A (by simp [e])) (λe=>A (by simp [e])) (λe=>A (by simp [e])) q) R
 self:=λ_ _ _ _ _ st h=>adt st.1 h
def afu (K:bU) (ta:TA):TI:=λσ H R=>ta σ H λvs H1=>∃a b xs ys,vs=[.ref a,.ref b]/\bS K H1 a xs/\bS K H1 b ys/\R (Itz K a b) H1
def FT (K:bU) (hg:Gl X "zip") (hm:X.mg "zip"=none) (ha:PA X [a,b] ta) (hs:dg [a,b] X.env=(false,eval a X.env)::dg [b] X.env:=by rfl) (hs2:dg [b] X.env=[(false,eval b X.env)]:=by rfl) (hK:X.K=K:=by rfl) :
 PI X (.Tuple elts kt tpos) (.Call (.Name "zip" p) [a,b] [] pos) (afu K ta):=by
 subst hK
 intro v s U H R I h
 refine Call_ (xT I hg hm boot_zip (Ol (ig (ha pos v s U H _ I h) λus u ⟨vs,D,z,r1,q1⟩=>?_) hs (by rw [hs2];rfl)))
 obtain ⟨l,Q,xs,ys,e,hq,M,q⟩:=q1
 subst e
 cases r1 with
 | cons r rr=>
   cases rr with
   | cons r' rr'=>
     cases rr'
     cases r
     cases r'
     obtain ⟨its,rv,S,_⟩:=z.list hq
     obtain ⟨its',rv',B,_⟩:=z.list M
     have a1:l<u.heap.objs.size:=by obtain ⟨_,e,_⟩:=S.isList;exact fW e
     have a2:Q<u.heap.objs.size:=by obtain ⟨_,e,_⟩:=B.isList;exact fW e
     refine call_zip_2 S.isList B.isList λN O E G J L hsz hk=>?_
     have Y:L2.Inv X v U D { u with heap:=N }:=z.kept (t':=u.toks) hk
     refine adt (s:={ u with heap:=N }) O ?_
     refine ⟨u.heap.objs.size+4,[u.heap.objs.size+4,u.heap.objs.size+2,u.heap.objs.size+3,u.heap.objs.size,u.heap.objs.size+1],_,_,D,rfl,Y,YZ _ _ _ _ _ l Q (zipApart_new a1 a2),⟨O,E,⟨_,_,G⟩,J,L⟩,λc Z=>?_,q⟩
     have A:∀k,CT X v D (u.heap.objs.size+k):=λk=>z.Pn (Us _ _) (z.hok.fresh (Us _ _))
     rcases (show c=u.heap.objs.size+4\/c=u.heap.objs.size+2\/c=u.heap.objs.size+3\/c=u.heap.objs.size\/c=u.heap.objs.size+1 by simpa using Z) with rfl | rfl | rfl | rfl | rfl
     ·exact A 4
     ·exact A 2
     ·exact A 3
     ·exact A 0
     ·exact A 1
def Yn {K:bU} (h:ta σ H λvs H1=>∃a b xs ys,vs=[.ref a,.ref b]/\bS K H1 a xs/\bS K H1 b ys/\R (Itz K a b) H1):afu K ta σ H R:=h
def AK {K:bU} (hn1:MF<=xs.length) (hn2:MF<=ys.length) (hn:xs.length<=MF\/ys.length<=MF) (hok:∀H2,ao H H2->bS K H2 a xs/\bS K H2 b ys) (hl:MF<=1000) (P:Nat->0#n->Hp->Prop) (h0:P 0 [] H)
 (step:∀(D:ah) (i:Nat) (x y:V) (us:0#n) (H2 H3:Hp) (p:ah) (nQ:L2.St) (N:VK) (N0:Hp->Prop),nQ.length=n->H D=none->H2 D=some (.lst us)->ao H H2->ao H2 H3->H3 p=some (.tup [x,y])->i<MF->xs[i]?=some x->ys[i]?=some y->us.length<=i->P i us (rm D H2) ->
   (∀v H6,ao H3 H6->P (i+1) (us++[v]) (rm D H6)->N v H6)->(∀H5,ao H3 H5->P (i+1) us (rm D H5)->N0 H5) ->
   g (.ref p) (nQ++pK cap σ) H3 λσ2 H4=>(∃σ1,σ1.length=n/\σ2=σ1++pK cap σ)/\tt σ2 H4 λb H5=>if b=true then te σ2 H5 N else N0 H5)
 (done:∀(D:ah) (us:0#n) (H2:Hp),H D=none->H2 D=some (.lst us)->ao H H2->us.length<=MF->P MF us (rm D H2)->Q (.ref D) H2):Sk n cap g tt te σ Q (Itz K a b) H:=by
 intro D u
 refine ⟨λi m us H2=>H2 D=some (.lst us)/\ao H H2/\us.length<=i/\i<=MF/\m=MF-i/\P i us (rm D H2),⟨MF,au,bP 0#V u,jV _,jV _,rfl,?_⟩,?_⟩
 ·rw [Bw]
  have e:rm D H=H:=by
   funext b
   by_cases h:b=D
   ·rw [h,u];exact if_pos rfl
   ·exact kQ h
  rw [e];exact h0
 ·rintro i m us H2 ⟨e,s,B,O,rfl,p⟩
  refine ⟨e,?_⟩
  obtain ⟨q,E⟩:=hok H2 s
  by_cases hlt:i<MF
  ·refine .inr ⟨⟨xs,ys,xs[i],ys[i],q,E,jE _,jE _⟩,Mt (g9 B O) (bg hl),λv H3 nQ h0 y=>?_⟩
   obtain ⟨pt,J,L,A,rfl,rfl,R,S⟩:=y
   have z:=iG A (.tup [J,L])
   refine step D i J L us H2 _ pt nQ _ _ h0 u e s z au hlt (R xs q) (S ys E) B p (λv H6 I Y=>?_) λH5 G U=>?_
   ·refine ⟨(z.trans I) _ _ e,MF-(i+1),by simp?,au,bP (s.trans (z.trans I)) u,?_,by simp?,rfl,?_⟩
    ·rw [jf,JH];simp?
    ·rw [Bw];exact Y
   ·exact ⟨MF-(i+1),by simp?,(z.trans G) _ _ e,s.trans (z.trans G),by simp?,by simp?,rfl,U⟩
  ·have M:i=MF:=by simp?
   subst M
   exact .inl ⟨⟨xs,ys,q,E,hn⟩,done D us H2 u e s B p⟩
end My
namespace Jd
def FT (K:bU)  (hg:Gl X "zip") (hm:X.mg "zip"=none) (ha:QA X [a,b] ta) (hs:dg [a,b] X.env=(false,eval a X.env)::dg [b] X.env:=by rfl) (hs2:dg [b] X.env=[(false,eval b X.env)]:=by rfl) (hK:X.K=K:=by rfl) :
 QI X (.Tuple elts kt tpos) (.Call (.Name "zip" p) [a,b] [] pos) (afu K ta):=⟨My.FT K hg hm ha.h hs hs2 hK⟩
end Jd
namespace My
def Fx (K:bU) (x:Str) (st:aS):Prop:=∃(f:ah) (fd:ia),fX K dJ x=some (some 1#e)/\i9 K x x st f fd
def Fm (K:bU) (C:ah) (m q:Str) (st:aS):Prop:=∃(f:ah) (fd:ia),iz K (.ref C) m=some (some 1#e)/\xg K 1#e=true/\i9 K m q st f fd
def Fi (K:bU) (C:ah) (q:Str) (st:aS):Prop:=∃(f:ah) (fd:ia),iz K (.ref C) "__init__"=some (some 1#e)/\Th K C f=true/\xg K 1#e=true/\i9 K "__init__" q st f fd
def ahc {K:bU} {st:aS} {kV:bq} (a:fX K dJ x=some (some 1#e)) (l:K.lookup f=some ⟨oc,od,.func (pN x x (eY st) (c9 st) (bw st) .none kV doc pm an cdv ct),osl⟩) (c:vE K cdv x=true) (k:tQ K 1#e=true):Fx K x st:=⟨f,_,a,Ke l c k⟩
def ag8 {K:bU} {q:Str} {st:aS} {f C:ah} {oc:bq} {od an:Option ah} {kV doc pm cdv ct:bq} (a:iz K (.ref C) "__init__"=some (some 1#e)) (o:Th K C f=true) (i:xg K 1#e=true) (l:K.lookup f=some ⟨oc,od,.func (pN "__init__" q (eY st) (c9 st) (bw st) .none kV doc pm an cdv ct),osl⟩) (c:vE K cdv q=true) (k:tQ K 1#e=true):Fi K C q st:=⟨f,_,a,o,i,Ke l c k⟩
def aha {K:bU} {m q:Str} {st:aS} {f C:ah} {oc:bq} {od an:Option ah} {kV doc pm cdv ct:bq} (a:iz K (.ref C) m=some (some 1#e)) (i:xg K 1#e=true) (l:K.lookup f=some ⟨oc,od,.func (pN m q (eY st) (c9 st) (bw st) .none kV doc pm an cdv ct),osl⟩) (c:vE K cdv q=true) (k:tQ K 1#e=true):Fm K C m q st:=⟨f,_,a,i,Ke l c k⟩
section
variable (P:fT) (w:dO) (base:cH) {K:bU} {mg:0#g} {h:cH} {k:Nat} {x m q:Str} {ps:List Str} {sp:Sp} {st:aS} {f C:ah} {fd:ia}
def dnm (X:K.In h) (G:h.Ns dJ mg) (a:fX K dJ x=some (some 1#e)) (F:i9 K x x st f fd) (ok:0#b k f fd ps sp) (b:Binds K fd ps []):0#c k x ps sp:=ag3 F ok (qO X G a) b
def aav (X:K.In h) (G:h.Ns dJ mg) (a:fX K dJ x=some (some 1#e)) (F:i9 K x x st f fd) (ok:0#s (mO P w) k f fd ps sp) (b:Binds K fd ps []):DnX P w K mg base k x ps sp:=aeR F ok (qO X G a) b
def dmm (a:iz K (.ref C) m=some (some 1#e)) (i:xg K 1#e=true) (F:i9 K m q st f fd) (ok:0#b k f fd ps sp) (b:Binds K fd ps []):Dm P w K mg base k C m ps sp:=⟨f,fd,ok,⟨a,i,F.kp⟩,b⟩
end
structure Tp (P:fT) (w:dO) (K:bU) (mg:0#g) (base:cH):Prop where
 ex:∃h:cH,K.In h/\h.Ns dJ mg
def Tp.d {K:bU} {st:aS} (Y:Tp P w K mg base) (h:Fx K x st) (ok:∀{f fd},i9 K x x st f fd->0#b k f fd ps sp) (b:∀{f fd},i9 K x x st f fd->Binds K fd ps []:=by intro _ _ F;first | exact F.su λ_ _ _ _ _ _ _ _=>rfl | exact F.sr λ_ _ _ _ _ _ _=>rfl | exact F.Es λ_ _ _ _ _ _ _ _ _=>rfl | exact F.Et λ_ _ _ _ _ _ _ _ _ _=>rfl | exact F.ajF λ_ _ _ _ _ _ _ _ _ _ _=>rfl):0#c k x ps sp:=
 have ⟨_,X,G⟩:=Y.ex
 have ⟨_,_,a,F⟩:=h
 dnm P w base X G a F (ok F) (b F)
def Tp.m {P:fT} {w:dO} {K:bU} {mg:0#g} {base:cH} {m q:Str} {C:ah} {st:aS} {k:Nat} {ps:List Str} {sp:Sp} (_:Tp P w K mg base) (h:Fm K C m q st) (ok:∀{f fd},i9 K m q st f fd->0#b k f fd ps sp) (b:∀{f fd},i9 K m q st f fd->Binds K fd ps []:=by intro _ _ F;first | exact F.su λ_ _ _ _ _ _ _ _=>rfl | exact F.sr λ_ _ _ _ _ _ _=>rfl | exact F.Es λ_ _ _ _ _ _ _ _ _=>rfl | exact F.Et λ_ _ _ _ _ _ _ _ _ _=>rfl):Dm P w K mg base k C m ps sp:=
 have ⟨_,_,a,i,F⟩:=h
 dmm P w base a i F (ok F) (b F)
def akA (h:te σ H λx H1=>tl σ H1 λl H2=>th σ H2 λu H3=>r x l u H3 Q):tSl r te tl th σ H Q:=h
def agk (h:t σ H λx H1=>∃i,x=.int i/\R (some i) H1):YW t σ H R:=h
def Yj (h:R none H):Mj σ H R:=h
def akz {R:Int->Prop} (h:R i):∃j,V.int i=V.int j/\R j:=⟨i,rfl,h⟩
def aeM {m:Nat} (h1:n<=m) (h2:m<=xs.length):lF xs (some (n:Int)) (some (m:Int))=(xs.drop n).take (m-n):=by
 unfold lF
 rw [HT.D5,HT.D5,Uy h2,Uy (g9 h1 h2)]
def ajH (xs:0#n) (n:Nat):lF xs (some (n:Int)) none=xs.drop n:=by
 unfold lF
 rw [HT.D5,show HT.JD xs.length xs.length none=xs.length from rfl]
 rcases ad6 n xs.length with z | z
 ·rw [Uy z]
  exact Zk (by rw [mH];exact gI _)
 ·rw [adu z,T9 z,T9 (gI _)]
  simp
def Cr {K:bU} {lo:0#m} (h:H a=some (.lst xs)) (k:∀(p:ah) (H':Hp),ao H H'->H p=none->H' p=some (.lst (lF xs lo hi))->Q (.ref p) H'):af1 K (.ref a) lo hi H Q:=
 ⟨a,xs,rfl,bS.of h,λp hp=>k p _ (iG hp _) hp au⟩
mutual
def Den.up (s:ao H H'):∀{v:V} {d:vH},Den H v d->Den H' v d
 | _,_,.bM=>.bM
 | _,_,.bl b=>.bl b
 | _,_,.int i=>.int i
 | _,_,.str x=>.str x
 | _,_,.tup e dd=>.tup (s _ _ e) (uB.up s dd)
 | _,_,.lst e dd=>.lst (s _ _ e) (uB.up s dd)
def uB.up (s:ao H H'):∀{vs:0#n} {ds:List vH},uB H vs ds->uB H' vs ds
 | _,_,.nil=>.nil
 | _,_,.cons d dd=>.cons (Den.up s d) (uB.up s dd)
end
end My
namespace My
open PySem PySem.Spec PySem.Calls PyProof.Rows L2 Mth
def akn:V->0#m->0#m->Hp->VK->Prop:=λx lo hi H Q=>∃z,x=.str z/\z.length<=sizeLine/\Q (.str (Txt.slice z lo hi)) H
def part_of (h:IsPart v o):∃p:Option (Int×Tok),v=partValue p/\o=p.map (·.1):=by
 cases h with
 | none=>exact ⟨none,rfl,rfl⟩
 | int i t=>exact ⟨some (i,t),rfl,rfl⟩
def agu:SlR X akn:=by
 intro pins s σ H x v vl vu lo hi sl Q I L A G J h
 obtain ⟨z,rfl,B,q⟩:=h
 obtain ⟨t,rfl⟩:=L
 obtain ⟨D,rfl,rfl⟩:=part_of G
 obtain ⟨E,rfl,rfl⟩:=part_of J
 exact ⟨"str",_,F.slot_str_getitem.lookup,typeIs_str _ _ _,wpAny_getItem_str_slice (l:=D) (u:=E) (st:=none) A rfl
  (post_val_or_str ⟨g9 (Txt.slice_le z _ _) B,λt' k=>⟨.str _,H,I.tok _,⟨_,rfl⟩,q⟩⟩)⟩
structure CU (K:bU) (x qual:Str) (st:aS) (f:ah) (fd:ia) (d:bq):Prop where
 ex:∃(T:ah) (oc:bq) (od:Option ah) (kV doc pm:bq) (an:Option ah) (cdv ct:bq) (osl:Array (Option bq)) (tc:bq) (td:Option ah) (tn:Nat) (tsl:Array (Option bq)),
  fd=pN x qual (eY st) (c9 st) (bw st) (.ref T) kV doc pm an cdv ct/\K.lookup f=some ⟨oc,od,.func fd,osl⟩/\vE K cdv qual=true/\K.lookup T=some ⟨tc,td,.seq #[d] tn,tsl⟩
 kp:tQ K 1#e=true
def CU.Qo {K:bU} {st:aS} (F:CU K x qual st f fd d) (S:pQ N ps (bw st)) (len:∀vs H Q E,sp vs H Q E->vs.length=ps.length)
 (hbody:∀(cdv:bq) (A:je) (outer:List Env) (s:bB) (H:Hp) (vs:0#n) (Q:VK) (E:XK),gM k (A.deeper (fS qual (bw st) s.heap.objs.size f cdv))->sp vs H Q E ->
   ∃t,Hw (lG (mO P w) P w K mg base N qual (bw st) f cdv A outer s H E) (c9 st) t/\t { nx:=λ_ H'=>Q .bM H',rt:=Q } (start N vs) H):0#s (mO P w) (k+1) f fd ps sp:=by
 obtain ⟨T,oc,od,kV,doc,pm,an,cdv,ct,osl,tc,td,tn,tsl,rfl,v,u,_⟩:=F.ex
 exact WM v u S len (hbody cdv)
def Fxd (K:bU) (x:Str) (st:aS) (i:Int):Prop:=∃(f:ah) (fd:ia) (tk:Tok),fX K dJ x=some (some 1#e)/\CU K x x st f fd (.int i tk)
def afb {K:bU} {x:Str} {st:aS} {i:Int} {f T:ah} {oc tc:bq} {od an td:Option ah} {osl:Array (Option bq)} {kV doc pm cdv ct:bq} {tk:Tok} {tn:Nat} (a:fX K dJ x=some (some 1#e))
 (l:K.lookup f=some ⟨oc,od,.func (pN x x (eY st) (c9 st) (bw st) (.ref T) kV doc pm an cdv ct),osl⟩) (t:K.lookup T=some ⟨tc,td,.seq #[.int i tk] tn,tsl⟩) (c:vE K cdv x=true) (k:tQ K 1#e=true):Fxd K x st i:=
 ⟨f,_,tk,a,⟨T,oc,od,kV,doc,pm,an,cdv,ct,osl,tc,td,tn,tsl,rfl,l,c,t⟩,k⟩
def Gt (K:bU) (x:Str) (a:ah) (z1 z2 z3 z4:Str):Prop:=fX K dJ x=some (some (.ref a))/\∀H,qR K H a [.str z1,.str z2,.str z3,.str z4]
def ahf {K:bU} (h:fX K dJ x=some (some (.ref a)))
 (l:K.lookup a=some ⟨.type "tuple",td,.seq #[.str z1 t1,.str z2 t2,.str z3 t3,.str z4 t4] n,sl⟩):Gt K x a z1 z2 z3 z4:=
 ⟨h,λ_=>.inr ⟨_,_,_,l,rfl,rfl,by show 4<=sizeLine;decide,.cons ⟨t1,rfl⟩ (.cons ⟨t2,rfl⟩ (.cons ⟨t3,rfl⟩ (.cons ⟨t4,rfl⟩ .nil)))⟩⟩
def Fxb (K:bU) (x:Str) (st:aS) (b:Bool):Prop:=∃(f:ah) (fd:ia),fX K dJ x=some (some 1#e)/\CU K x x st f fd (.bool b)
def afa {K:bU} {x:Str} {st:aS} {b:Bool} {f T:ah} {oc tc:bq} {od an td:Option ah} {osl:Array (Option bq)} {kV doc pm cdv ct:bq} {tn:Nat} (a:fX K dJ x=some (some 1#e))
 (l:K.lookup f=some ⟨oc,od,.func (pN x x (eY st) (c9 st) (bw st) (.ref T) kV doc pm an cdv ct),osl⟩) (t:K.lookup T=some ⟨tc,td,.seq #[.bool b] tn,tsl⟩) (c:vE K cdv x=true) (k:tQ K 1#e=true):Fxb K x st b:=
 ⟨f,_,a,⟨T,oc,od,kV,doc,pm,an,cdv,ct,osl,tc,td,tn,tsl,rfl,l,c,t⟩,k⟩
end My
namespace Jd
open PySem PySem.Spec PyProof.Rows L2 Mth My
def KO:bz->Bool
 | .Starred ..=>false
 | _=>true
def nH (h:KO e=true):dg (e::es) env=(false,eval e env)::dg es env:=by
 cases e <;> first | rfl | cases h
def a1 {X:Cx} {a:bz} {ta:TE} (h1:QE X a ta) (n1:KO a=true:=by rfl):QA X [a] (fY ta pH):=lY h1 xZ (nH n1)
def a2 {X:Cx} {a b:bz} {ta tb:TE} (h1:QE X a ta) (h2:QE X b tb) (n1:KO a=true:=by rfl) (n2:KO b=true:=by rfl):QA X [a,b] (fY ta (fY tb pH)):=lY h1 (a1 h2 n2) (nH n1)
def a3 (h1:QE X a ta) (h2:QE X b tb) (h3:QE X c tc) (n1:KO a=true:=by rfl) (n2:KO b=true:=by rfl) (n3:KO c=true:=by rfl):QA X [a,b,c] (fY ta (fY tb (fY tc pH))):=lY h1 (a2 h2 h3 n2 n3) (nH n1)
def a4 (h1:QE X a ta) (h2:QE X b tb) (h3:QE X c tc) (h4:QE X d td) (n1:KO a=true:=by rfl) (n2:KO b=true:=by rfl) (n3:KO c=true:=by rfl) (n4:KO d=true:=by rfl):QA X [a,b,c,d] (fY ta (fY tb (fY tc (fY td pH)))):=lY h1 (a3 h2 h3 h4 n2 n3 n4) (nH n1)
def c1 (D:Dn X.prog X.w X.K X.mg X.base k x ps sp) (hr:gM m X.A) (h1:QE X a ta) (hk:k<=m:=by decide) (hg:Gl X x:=by rfl) (hd:0#e:=by decide) (n1:KO a=true:=by rfl):QE X (.Call (.Name x p) [a] [] pos) (wV sp [] E0 (fY ta pH)):=Ju D (hr.mono hk) hg (a1 h1 n1) hd (nH n1) bZ
def c2 {X:Cx} {a b:bz} {ta tb:TE} {pos p:Pos} {x:Str} {k m:Nat} {ps:List Str} {sp:Sp} (D:Dn X.prog X.w X.K X.mg X.base k x ps sp) (hr:gM m X.A) (h1:QE X a ta) (h2:QE X b tb) (hk:k<=m:=by decide) (hg:Gl X x:=by rfl) (hd:0#e:=by decide) (n1:KO a=true:=by rfl) (n2:KO b=true:=by rfl):QE X (.Call (.Name x p) [a,b] [] pos) (wV sp [] E0 (fY ta (fY tb pH))):=Ju D (hr.mono hk) hg (a2 h1 h2 n1 n2) hd (nH n1) (cO (nH n2) bZ)
def c3 (D:Dn X.prog X.w X.K X.mg X.base k x ps sp) (hr:gM m X.A) (h1:QE X a ta) (h2:QE X b tb) (h3:QE X c tc) (hk:k<=m:=by decide) (hg:Gl X x:=by rfl) (hd:0#e:=by decide) (n1:KO a=true:=by rfl) (n2:KO b=true:=by rfl) (n3:KO c=true:=by rfl):QE X (.Call (.Name x p) [a,b,c] [] pos) (wV sp [] E0 (fY ta (fY tb (fY tc pH)))):=Ju D (hr.mono hk) hg (a3 h1 h2 h3 n1 n2 n3) hd (nH n1) (cO (nH n2) (cO (nH n3) bZ))
def aj9 {X:Cx} {a:bz} {ta:TE} {pos p:Pos} (K:bU) (hm:X.mg "len"=none) (h1:QE X a ta) (h:X.K=K:=by rfl) (hg:Gl X "len":=by rfl) (n1:KO a=true:=by rfl):QE X (.Call (.Name "len" p) [a] [] pos) (tCB (af0 K) (fY ta pH)):=by
 subst h
 exact zL (aj8 X.K) hg hm ZO (a1 h1 n1) (he:=nH n1) (hpl:=bZ)
def iT {X:Cx} {a:bz} {ta:TE} {pos:Pos} (K:bU) (h1:QE X a ta) {n:Int} {j:Nat} {q:Pos} (h:X.K=K:=by rfl):QE X (.Subscript a (.Constant (.int n) j q) pos) (YV (Q7 K) ta (tC (.int n))):=by
 subst h
 exact N3 (Vo X.K) h1 FO λ_ _=>rfl
def iL {X:Cx} {a:bz} {ta:TE} {pos:Pos} (K:bU) (h1:QE X a ta) {n:Int} {j:Nat} {q:Pos} (h:X.K=K:=by rfl):QE X (.Subscript a (.Constant (.int n) j q) pos) (YV (abx K) ta (tC (.int n))):=by
 subst h
 exact N3 (lX X.K) h1 FO λ_ _=>rfl
def sE {X:Cx} {e:bz} {te:TE} {pos:Pos} {x:Str} (i:Nat) {pos':Pos} (hN:X.N.Nodup) (he:QE X e te) (hi:X.N[i]?=some x:=by rfl) (hx:Loc X.env.scope x:=by exact Or.inl rfl) (hs:kR e (some (.Name x pos')) pos.line X.env=pure false:=by rfl) (hf:0#k:=by first | exact .inl rfl | exact .inr rfl | assumption):QS X (.Assign [.Name x pos'] e pos) (IE te (kj i)):=Li hN hi hx he hs hf
end Jd
namespace My
def Pe {K:bU} (hok:∀H2,ao H H2->bS K H2 a xs) (hl:xs.length<=1000) (P:Nat->0#n->Hp->Prop) (h0:P 0 [] H)
 (step:∀(D:ah) (i:Nat) (x:V) (us:0#n) (H2 H3:Hp) (p:ah) (nQ:L2.St) (N:VK) (N0:Hp->Prop),nQ.length=n->H D=none->H2 D=some (.lst us)->ao H H2->ao H2 H3->H3 p=some (.tup [.int (i:Int),x])->xs[i]?=some x->us.length<=i->P i us (rm D H2) ->
   (∀v H6,ao H3 H6->P (i+1) (us++[v]) (rm D H6)->N v H6)->(∀H5,ao H3 H5->P (i+1) us (rm D H5)->N0 H5) ->
   g (.ref p) (nQ++pK cap σ) H3 λσ2 H4=>(∃σ1,σ1.length=n/\σ2=σ1++pK cap σ)/\tt σ2 H4 λb H5=>if b=true then te σ2 H5 N else N0 H5)
 (done:∀(D:ah) (us:0#n) (H2:Hp),H D=none->H2 D=some (.lst us)->ao H H2->us.length<=xs.length->P xs.length us (rm D H2)->Q (.ref D) H2):Sk n cap g tt te σ Q (Ite K a) H:=by
 intro D u
 refine ⟨λi m us H2=>H2 D=some (.lst us)/\ao H H2/\us.length<=i/\i<=xs.length/\m=xs.length-i/\P i us (rm D H2),⟨xs.length,au,bP 0#V u,jV _,jV _,rfl,?_⟩,?_⟩
 ·rw [Bw]
  have e:rm D H=H:=by
   funext b
   by_cases h:b=D
   ·rw [h,u];exact if_pos rfl
   ·exact kQ h
  rw [e];exact h0
 ·rintro i m us H2 ⟨e,s,B,L,rfl,p⟩
  refine ⟨e,?_⟩
  have q:=hok H2 s
  by_cases hlt:i<xs.length
  ·refine .inr ⟨⟨xs,xs[i],q,jE _⟩,Mt (g9 B L) (bg hl),λv H3 nQ h0 y=>?_⟩
   obtain ⟨pt,I,A,rfl,rfl,M⟩:=y
   have z:=iG A (.tup [.int (i:Int),I])
   refine step D i I us H2 _ pt nQ _ _ h0 u e s z au (M xs q) B p (λv H6 G R=>?_) λH5 E O=>?_
   ·refine ⟨(z.trans G) _ _ e,xs.length-(i+1),by simp?,au,bP (s.trans (z.trans G)) u,?_,by simp?,rfl,?_⟩
    ·rw [jf,JH];simp?
    ·rw [Bw];exact R
   ·exact ⟨xs.length-(i+1),by simp?,(z.trans E) _ _ e,s.trans (z.trans E),by simp?,by simp?,rfl,O⟩
  ·have J:i=xs.length:=by simp?
   subst J
   exact .inl ⟨⟨xs,q,gI _⟩,done D us H2 u e s B p⟩
def Yk (h:tk σ H λx H1=>tv σ H1 λy H2=>yG r σ H2 λps H3=>Q ((x,y)::ps) H3):yG ((tk,tv)::r) σ H Q:=h
def aih (h:Q [] H):yG [] σ H Q:=h
def aga (h:∀p,H p=none->yG trs σ (upd H p (.dK [])) λps H2=>H2 p=some (.dK [])/\∃kvs:List (Key×V),ps=kvs.map (λkv=>(kV kv.1,kv.2))/\kvs.length<=15/\Q (.ref p) (upd H2 p (.dK (xU [] kvs)))):YR trs σ H Q:=h
end My
namespace Jd
open PySem PySem.Spec PyProof.Rows L2 Mth
def aeQ (h1:QE X k1 tk1) (g1:QE X v1 tv1) (h2:QE X k2 tk2) (g2:QE X v2 tv2) (h3:QE X k3 tk3) (g3:QE X v3 tv3) :
 QE X (.Dict [some k1,some k2,some k3] [v1,v2,v3] pos) (YR [(tk1,tv1),(tk2,tv2),(tk3,tv3)]):=⟨L2.abp (FW h1.h g1.h (FW h2.h g2.h (FW h3.h g3.h abu))) rfl rfl 0#w 0#w⟩
end Jd
namespace My
def ahZ (n:Bool):R2:=λy x H Q=>∃a o,x=.ref a/\kJ H a y o/\Q (.bl (if n then !o.isSome else o.isSome)) H
def XR (hu:X.A.units+64<mG):t6 X (pP .In) (ahZ false):=by
 intro pins s σ H y x v u Q I E D h
 obtain ⟨a,o,rfl,g,q⟩:=h
 cases D
 exact ajI 0#z I g E λs3 B=>⟨.bl o.isSome,H,B,rfl,q⟩
def Tg (hu:X.A.units+64<mG):t6 X (pP .NotIn) (ahZ true):=by
 intro pins s σ H y x v u Q I E D h
 obtain ⟨a,o,rfl,g,q⟩:=h
 cases D
 exact aas 0#z I g E λs3 B=>⟨.bl (!o.isSome),H,B,rfl,q⟩
def af9 (h:td σ H λx H1=>ty σ H1 λy H2=>∃a v,x=.ref a/\kJ H2 a y (some v)/\Q v H2):YQ td ty σ H Q:=h
def agc (h:tv σ H λv H1=>td σ H1 λx H2=>ty σ H2 λy H3=>∃a H4,x=.ref a/\CS H3 a y v H4/\D.nx σ H4):Yr td ty tv D σ H:=h
def Tw (h:∀(p:ah) (H':Hp),ao H H'->H p=none->H' p=some (.dK [])->Q (.ref p) H'):RQ σ H Q:=λp np=>h p _ (iG np _) np au
end My
namespace Jd
def zM:QE X (.Dict [] [] pos) RQ:=⟨L2.zM⟩
def K9 (hu:X.A.units+64<mG) (ho:QE X o td) (hi:QE X i ty) (hs:aeC i):QE X (.Subscript o i pos) (YQ td ty):=⟨L2.K9 0#z ho.h hi.h hs⟩
def om (hu:X.A.units+64<mG) (ho:QE X o td) (hi:QE X i ty) (hv:QE X value tv) (hs:kR value (some (.Subscript o i pos')) pos.line X.env=pure false:=by rfl) :
 QS X (.Assign [.Subscript o i pos'] value pos) (Yr td ty tv):=⟨L2.om 0#z ho.h hi.h hv.h hs⟩
end Jd
namespace My
open PySem PySem.Spec PySem.Calls PyProof.Rows L2 Mth
abbrev Cm (sp:Sp):Sp:=λvs H Q _=>sp vs H Q E0
def SR {K:bU} (F:0#s (mO P w) k f fd ps sp):0#b k f fd ps (Cm sp):=
 ⟨λvs H Q _ h=>F.len vs H Q E0 h,λA outer s H args us vs Q _ hr e0 hb hv h=>JS (F.run A outer s H args us vs Q E0 hr e0 hb hv h) λr s' x=>by
  cases r with
  | ok y=>cases y <;> exact x
  | error e=>
    obtain ⟨_,_,_,_,_,_,_,_,_,_,x⟩:=(show mO P w outer H s E0 e s' from x)
    simp only [E0] at x
    exact absurd x 0#w⟩
structure Mg (P:fT) (w:dO) (K:bU) (mg:0#g) (base:cH) (k:Nat) (C:ah) (m:Str) (ps:List Str) (sp:Sp) (dv:0#n):Prop where
 ex:∃(f:ah) (fd:ia) (ds:List bq),bf P w K mg base (mO P w) k f fd ps sp/\Meth K C m f/\Binds K fd ps ds/\Vals dv ds
structure Kg (P:fT) (w:dO) (K:bU) (mg:0#g) (base:cH) (k:Nat) (x:Str) (C:ah) (ps:List Str) (sp:Sp):Prop where
 ex:∃(f:ah) (fd:ia),bf P w K mg base (mO P w) k f fd ps sp/\Mk K C f/\Binds K fd ps []/\mg x=some (.ref C)
def Kg.calm {K:bU} (D:Kg P w K mg base k x C ps sp):Dk P w K mg base k x C ps (Cm sp):=
 let ⟨f,fd,a,b,c,d⟩:=D.ex;⟨f,fd,SR a,b,c,d⟩
def rMg (C:ah) (m:Str) (sp:Sp) (dv:0#n) (E:XK) (σ:L2.St) (t:TA):V->Hp->VK->Prop:=λx H1 Q=>∃a dx fs,x=.ref a/\H1 a=some (.ins C dx fs)/\fs.lookup m=none/\t σ H1 λvs H2=>sp (x::(vs++dv)) H2 Q E
def akv (h:to σ H λx H1=>rMg C m sp dv E σ t x H1 Q):Cy C m sp dv E to t σ H Q:=h
def sP (ha:H a=some (.ins C dx fs)) (hm:fs.lookup m=none) (q:t σ H λvs H2=>sp (.ref a::(vs++dv)) H2 Q E):rMg C m sp dv E σ t (.ref a) H Q:=⟨a,dx,fs,rfl,ha,hm,q⟩
def aku (h:t σ H λvs H1=>∀x dx,H1 x=none->H1 dx=none->dx≠x->sp (.ref x::(vs++[])) (upd (upd H1 dx (.own x)) x (.ins C dx [])) (λv H2=>v=.bM/\Q (.ref x) H2) E):Oh C sp [] E t σ H Q:=h
end My
namespace Jd
def ahU (D:Kg X.prog X.w X.K X.mg X.base k x C ps sp) (hp:Passes (mO X.prog X.w) X E) (hr:gM (k+1) X.A) (hg:Gl X x) (ha:QA X (e::es) t) (hdb:0#e:=by decide)
 (he:0#f:=by rfl) (hpl:0#i:=by rfl):QE X 1#g (Oh C sp [] E t):=by
 obtain ⟨fa,fd,ok,v,u,z⟩:=D.ex
 exact ⟨To v ok hr hg z u .nil hp ha.h hdb he hpl⟩
def tT (D:Mg X.prog X.w X.K X.mg X.base k C m ps sp dv) (c:MB X.K C) (hp:Passes (mO X.prog X.w) X E) (hr:gM k X.A) (ho:QE X o to) (ha:QA X (e::es) t) 
 (he:0#f:=by rfl) (hpl:0#i:=by rfl)
 (ht:eval (.Call (.Attribute o m apos) (e::es) [] pos) X.env=(do
   let ov <- eval o X.env
   xy apos.atName
   let (g,first) <- holding [ov] (CM ov m pl)
   callWith pos g first (gc pos (dg (e::es) X.env)) (qe pos (qd [] X.env))):=by rfl):QE X (.Call (.Attribute o m apos) (e::es) [] pos) (Cy C m sp dv E to t):=by
 obtain ⟨fa,fd,ds,ok,z,u,v⟩:=D.ex
 exact ⟨Tq ho.h c z ok hr u v hp ha.h he hpl ht⟩
def x9 (D:Mg X.prog X.w X.K X.mg X.base k C m ps sp dv) (c:MB X.K C) (hp:Passes (mO X.prog X.w) X E) (hr:gM k X.A) (ho:QE X o to) 
 (ht:eval (.Call (.Attribute o m apos) [] [] pos) X.env=(do
   let ov <- eval o X.env
   xy apos.atName
   let (g,first) <- holding [ov] (CM ov m pl)
   callWith pos g first [] (qe pos (qd [] X.env))):=by rfl):QE X (.Call (.Attribute o m apos) [] [] pos) (Cy C m sp dv E to pH):=by
 obtain ⟨fa,fd,ds,ok,z,u,v⟩:=D.ex
 exact ⟨N4 ho.h c z ok hr u v hp ht⟩
end Jd
namespace My
open PySem PySem.Spec PySem.Calls PyProof.Rows L2 Mth
def Yg:0#n->Hp->VK->Prop:=λxs H Q=>∃(d:ah) (kvs:List (Key×V)) (ns:List Int),xs=[.ref d]/\H d=some (.dK kvs)/\kvs.map (·.1)=ns.map Sum.inl/\ns.length<64 /\
 ∀(p:ah) (ns':List Int),H p=none->ns'.Perm ns->ns'.Pairwise (·<=·)->Q (.ref p) (upd H p (.lst (ns'.map V.int)))
def aaS (hl:vs.length=ns.length) (h:∀(j:Nat) (v:bq) (n:Int),vs[j]?=some v->ns[j]?=some n->∃t,v=.int n t):Aw vs ns:=by
 induction vs generalizing ns with
 | nil=>cases ns with | nil=>exact .nil | cons _ _=>cases hl
 | cons v vs ih=>
   cases ns with
   | nil=>cases hl
   | cons n ns=>
     obtain ⟨t,rfl⟩:=h 0 v n rfl rfl
     exact .cons n t (ih (by simpa using hl) λj u m A z=>h (j+1) u m (by simpa using A) (by simpa using z))
def Co:∀{kvs:List (κ×V)} {vs:List (κ×bq)},KV kvs vs->vs.map (·.1)=kvs.map (·.1)
 | [],[],_=>rfl
 | _::_,_::_,h=>by
   cases h with
   | cons a b=>rw [uh,uh,a.1,Co b]
def Vm (I:L2.Inv X pins σ H s) (k:∀b u,s.heap.get? b=some u->h'.get? b=some u) (hp:s.heap.get? a=none) (hn:H a=none) (new:d7 X.prog X.w (upd H a o) h' a o) :
 L2.Inv X pins σ (upd H a o) { s with heap:=h',toks:=t' }:=by
 have ne:∀b u,H b=some u->b≠a:=λb u q z=>by rw [z,hn] at q;cases q
 refine I.un ⟨λb u q _ _ _=>k b u q,λb u q _ _ _=>⟨u.slots,k b u q⟩,λb u q n _=>?_,λb u q _=>⟨u,k b u q⟩,λb A q=>?_,λb u A q=>?_,λb ps q=>⟨#[],?_⟩⟩ λb u e=>?_
 ·rw [aF λz=>by rw [z,hp] at q;cases q];exact n
 ·rw [aF (ne _ _ q)];exact q
 ·rw [aF (ne _ _ q)];exact q
 ·rw [aF (ne _ _ q),q];simp
 ·by_cases hb:b=a
  ·subst hb
   rw [au] at e
   cases e
   exact new
  ·rw [aF hb] at e
   exact (I.hok b u e).stay (λc v _ q=>k c v q) (λc q=>by rw [aF (ne _ _ q)];exact q) λc A q=>by rw [aF (ne _ _ q)];exact q
def YF (hc:X.calm=true:=by rfl):jG X (.builtin "sorted") Yg:=by
 intro S s σ H xs us Q I r h
 obtain ⟨d,kvs,Y,rfl,hd,hk,Z,q⟩:=h
 obtain ⟨u,rfl,rx⟩:=vals1 r
 cases rx
 obtain ⟨_,lo,vs,rv,hD⟩:=(show d7 X.prog X.w H s.heap d (.dK kvs) from I.hok d _ hd)
 obtain ⟨ep,ac⟩:=hD.dictAt
 have hh:=I.ok.hd hc
 have L:vs.map (·.1)=Y.map Sum.inl:=(Co rv).trans hk
 have N:vs.length=Y.length:=by simpa using congrArg CJ L
 refine Calls.call_function_entry kind_sorted plain_sorted entry_sorted (args_sorted1 _) ?_
 unfold Builtin.«sorted»
 refine dX (m:=checkCount "sorted" 1 1 _) (jW ?_)
 refine dX (PySem.W.kdu_collect (A:=X.A.in1) (PySem.W.kdl_dict (knd:=fG X.prog X.w) (kvs:=vs) (ep:=ep) lo) hh ac (wG (bg 0#z)) λD tk B G E=>?_)
 have hl:B.toList.length=Y.length:=by rw [Uh,E.1,N]
 have hI:Aw B.toList Y:=aaS hl λj v n hv U=>by
  obtain ⟨k,x,hx,hy⟩:=E.2 j v (by rw [<- Array.getElem?_toList];exact hv)
  have e1:(vs.map (·.1))[j]?=some k:=by rw [gF,hx];rfl
  rw [L,gF,U] at e1
  cases e1
  rcases fL (show E3 (Sum.inl n) v=true from hy) with ⟨i,t,e,rfl⟩ | ⟨i,t,e,rfl⟩
  ·cases e
   exact ⟨t,rfl⟩
  ·cases e
 refine dX (wpAny_newList ?_ (by rw [hl];exact wG (bg 0#z)))
 have ho:(D.push { cls:=.type "list",data:=.seq B.toList.toArray }).get? D.objs.size=some (seqObj "list" B.toList.toArray 0):=IJ _ rfl
 refine dX (G4 (wpAny_call_entry slot_list_sort ⟨_,ho,rfl⟩ entry_list_sort (list_sort_tree ho hI (by rw [hl];exact Z) λout R a1 a2 a3=>0#M) (args_list_sort _)))
 have O:s.heap.get? D.objs.size=none:=by
  cases g:s.heap.get? D.objs.size with
  | none=>rfl
  | some o=>exact absurd (fW (G _ _ g)) (wY _)
 have U:H D.objs.size=none:=by
  cases g:H D.objs.size with
  | none=>rfl
  | some o=>exact absurd (vU (I.hok _ _ g)) (by rw [O];simp)
 refine jW 0#M
 obtain ⟨e,he⟩:=sortedHeap_at (h:=D.push { cls:=.type "list",data:=.seq B.toList.toArray }) (vs:=B.toList) (out:=out) (n:=0) ho
 suffices J:L2.Inv X S σ (upd H D.objs.size (.lst (R.map V.int))) { s with heap:=sortedHeap (D.push { cls:=.type "list",data:=.seq B.toList.toArray }) D.objs.size B.toList out,toks:=tk } from ⟨.ref D.objs.size,_,J,rfl,q _ R U a2 a3⟩
 refine Vm I (λb o z=>?_) O U ?_
 ·have hb:=fW (G _ _ z)
  rw [sortedHeap_old (mK hb) (by rw [size_push'];exact adg hb),Heap.get?_push_ne _ _ _ (mK hb)]
  exact G _ _ z
 ·refine ⟨?_,out.toList,e,rP a1,?_⟩
  ·rw [iI,a2.length_eq]
   exact wG (bg 0#z)
  ·rw [he]
def TF {H:Hp} {ns:List Int} (h:H d=some (.dK kvs)) (hk:kvs.map (·.1)=ns.map Sum.inl) (h64:ns.length<64) (q:∀(p:ah) (ns':List Int) (H':Hp),ao H H'->H p=none->H' p=some (.lst (ns'.map V.int))->ns'.Perm ns->ns'.Pairwise (·<=·)->Q (.ref p) H'):Yg [.ref d] H Q:=
 ⟨d,kvs,ns,rfl,h,hk,h64,λp ns' hp h1 h2=>q p ns' _ (bP 0#V hp) hp au h1 h2⟩
def ah1:0#n->Hp->VK->Prop:=λxs H Q=>∃a kvs,xs=[V.ref a]/\H a=some (.dK kvs)/\Q (.int kvs.length) H
def ahH:jG X (.builtin "len") ah1:=by
 intro pins s σ H xs us Q I r h
 obtain ⟨a,v,rfl,z,q⟩:=h
 obtain ⟨u,rfl,A⟩:=vals1 r
 cases A
 exact ag0 I (.inl z) λt s' J=>⟨.int v.length,H,J,⟨t,rfl⟩,q⟩
def age (h:td σ H λx H1=>∃a,x=.ref a/\IsD H1 a/\ty σ H1 λy H2=>∃o,kJ H2 a y o/\Q (o.getD .bM) H2):RP td ty σ H Q:=h
def agb (h:td σ H λx H1=>∃a,x=.ref a/\IsD H1 a/\ty σ H1 λy H2=>∃kvs k v,H2 a=some (.dK kvs)/\y=kV k/\tM kvs k=some v/\Q v (upd H2 a (.dK (Cd kvs k)))):RS td ty σ H Q:=h
end My
namespace Jd
def ab1 (hu:X.A.units+64<mG) (ho:QE X o to) (he:QE X e te) (m:M1 X o "get" apos e cpos:=by exact 0#T):QE X (.Call (.Attribute o "get" apos) [e] [] cpos) (RP to te):=⟨L2.X4 0#z ho.h he.h m⟩
def ahV (ho:QE X o to) (he:QE X e te) (m:M1 X o "pop" apos e cpos:=by exact 0#T):QE X (.Call (.Attribute o "pop" apos) [e] [] cpos) (RS to te):=⟨L2.X6 ho.h he.h m⟩
end Jd
namespace My
open PySem PySem.Spec PySem.Calls PyProof.Rows L2 Mth
noncomputable abbrev cxN (P:fT) (w:dO) (K:bU) (mg:0#g) (base:cH) (N:List Str) (qual:Str) (scope:nO) (f:ah) (cd:bq) (B:je) (outer:List Env) (s:bB) (H:Hp) (e:ah) (ob:Obj):Cx:=
 { lG dw P w K mg base N qual scope f cd B outer s H E0 with A:=(B.deeper (fS qual scope s.heap.objs.size f cd)).mark (some (.ref e)),calm:=false,pn:=[(e,ob)],xe:=λ_ _=>False }
structure FnN (P:fT) (w:dO) (K:bU) (mg:0#g) (base:cH) (k:Nat) (f:ah) (fd:ia) (pa:Str) (sp:ah->bq->Option ah->Hp->VK->Prop):Prop where
 run:∀(e:ah) (ob:Obj) (B:je) (outer:List Env) (s:bB) (H:Hp) (args:Args) (Q:VK),gM k B->J3 P w K mg base B outer s H->G9 s fd args [(pa,.ref e)]->s.heap.get? e=some ob->H e=none->e∉frs outer->(∀v,ob.data≠.cell v)->CH ob=true ->
  sp e ob.cls ob.dict H Q->Av (model P w) (B.mark (some (.ref e))) (.call 1#e args) (CR dw outer P w H s Q E0) s
def ae7 {K:bU} {st:aS} (F:i9 K x qual st f fd) (S:pQ N [pa] (bw st))
 (hbody:∀(cdv:bq) (e:ah) (ob:Obj) (B:je) (outer:List Env) (s:bB) (H:Hp) (Q:VK),gM k (B.deeper (fS qual (bw st) s.heap.objs.size f cdv))->CH ob=true->sp e ob.cls ob.dict H Q ->
   ∃t,Hw (cxN P w K mg base N qual (bw st) f cdv B outer s H e ob) (c9 st) t/\t { nx:=λ_ H'=>Q .bM H',rt:=Q } (start N [.ref e]) H):FnN P w K mg base (k+1) f fd pa sp:=by
 obtain ⟨oc,od,kV,doc,pm,an,cdv,ct,osl,rfl,lk,O⟩:=F.ex
 refine ⟨λe ob B outer s H args Q hr G hb he hn Y R ad ae=>?_⟩
 have KX:K.In s.heap:=G.mod.kin.keeps λb o q=>(G.bs b o q).1
 have af:s.heap.NoLimit:=G.mod.nolimit.keeps λb o q=>(G.bs b o q).1
 have L:Vals [V.ref e] [Value.ref e]:=.cons rfl .nil
 have hk:∀y∈([pa]:List Str).zip [Value.ref e],(bw st).names.lookup y.1=some .local\/((bw st).names.lookup y.1=some .cell/\((cellsFrom 1#f (bw st).names []).lookup y.1).isSome=true):=λ⟨n,v⟩ hy=>by
  rcases S.par n (Uw hy).1 with q | q
  ·exact .inl q
  ·exact .inr ⟨q,Zi _ _ _ (.inl q)⟩
 refine acI (A:=B.mark (some (.ref e))) (show B.depth<recursionLimit from hr.depth) (KX _ _ lk) rfl S.co S.gen rfl (ac0 KX O) (hb _ _ _ _ ?_)
 refine aco S.kind hk λenv U s1 y=>?_
 subst U
 refine ⟨af.keeps y.toInCall.keep,codeAny_func ?_⟩
 obtain ⟨t,ht,hq⟩:=hbody cdv e ob B outer s H Q (hr.deeper _) ad ae
 have I0:=Jg (CX:=dw) (E:=E0) (qual:=qual) (f:=f) (cd:=cdv) S hr.hd G rfl L y
 have ac:=fW he
 have I1:L2.Inv (cxN P w K mg base N qual (bw st) f cdv B outer s H e ob) [] (start N [.ref e]) H s1:=by
  have J:=EZ (X:=lG dw P w K mg base N qual (bw st) f cdv B outer s H E0) (e:=e) (Ey:=λ_ _=>False) (ic:=[]) (Ex:=(lG dw P w K mg base N qual (bw st) f cdv B outer s H E0).xe) I0
  refine ⟨⟨J.ok.mod,J.ok.kind,J.ok.glob,J.ok.blt,J.ok.above,J.ok.inj,J.ok.has,J.ok.V6,J.ok.hd,J.ok.frames,J.ok.stk,J.ok.exf,J.ok.bs,J.ok.UT,J.ok.KN,J.ok.MX,J.ok.uG,J.ok.V8⟩,J.os,J.bare,J.base,J.loc,J.cell,J.free,J.nJ,λp hp=>?_,J.hok,J.len⟩
  obtain rfl:p=(e,ob):=by simpa using hp
  obtain ⟨h1,tk,rfl,Z⟩:=y.done
  exact ⟨Z _ _ he,hn,mK ac,Y,R⟩
 refine pO (ht [] s1 (start N [.ref e]) H _ I1 hq) (λfl s' M=>?_) λ_ _ z=>z.elim
 have I:∀{D:L2.St} {H':Hp} {v:V} {u:bq},L2.Inv (cxN P w K mg base N qual (bw st) f cdv B outer s H e ob) [] D H' s'->RelV v u->Q v H'->CE outer P w H s Q u s':=
  λ{D H' v u} J L q=>⟨v,H',J.os,J.bare,J.base,J.hok,L,q⟩
 cases fl with
 | ret u=>
   obtain ⟨v,D,H',J,L,q⟩:=M
   exact I J L q
 | next=>
   obtain ⟨D,H',J,q⟩:=M
   exact I (v:=V.bM) (u:=Value.none) J rfl q
 | brk=>exact (let ⟨_,_,_,q⟩:=M;q.elim)
 | cont=>exact (let ⟨_,_,_,q⟩:=M;q.elim)
def WQ (h:env.frame=some a) (z:e∈frs (env::outer)):e=a\/e∈frs outer:=by
 unfold frs at z ⊢
 simpa [h] using z
structure DnN (P:fT) (w:dO) (K:bU) (mg:0#g) (base:cH) (k:Nat) (x pa:Str) (sp:ah->bq->Option ah->Hp->VK->Prop):Prop where
 ex:∃(f:ah) (fd:ia),FnN P w K mg base k f fd pa sp/\mg x=some 1#e/\tQ K 1#e=true/\Binds K fd [pa] []
def tN (e:ah) (c:bq) (dx:Option ah) (sp:ah->bq->Option ah->Hp->VK->Prop) (ta:TE):TE:=λσ H Q=>ta σ H λv H1=>[v]=[V.ref e]/\sp e c dx H1 Q
def akF (h:ta σ H λv H1=>[v]=[V.ref e]/\sp e c dx H1 Q):tN e c dx sp ta σ H Q:=h
end My
namespace Jd
def X5 {X:Cx} (D:DnN X.prog X.w X.K X.mg X.base k x pa sp) (hr:gM m X.A) (hkm:k<=m)
 (hp:(e,ob)∈ic) (hc:ob.cls=c) (hdx:ob.dict=dx) (hno:CH ob=true) (hg:Gl { X with A:=X.A.mark (some (.ref e)),calm:=false,pn:=ic,xe:=λ_ _=>False } x)
 (ha:QE { X with A:=X.A.mark (some (.ref e)),calm:=false,pn:=ic,xe:=λ_ _=>False } a ta) (HX:X.stack=X.env::X.outer:=by rfl) (hfr:X.env.frame=some X.env.locals:=by rfl) (hdb:0#e:=by decide) (n1:KO a=true:=by rfl) :
 QE { X with A:=X.A.mark (some (.ref e)),calm:=false,pn:=ic,xe:=λ_ _=>False } (.Call (.Name x p) [a] [] pos) (tN e c dx sp ta):=by
 subst hc hdx
 obtain ⟨f,fd,F,U,S,R⟩:=D.ex
 refine ⟨λG s N H Q I h=>?_⟩
 refine OA (yX I hg U ?_ hdb)
 have O:(fY ta pH) N H λvs B=>vs=[.ref e]/\sp e ob.cls ob.dict B Q:=h
 refine Uj (h₀:=X.base) I.ok.mod.kin S (ig ((a1 ha n1).h pos G s N H (λvs B=>vs=[.ref e]/\sp e ob.cls ob.dict B Q) I O) λus M ⟨vs,B,v,r,z,q⟩=>⟨v.yL,?_⟩) (nH n1) bZ
 subst z
 obtain ⟨u,rfl,ru⟩:=vals1 r
 cases ru
 obtain ⟨Y,Z,p3,p4,p5⟩:=v.pin (e,ob) (Hh _ hp)
 have L:e∉frs X.stack:=λz=>by
  rw [HX] at z
  rcases WQ hfr z with z | z
  ·exact p3 z
  ·exact p4 z
 have J:J3 X.prog X.w X.K X.mg X.base X.A X.stack M B:=⟨v.HB.frames,v.HB.mod,v.HB.bs,v.HB.UT,v.HB.uG,v.HB.V8,v.HB.hok,v.HB.bare⟩
 refine OU (JS (F.run e ob X.A X.stack M B ⟨[.ref e],[]⟩ Q (hr.mono hkm) J (R M [.ref e] v.yL rfl) Y Z L p5 hno q) λr s' E=>?_)
 cases r with
 | error e=>exact E.elim
 | ok fl=>
   cases fl with
   | ret u=>exact v.after E
   | next=>exact E.elim
   | brk=>exact E.elim
   | cont=>exact E.elim
end Jd
abbrev aa:=@Jd.pv
abbrev aq:=@Jd.F0
abbrev aA:=@Jd.Lk
abbrev aH:=@Jd.FO
abbrev aO:=@Jd.iT
abbrev aV:=@Jd.sE
abbrev aW:=@Jd.Q2
abbrev aX:=@Jd.X7
abbrev bx:=@Jd.Lm
abbrev bG:=@Jd.QK
abbrev bI:=@Jd.go
abbrev bK:=@Jd.Yb
abbrev bL:=@Jd.Lj
abbrev bN:=@Jd.a2
abbrev b9:=@Jd.QL
abbrev cg:=@Jd.c2
abbrev cG:=@Jd.Lc
abbrev cP:=@Jd.a1
abbrev cQ:=@Jd.QD
abbrev cY:=@Jd.N3
abbrev dB:=@Jd.Lg
abbrev eF:=@Jd.QH
abbrev eV:=@Jd.lY
abbrev fM:=@Jd.QF
abbrev gT:=@Jd.xZ
abbrev iE:=@Jd.FQ
abbrev d9:=@Jd.aeK
abbrev eE:=@Jd.zL
abbrev gw:=@Jd.Q3
abbrev gA:=@Jd.QY
abbrev gQ:=@Jd.piL
abbrev ir:=@Jd.aj9
abbrev iu:=@Jd.X8
abbrev iV:=@Jd.QZ
abbrev iW:=@Jd.ajB
abbrev j0:=@Jd.XX
abbrev ko:=@Jd.Ju
abbrev kP:=@Jd.K9
abbrev mw:=@Jd.Q6
abbrev mz:=@Jd.Lr
abbrev nK:=@Jd.Li
abbrev oX:=@Jd.Lo
abbrev pR:=@Jd.K8
abbrev pS:=@Jd.K7
abbrev rj:=@Jd.Ld
abbrev rq:=@Jd.afU
abbrev uJ:=@Jd.FP
abbrev uK:=@Jd.Le
abbrev uL:=@Jd.Lf
abbrev wL:=@Jd.FZ
abbrev wM:=@Jd.FN
abbrev E1:=@Jd.Bs
namespace My
open PySem PySem.Spec PySem.Calls PyProof.Rows L2 Mth
section
variable {P:fT} {w:dO} {K:bU} {mg:0#g} {base:cH} {k:Nat} {f C:ah} {fd:ia} {x y m q:Str} {st:aS} {ps:List Str} {sp:Sp} {d:bq} {i:Int}
def Mg.calm (D:0#r k C m ps sp []):Dm P w K mg base k C m ps (Cm sp):=by
 obtain ⟨f,fd,ds,a,b,c,e⟩:=D.ex
 cases e
 exact ⟨f,fd,SR a,b,c⟩
def CU.Et (F:CU K x q st f fd d) 
 (h4:∀(T:ah) (kV doc pm:bq) (an:Option ah) (cdv ct ua ub uc ud:bq),∃k,xu (pN x q (eY st) (c9 st) (bw st) (.ref T) kV doc pm an cdv ct) ⟨[ua,ub,uc,ud],[]⟩=seqItems? (.ref T) >>= k/\k (some #[d])=pure [(pa,ua),(pb,ub),(pc,uc),(pd,ud)])
 (h3:∀(T:ah) (kV doc pm:bq) (an:Option ah) (cdv ct ua ub uc:bq),∃k,xu (pN x q (eY st) (c9 st) (bw st) (.ref T) kV doc pm an cdv ct) ⟨[ua,ub,uc],[]⟩=seqItems? (.ref T) >>= k/\k (some #[d])=pure [(pa,ua),(pb,ub),(pc,uc),(pd,d)]) :
 Binds K fd [pa,pb,pc,pd] []/\Binds K fd [pa,pb,pc,pd] [d]:=by
 obtain ⟨T,oc,od,kV,doc,pm,an,cdv,ct,osl,tc,td,tn,tsl,rfl,lk,hcd,z⟩:=F.ex
 constructor
 ·intro s v X u
  obtain ⟨ua,ub,uc,ud,rfl⟩:=aa4 (l:=v) (by rw [Ar] at u;exact u)
  obtain ⟨k,a,b⟩:=h4 T kV doc pm an cdv ct ua ub uc ud
  exact acW rfl (X _ _ z) rfl a b
 ·intro s v X u
  have u:v.length=3:=by
   rw [jf] at u
   exact Nat.add_right_cancel (m:=1) u
  obtain ⟨ua,ub,uc,rfl⟩:=ahG u
  obtain ⟨k,a,b⟩:=h3 T kV doc pm an cdv ct ua ub uc
  exact acW rfl (X _ _ z) rfl a b
def Fmd (K:bU) (C:ah) (m q:Str) (st:aS) (i:Int):Prop:=∃(f:ah) (fd:ia) (tk:Tok),iz K (.ref C) m=some (some 1#e)/\xg K 1#e=true/\CU K m q st f fd (.int i tk)
def ae6 {kV:bq} (a:iz K (.ref C) m=some (some 1#e)) (j:xg K 1#e=true)
 (l:K.lookup f=some ⟨oc,od,.func (pN m q (eY st) (c9 st) (bw st) (.ref T) kV doc pm an cdv ct),osl⟩) (t:K.lookup T=some ⟨tc,td,.seq #[.int i tk] tn,tsl⟩) (c:vE K cdv q=true) (k:tQ K 1#e=true):Fmd K C m q st i:=
 ⟨f,_,tk,a,j,⟨T,oc,od,kV,doc,pm,an,cdv,ct,osl,tc,td,tn,tsl,rfl,l,c,t⟩,k⟩
def mgd (h:Fmd K C m q st i) (ok:∀{f fd tk},CU K m q st f fd (.int i tk)->0#s (mO P w) k f fd [pa,pb,pc,pd] sp)
 (h4:∀(T:ah) (kV doc pm:bq) (an:Option ah) (cdv ct ua ub uc ud d:bq),∃k,xu (pN m q (eY st) (c9 st) (bw st) (.ref T) kV doc pm an cdv ct) ⟨[ua,ub,uc,ud],[]⟩=seqItems? (.ref T) >>= k/\k (some #[d])=pure [(pa,ua),(pb,ub),(pc,uc),(pd,ud)])
 (h3:∀(T:ah) (kV doc pm:bq) (an:Option ah) (cdv ct ua ub uc d:bq),∃k,xu (pN m q (eY st) (c9 st) (bw st) (.ref T) kV doc pm an cdv ct) ⟨[ua,ub,uc],[]⟩=seqItems? (.ref T) >>= k/\k (some #[d])=pure [(pa,ua),(pb,ub),(pc,uc),(pd,d)]) :
 Mg P w K mg base k C m [pa,pb,pc,pd] sp []/\0#r k C m [pa,pb,pc,pd] sp [.int i]:=by
 obtain ⟨f,fd,tk,a,j,F⟩:=h
 obtain ⟨u,v⟩:=F.Et (λT kV doc pm an cdv ct ua ub uc ud=>h4 T kV doc pm an cdv ct ua ub uc ud _) (λT kV doc pm an cdv ct ua ub uc=>h3 T kV doc pm an cdv ct ua ub uc _)
 exact ⟨⟨f,fd,[],ok F,⟨a,j,F.kp⟩,u,.nil⟩,⟨f,fd,[_],ok F,⟨a,j,F.kp⟩,v,.cons ⟨tk,rfl⟩ .nil⟩⟩
def mgx (h:Fm K C m q st) (ok:∀{f fd},i9 K m q st f fd->0#s (mO P w) k f fd ps sp) (b:∀{f fd},i9 K m q st f fd->Binds K fd ps []:=by intro _ _ F;first | exact F.su λ_ _ _ _ _ _ _ _=>rfl | exact F.sr λ_ _ _ _ _ _ _=>rfl | exact F.Es λ_ _ _ _ _ _ _ _ _=>rfl):0#r k C m ps sp []:=
 have ⟨f,fd,a,i,F⟩:=h
 ⟨f,fd,[],ok F,⟨a,i,F.kp⟩,b F,.nil⟩
def Fxa (K:bU) (y x:Str) (st:aS):Prop:=∃(f:ah) (fd:ia),fX K dJ y=some (some 1#e)/\i9 K x x st f fd
def ae9 {kV:bq} (a:fX K dJ y=some (some 1#e)) (l:K.lookup f=some ⟨oc,od,.func (pN x x (eY st) (c9 st) (bw st) .none kV doc pm an cdv ct),osl⟩) (c:vE K cdv x=true) (k:tQ K 1#e=true):Fxa K y x st:=⟨f,_,a,Ke l c k⟩
def Tp.a (Y:Tp P w K mg base) (h:Fxa K y x st) (ok:∀{f fd},i9 K x x st f fd->0#b k f fd ps sp) (b:∀{f fd},i9 K x x st f fd->Binds K fd ps []:=by intro _ _ F;first | exact F.Et λ_ _ _ _ _ _ _ _ _ _=>rfl | exact F.su λ_ _ _ _ _ _ _ _=>rfl | exact F.sr λ_ _ _ _ _ _ _=>rfl | exact F.Es λ_ _ _ _ _ _ _ _ _=>rfl):0#c k y ps sp:=
 have ⟨_,X,G⟩:=Y.ex
 have ⟨f,fd,a,F⟩:=h
 ⟨f,fd,ok F,qO X G a,F.kp,b F⟩
def Tp.n (Y:Tp P w K mg base) (h:Fx K x st) (ok:∀{f fd},i9 K x x st f fd->FnN P w K mg base k f fd pa sn) (b:∀{f fd},i9 K x x st f fd->Binds K fd [pa] []:=by intro _ _ F;exact F.sr λ_ _ _ _ _ _ _=>rfl):DnN P w K mg base k x pa sn:=
 have ⟨_,X,G⟩:=Y.ex
 have ⟨f,fd,a,F⟩:=h
 ⟨f,fd,ok F,qO X G a,F.kp,b F⟩
end
end My
end
local macro_rules | `(tactic| walk_at "vb") => `(tactic| repeat (first
 | apply_rules (transparency:=.reducible) (exfalso:=false) (symm:=false) only [My.Yl,My.ail,My.aij,My.agd,My.ah8,My.Q8,My.r_c,My.akx,My.agn,My.r_B,My.akr,My.af7,My.aid,My.aim,My.af5,My.akq]
 | apply_rules (transparency:=.reducible) (exfalso:=false) (symm:=false) only [My.af8,My.ah6,My.agm,My.agi,My.agg,My.akG,My.ako,My.r_U,My.akp,My.aia,My.Ym,My.aby,My.abz,My.aif,My.r_g,My.af2,My.af4,My.af6,My.aip,My.agf,My.aib,My.aic,My.ain,My.aie,My.ah5,My.aky,My.af3,My.agj,My.ah9]
  | ((with_reducible refine' My.aio ?e1 ?_); (case e1 => rfl))
  | ((with_reducible refine My.jP ?e7 ?_); (case e7 => first | decide | assumption | exact ⟨by decide, by decide, by decide⟩ | (show (0 : Int) < _; first | decide | simp?) | exact My.mulR (by decide) (by decide) | exact My.mulL (by decide) (by decide)))
  | ((with_reducible refine My.aks ?e2 ?_); (case e2 => rfl))
  | ((with_reducible refine My.akw ?e3 ?_); (case e3 => rfl))
  | ((with_reducible refine' My.akB ?e4 ?_); (case e4 => assumption))
  | ((with_reducible refine' My.akC ?e5 ?_); (case e5 => assumption))
  | ((with_reducible refine' My.akD ?e6 ?_); (case e6 => assumption))
  | ((with_reducible refine' My.akE ?e8 ?_); (case e8 => assumption))))
local macro_rules | `(tactic| rw?) => `(tactic| walk_at "vb")
local macro_rules | `(tactic| try?) => `(tactic| first
 | assumption
 | exact wG (by assumption)
 | exact Z0 (by assumption) (by assumption)
 | exact nI (by assumption) (by assumption)
 | exact g9 (by assumption) (by assumption)
 | exact vF (by assumption)
 | exact Z4 (by assumption)
 | exact ad7 (by assumption)
 | exact Oz _
 | lia
 | omega)
local macro_rules | `(tactic| walk_at "fx") => `(tactic| (refine' My.ahc ?a ?l ?c ?k; (case a => k_is); (case l => k_is); (case c => k_is); (case k => k_is)))
local macro_rules | `(tactic| walk_at "fm") => `(tactic| (refine' My.aha ?a ?i ?l ?c ?k; (case a => k_is); (case i => k_is); (case l => k_is); (case c => k_is); (case k => k_is)))
local macro_rules | `(tactic| walk_at "fi") => `(tactic| (refine' My.ag8 ?a ?o ?i ?l ?c ?k; (case a => k_is); (case o => kernel_rfl); (case i => k_is); (case l => k_is); (case c => k_is); (case k => k_is)))
local macro_rules | `(tactic| walk_at "fd") => `(tactic| (refine' My.afb ?a ?l ?t ?c ?k; (case a => k_is); (case l => k_is); (case t => k_is); (case c => k_is); (case k => k_is)))
local macro_rules | `(tactic| walk_at "fb") => `(tactic| (refine' My.afa ?a ?l ?t ?c ?k; (case a => k_is); (case l => k_is); (case t => k_is); (case c => k_is); (case k => k_is)))
local macro_rules | `(tactic| walk_at "fg") => `(tactic| (refine' My.ahf ?h ?l; (case h => k_is); (case l => k_is)))
local macro_rules | `(tactic| walk_at "fy") => `(tactic| (refine' My.ae9 ?a ?l ?c ?k; (case a => k_is); (case l => k_is); (case c => k_is); (case k => k_is)))
local macro_rules | `(tactic| walk_at "fe") => `(tactic| (refine' My.ae6 ?a ?j ?l ?t ?c ?k; (case a => k_is); (case j => k_is); (case l => k_is); (case t => k_is); (case c => k_is); (case k => k_is)))
local macro_rules | `(tactic| walk_at "fz") => `(tactic| first | walk_at "fx" | walk_at "fy" | walk_at "fe" | walk_at "fd" | walk_at "fb" | walk_at "fg" | walk_at "fm" | walk_at "fi" | k_is | k_exc | kts_exm | kit_is)
local macro_rules | `(tactic| walk_at "vs") => `(tactic| first
  | with_reducible refine My.akA ?_
  | with_reducible refine My.agk ?_
  | with_reducible refine My.Yj ?_
  | with_reducible refine My.akz ?_)
local macro_rules | `(tactic| walk_at "vd") => `(tactic| ((rw?); (repeat ((walk_at "vs"); (rw?)))))
local macro_rules | `(tactic| walk_at "ve") => `(tactic| ((walk_at "vb"); (repeat ((first | with_reducible refine My.af9 ?_ | with_reducible refine My.agc ?_ | with_reducible refine My.age ?_ | with_reducible refine My.agb ?_ | with_reducible refine My.akv ?_ | with_reducible refine My.aku ?_ | with_reducible refine My.akF ?_); (walk_at "vb")))))
namespace Lw
inductive Xs2 {A0 A1:Type} (p:A0->A1->Prop):Prop
 | mk (a0:A0) (a1:A1):p a0 a1->Xs2 p
inductive Xs3 {A0 A1 A2:Type} (p:A0->A1->A2->Prop):Prop
 | mk (a0:A0) (a1:A1) (a2:A2):p a0 a1 a2->Xs3 p
inductive Xs4 {A0 A1 A2 A3:Type} (p:A0->A1->A2->A3->Prop):Prop
 | mk (a0:A0) (a1:A1) (a2:A2) (a3:A3):p a0 a1 a2 a3->Xs4 p
inductive Xs5 {A0 A1 A2 A3 A4:Type} (p:A0->A1->A2->A3->A4->Prop):Prop
 | mk (a0:A0) (a1:A1) (a2:A2) (a3:A3) (a4:A4):p a0 a1 a2 a3 a4->Xs5 p
inductive Xs6 {A0 A1 A2 A3 A4 A5:Type} (p:A0->A1->A2->A3->A4->A5->Prop):Prop
 | mk (a0:A0) (a1:A1) (a2:A2) (a3:A3) (a4:A4) (a5:A5):p a0 a1 a2 a3 a4 a5->Xs6 p
inductive Xs7 {A0 A1 A2 A3 A4 A5 A6:Type} (p:A0->A1->A2->A3->A4->A5->A6->Prop):Prop
 | mk (a0:A0) (a1:A1) (a2:A2) (a3:A3) (a4:A4) (a5:A5) (a6:A6):p a0 a1 a2 a3 a4 a5 a6->Xs7 p
inductive Xs9 {A0 A1 A2 A3 A4 A5 A6 A7 A8:Type} (p:A0->A1->A2->A3->A4->A5->A6->A7->A8->Prop):Prop
 | mk (a0:A0) (a1:A1) (a2:A2) (a3:A3) (a4:A4) (a5:A5) (a6:A6) (a7:A7) (a8:A8):p a0 a1 a2 a3 a4 a5 a6 a7 a8->Xs9 p
inductive aeG {A0 A1 A2 A3 A4 A5 A6 A7 A8 A9:Type} (p:A0->A1->A2->A3->A4->A5->A6->A7->A8->A9->Prop):Prop
 | mk (a0:A0) (a1:A1) (a2:A2) (a3:A3) (a4:A4) (a5:A5) (a6:A6) (a7:A7) (a8:A8) (a9:A9):p a0 a1 a2 a3 a4 a5 a6 a7 a8 a9->aeG p
inductive agV {A0 A1 A2 A3 A4 A5 A6 A7 A8 A9 A10:Type} (p:A0->A1->A2->A3->A4->A5->A6->A7->A8->A9->A10->Prop):Prop
 | mk (a0:A0) (a1:A1) (a2:A2) (a3:A3) (a4:A4) (a5:A5) (a6:A6) (a7:A7) (a8:A8) (a9:A9) (a10:A10):p a0 a1 a2 a3 a4 a5 a6 a7 a8 a9 a10->agV p
open PySem L2 Mth My
noncomputable def top (i:Nat):aS:=PySem.Challenge.pw_lath_k74_deeds.main.body.getD i (.Pass ⟨0,0,0,0⟩)
abbrev yh:aS:=top 104
abbrev BB:aS:=top 105
abbrev BC:aS:=top 106
abbrev u7:aS:=top 107
abbrev nC:aS:=top 15
abbrev lQ:aS:=top 16
abbrev BA:aS:=top 17
abbrev D6:aS:=top 19
abbrev BE:aS:=top 20
abbrev sZ:aS:=top 21
abbrev mj:aS:=top 22
abbrev qJ:aS:=top 23
abbrev LD:aS:=top 25
abbrev Rj:aS:=top 24
abbrev Ri:aS:=top 27
abbrev jL:aS:=top 34
abbrev qH:aS:=top 35
abbrev pA:aS:=top 36
abbrev vc:aS:=top 37
abbrev LG:aS:=top 38
abbrev BD:aS:=top 39
abbrev Ge:aS:=top 40
abbrev Rh:aS:=top 41
abbrev LF:aS:=top 28
abbrev Rl:aS:=top 29
abbrev qI:aS:=top 49
abbrev Rk:aS:=top 62
abbrev lP:aS:=top 43
abbrev yf:aS:=top 31
abbrev yw:aS:=top 32
abbrev qE:aS:=top 44
abbrev LC:aS:=top 45
abbrev uY:aS:=top 46
abbrev Bx:aS:=top 47
abbrev jS:aS:=top 83
abbrev nB:aS:=top 84
abbrev yz:aS:=top 85
abbrev yy:aS:=top 86
abbrev LH:aS:=top 87
abbrev LB:aS:=top 88
abbrev o8:aS:=inClass (top 66) 0
abbrev ny:aS:=top 64
abbrev nE:aS:=top 65
abbrev nu:aS:=inClass (top 66) 1
abbrev o9:aS:=inClass (top 66) 2
abbrev vd:aS:=top 67
abbrev pC:aS:=top 52
abbrev qD:aS:=top 53
abbrev qL:aS:=top 54
abbrev uX:aS:=top 55
abbrev nv:aS:=top 56
abbrev LI:aS:=top 50
abbrev LJ:aS:=top 26
abbrev Rg:aS:=top 57
abbrev qK:aS:=top 69
abbrev sW:aS:=top 70
abbrev pe:aS:=top 71
abbrev LA:aS:=top 72
abbrev yt:aS:=top 30
abbrev sX:aS:=top 74
abbrev BG:aS:=top 75
abbrev uV:aS:=inClass (top 76) 0
abbrev o6:aS:=inClass (top 76) 4
abbrev jC:aS:=inClass (top 76) 2
abbrev jD:aS:=inClass (top 76) 3
abbrev uW:aS:=inClass (top 76) 1
abbrev ni:aS:=inClass (top 76) 5
abbrev yr:aS:=top 78
abbrev yu:aS:=top 79
abbrev pB:aS:=top 80
abbrev Gf:aS:=top 81
abbrev kr:aS:=top 96
abbrev nA:aS:=top 97
abbrev BF:aS:=top 93
abbrev lN:aS:=top 98
abbrev Rm:aS:=top 99
abbrev qF:aS:=top 18
abbrev yg:aS:=top 60
abbrev By:aS:=top 61
abbrev pW:aS:=top 91
abbrev mh:aS:=top 92
abbrev Gd:aS:=top 94
abbrev fZ:aS:=inClass (top 102) 8
abbrev fR:aS:=inClass (top 102) 9
abbrev sR:aS:=inClass (top 102) 7
abbrev sU:aS:=inClass (top 102) 1
abbrev sQ:aS:=inClass (top 102) 2
abbrev qA:aS:=inClass (top 102) 3
abbrev nq:aS:=inClass (top 102) 4
abbrev sV:aS:=inClass (top 102) 10
abbrev qC:aS:=inClass (top 102) 11
abbrev qB:aS:=inClass (top 102) 17
abbrev nk:aS:=inClass (top 102) 5
abbrev o7:aS:=inClass (top 102) 6
abbrev lM:aS:=inClass (top 102) 15
abbrev nj:aS:=inClass (top 102) 16
abbrev qz:aS:=inClass (top 102) 0
abbrev u6:aS:=top 108
abbrev yo:aS:=top 111
abbrev yj:aS:=top 112
abbrev yp:aS:=top 113
abbrev qG:aS:=top 114
abbrev u9:aS:=top 110
abbrev uZ:aS:=top 115
abbrev ym:aS:=top 116
abbrev yi:aS:=top 109
abbrev sY:aS:=top 117
abbrev yq:aS:=top 118
abbrev yk:aS:=top 119
abbrev lO:aS:=top 120
abbrev u5:aS:=top 121
abbrev Ys:aS:=top 122
inductive Rv (K:bU) (vs:List V) (H:Hp) (Q:VK) (E_:XK):Prop where
 | mk (a:ah) (ns:List Int) (i:Int):vs=[.ref a,.int i]->bS K H a 1#i->0<=i->i<1000->(∀(c:Int) (H':Hp),ao H H'->Q (.int c) H')->Rv K vs H Q E_
inductive YI (vs:List V) (H:Hp) (Q:VK) (E_:XK):Prop where
 | mk (c k:Int):vs=[.int c,.int k]->0<=k->k<1000->(∀z:Int,Q (.int z) H)->YI vs H Q E_
inductive YK (K:bU) (vs:List V) (H:Hp) (Q:VK) (E_:XK):Prop where
 | mk (a:ah) (ns:List Int) (i:Int) (l:ah) (zs:List Int):vs=[.ref a,.int i,.ref l]->bS K H a 1#i->0<=i->i<900->H l=some (.lst (zs.map V.int))->zs.length<=900->(∀z∈zs,0<z/\z<2 ^ 60)->(∀(p:ah) (xs:List Int) (H':Hp),ao H H'->H p=none->H' p=some (.lst (xs.map V.int))->xs.length=zs.length->(∀(j:Nat) (x z:Int),xs[j]?=some x->zs[j]?=some z->0<=x/\x<z)->Q (.ref p) H')->YK K vs H Q E_
inductive L7 (vs:List V) (H:Hp) (Q:VK) (E_:XK):Prop where
 | mk (t b:Int):vs=[.int t,.int b]->0<b->Sz 8000 b->(∀(p:ah) (t' b':Int) (H':Hp),ao H H'->H' p=some (.tup [.int t',.int b'])->Low t b t' b'->Q (.ref p) H')->L7 vs H Q E_
structure Txt (mg:0#g):Prop where
 kK:mg "len"=none
 Hz:mg "abs"=none
 range:mg "range"=none
 dz:mg "isinstance"=none
 akZ:mg "int"=none
 abZ:mg "bool"=none
 agI:mg "tuple"=none
 Td:mg "list"=none
 aa7:mg "max"=none
 aa9:mg "min"=none
 EG:mg "enumerate"=none
 agO:mg "zip"=none
 akN:mg "all"=none
 akO:mg "any"=none
 ak2:mg "sum"=none
 TR:mg "sorted"=none
 agP:mg "reversed"=none
 ak1:mg "str"=none
def aaR {ns:List Int} (h0:0<=i) (h:i<(ns.length:Int)):∃v:Int,uD 1#i i=some (.int v):=by
 have z:i.toNat<ns.length:=by try?
 exact ⟨ns[i.toNat],eW (jE z) 0#u⟩
def aar {ns:List Int} {i:Nat} (h:(lF 1#i lo hi)[i]?=some y):∃m:Int,y=.int m:=by
 have u:y∈lF 1#i lo hi:=g8 h
 unfold lF at u
 obtain ⟨m,_,e⟩:=kc.mp (Zo (acP u))
 exact ⟨m,e.symm⟩
def Tf (x y:Nat):((x:Int) % (y:Int))=((x % y:Nat):Int):=(Int.natCast_emod x y).symm
def mq (t:Int):(if t<0 then -t else t)=(t.natAbs:Int):=by split <;> try?
noncomputable def Wt (i:Nat) (σ:St):Nat:=match σ[i]? with | some (some (V.int n))=>n.toNat | _=>0
noncomputable def ack (σ:St):Nat:=match σ[3]? with | some (some (V.int n))=>n.toNat | _=>0
def qb:dR 2 [cy,dY,"_law_seed",gJ] yh:=0#t
def NO (F:fU K "_law_cell" yh f fd) (T:Txt mg):0#b 1 f fd [cy,dY] (Rv K):=by
 refine F.fq qb 0#a
 obtain ⟨a,ns,i,rfl,I,L,h1,k⟩:=h
 apply bI ⟨_,(aq (bK (bx oZ 0#H (ir K T.kK 0#A) 1#a) (aA (aW (cY (lX K) 0#A 0#H 0#B))) bL) (aq (aV 2 qb.nd aH) (aq (iV j9 rfl (gQ K (uJ (slL K) 0#A uK (uL aH))) (cG (i:=3) qb.nd rfl 0#D) (aA (aV 2 qb.nd (aX kq (aX dN (aX dN (aX bE 0#P aH) (aX kq 0#X aH)) aH) aH)))) (aA (aW (aX kq (aX dN 0#P (aX bE aH 0#H)) aH)))))),?_⟩
 apply gR (.inl I) ?_
 refine cJ 0#K 0#K
 ·have J:=kO c
  rw [iI] at J
  obtain ⟨v,O⟩:=aaR (ns:=ns) L J
  rw?
  exact ⟨a,_,i,_,rfl,rfl,I,O,k v H 0#V⟩
 ·rw?
  refine ⟨_,rfl,_,rfl,a,_,rfl,I,λp N=>?_⟩
  have s1:ao H (upd H p (.lst (lF 1#i none (some 63)))):=iG N _
  have e1:upd H p (.lst (lF 1#i none (some 63))) p=some (.lst (lF 1#i none (some 63))):=au
  refine ⟨p,rfl,⟨_,bS.of e1⟩,gX (K:=K) (a:=p) (xs:=lF 1#i none (some 63)) (λ_ G u=>Xs2 λ(z:Int) (v:Option V)=>G=[some (.ref a),some (.int i),some (.int z),v]/\0<=z/\z<2147483647/\ao (upd H p (.lst (lF 1#i none (some 63)))) u)
   ⟨5,none,rfl,by decide,by decide,ao.refl _⟩ (λ_ G u _ ⟨_,_,_,_,_,s2⟩=>bS.of (s2 _ _ e1)) ?_ ?_⟩
  ·rintro j y G u M ⟨z,v,rfl,R,S,s2⟩
   obtain ⟨m,rfl⟩:=aar M
   rw?
   exact ⟨_,_,rfl,As _ 0#y,IK _ 0#y,s2⟩
  ·rintro G u ⟨z,v,rfl,R,S,s2⟩
   rw?
   exact k _ _ 1#h
def yC:dR 2 [gJ,"_law_k","_law_one","_law_two"] BB:=0#t
def Qw (F:fU K "_law_mix" BB f fd):0#b 1 f fd [gJ,"_law_k"] YI:=by
 refine F.fq yC 0#a
 obtain ⟨c,j,rfl,h0,h1,k⟩:=h
 refine bI ⟨_,(aq (aV 2 yC.nd (aX kq (aX FI (aX dN (aX dN (aX kq 0#A aH) (aX bE aH 0#H)) aH) aH) aH)) (aq (aV 3 yC.nd (aX kq (aX dN (aX dN (aX bE 0#P aH) (aX bE (aX bE aH 0#H) 0#H)) aH) aH)) (aA (aW (aX fQ 0#X aH))))),?_⟩
 have b0:0<=c % 2147483629:=As _ 0#y
 have b1:c % 2147483629<2147483629:=IK _ 0#y
 rw?
 apply jP (show agQ _ _ from ⟨by decide,by decide,by try?⟩) ?_
 apply jP (mulR 0#u 0#u) ?_
 refine jP (show Ed _ _ from ⟨by decide,by decide +kernel⟩) ?_
 exact k _
def jU:dR 3 [cy,dY,"_law_sizes",gJ,"_law_left",fH,"_law_k","_law_other"] BC:=0#t
def Qx (F:fU K "_law_row" BC f fd) (T:Txt mg) (rV:0#c 1 "_law_cell" [cy,dY] (Rv K)) (vK:0#c 1 "_law_mix" [gJ,"_law_k"] YI) :
 bf P w K mg base dw 3 f fd [cy,dY,"_law_sizes"] (YK K):=by
 refine F.fq jU 0#a
 obtain ⟨a,ns,i,l,U,rfl,hS,h0,h1,hl,hz,ag,k⟩:=h
 apply bI ⟨_,(aq (aV 3 jU.nd (cg rV hr 0#A 0#H)) (aq (aV 4 jU.nd 0#X) (aq (aV 5 jU.nd (fM gT)) (aq (iV j9 rfl (E1 rfl T.range (cP (ir K T.kK 0#P))) (cG (i:=6) jU.nd rfl 0#D) (aA (bK (bx oZ 0#X (aX FI aH aH) 1#a) (aA (dB (d9 K (aa 5) (aX kq (cg vK hr 0#X (aa 6)) (cY (lX K) 0#P (aa 6) 0#B))) (hs:=cU))) (aA (bK (bx iF (aa 4) aH 1#a) (aq (dB (d9 K (aa 5) (aX kq (aa 4) (cY (lX K) 0#P (aa 6) 0#B))) (hs:=cU)) (aA (aV 4 jU.nd (aX fQ (aa 4) (cY (lX K) 0#P (aa 6) 0#B))))) (aq (aV 7 jU.nd (cg rV hr 0#A (aX kq (aX dN (aX dN 0#H aH) (aa 6)) aH))) (aA (dB (d9 K (aa 5) (aX kq (cg vK hr (aa 7) (aa 6)) (cY (lX K) 0#P (aa 6) 0#B))) (hs:=cU))))))))) (aA (aW (aa 5))))))),?_⟩
 apply ⟨a,ns,i,rfl,hS,h0,by try?,λc H1 Z=>?_⟩
 apply aG (mk:=.lst) 0#w λp H2 s2 n2 e2=>?_
 have ae:H2 l=some (.lst (U.map V.int)):=s2 _ _ (Z _ _ hl)
 refine ⟨_,rfl,l,_,rfl,.inl (bS.of ae),_,rfl,by lia,by rw [iI];lia,iP (λj σ J=>Xs4 λ(left:Int) (G:List Int) (O R:Option V)=>
  σ=[some (.ref a),some (.int i),some (.ref l),some (.int c),some (.int left),some (.ref p),O,R]/\ao H1 J/\J p=some (.lst (G.map V.int))/\G.length=j/\(∀(j:Nat) (x z:Int),G[j]?=some x->U[j]?=some z->0<=x/\x<z)) ?_ ?_ ?_⟩
 ·exact ⟨c,[],none,none,rfl,s2,e2,rfl,λj x z e _=>by simp at e⟩
 ·rintro j σ J hj ⟨left,G,O,R,rfl,s3,e3,hx,M⟩
  have ad:j<U.length:=by simpa using hj
  obtain ⟨z,ez⟩:∃z,U[j]?=some z:=⟨_,jE ad⟩
  obtain ⟨zp,zq⟩:=ag z (g8 ez)
  have I:J l=some (.lst (U.map V.int)):=s3 _ _ (Z _ _ hl)
  have ea:uD (U.map V.int) (0+(j:Int))=some (.int z):=eW ez 0#u
  have ac:bS K J a 1#i:=(Z.trans s3).seq hS
    -- one more item
  have L:∀(y v:Int) (O R:Option V) (Y:Hp),ao J Y->Y p=some (.lst (G.map V.int))->Xs4 λ(left:Int) (S:List Int) (ai aj:Option V)=>
   [some (.ref a),some (.int i),some (.ref l),some (.int c),some (.int v),some (.ref p),O,R]=[some (.ref a),some (.int i),some (.ref l),some (.int c),some (.int left),some (.ref p),ai,aj] /\
   ao H1 (upd Y p (.lst (G.map V.int++[.int (y % z)])))/\upd Y p (.lst (G.map V.int++[.int (y % z)])) p=some (.lst (S.map V.int))/\S.length=j+1/\(∀(j:Nat) (x z:Int),S[j]?=some x->U[j]?=some z->0<=x/\x<z):=by
   intro y v O R Y N e4
   refine ⟨v,G++[y % z],O,R,rfl,bP (s3.trans N) n2,?_,by rw [jf,hx];rfl,λm x z' e1 e2=>?_⟩
   ·rw [au,jM];rfl
   ·by_cases hm:m<G.length
    ·rw [Mr hm] at e1
     exact M m x z' e1 e2
    ·have af:m=j:=by
      have:=(tP.mp e1).1
      rw [jf] at this
      simp at this
      try?
     subst af
     rw [Sg 0#u,hx] at e1
     simp at e1
     rw [ez] at e2
     cases e2
     subst e1
     exact ⟨As _ 0#u,IK _ zp⟩
  have Ru:(G.map V.int).length<sizeLine:=by rw [iI];exact bg 0#u
  rw?
  refine cJ (λ_=>?_) (λ_=>?_)
  ·rw?
   apply ⟨.inl ⟨rfl,_,bS.of e3⟩,?_⟩
   apply ⟨_,_,rfl,by try?,by try?,λy=>?_⟩
   refine ie I ea ?_
   apply jP (show (0:Int)<z from zp) ?_
   refine gB e3 Ru ?_
   exact L y _ _ _ _ 0#V e3
  ·rw?
   refine cJ (λ_=>?_) (λ_=>?_)
   ·rw?
    apply ⟨.inl ⟨rfl,_,bS.of e3⟩,?_⟩
    refine ie I ea ?_
    apply jP (show (0:Int)<z from zp) ?_
    apply gB e3 Ru ?_
    refine ie (by rw [aF (bT (Z _ _ hl) n2)];exact I) ea ?_
    refine jP (show Ed _ _ from ⟨by try?,Sz.log (m:=60) (Sz.of_lt (k:=2 ^ 60) 0#u (gI _)) 0#y 0#y⟩) ?_
    exact L left _ _ _ _ 0#V e3
   ·rw?
    have q0:0<=(i+1+(0+(j:Int))) % 63:=As _ 0#y
    have q1:(i+1+(0+(j:Int))) % 63<63:=IK _ 0#y
    apply ⟨a,ns,_,rfl,ac,q0,by try?,λc2 Y N=>?_⟩
    apply ⟨.inl ⟨rfl,_,bS.of (N _ _ e3)⟩,?_⟩
    apply ⟨_,_,rfl,by try?,by try?,λy=>?_⟩
    refine ie (N _ _ I) ea ?_
    apply jP (show (0:Int)<z from zp) ?_
    refine gB (N _ _ e3) Ru ?_
    exact L y _ _ _ _ N (N _ _ e3)
 ·rintro σ J ⟨left,G,O,R,rfl,s3,e3,hx,M⟩
  rw?
  exact k p G J (Z.trans s3) (Z.free n2) e3 (by simpa using hx) M
def tD:dR 2 [dD,cZ,"_law_one","_law_two"] u7:=0#t
def K0 (F:fU K "_law_ratio" u7 f fd) (T:Txt mg):0#b 1 f fd [dD,cZ] L7:=by
 refine F.fq tD 0#a
 obtain ⟨t,b,rfl,I,J,k⟩:=h
 apply bI ⟨_,(aq (Jd.Lh (i:=2) (j:=3) rfl tD.nd rfl rfl 0#y rfl rfl (bN (eE Hy rfl T.Hz II (cP 0#A) (he:=bH) (hpl:=bZ)) 0#H) rfl) (aq (Jd.mC j9 (bx iF 0#X aH 1#a) (aA (Jd.Lh (i:=2) (j:=3) rfl tD.nd rfl rfl 0#y rfl rfl (bN 0#X (aX kq 0#P 0#X)) rfl))) (aA (aW (b9 (bN (aX fQ 0#A 0#P) (aX fQ 0#H 0#P))))))),?_⟩
 have hgb:cL t b<=b.natAbs:=by
  have:=Int.gcd_le_right (a:=t) (b:=b) 0#u
  try?
 refine Aq (λz H'=>H'=H/\Xs2 λx y:Nat=>z=[some (.int t),some (.int b),some (.int x),some (.int y)]/\OW x y=cL t b) (λz _=>ack z) ?_ ?_ ?_
 ·refine ⟨rfl,t.natAbs,b.natAbs,?_,rfl⟩
  rw [mq]
  have e:b=((b.natAbs:Nat):Int):=by try?
  rw [<- e]
  rfl
 ·rintro z H' ⟨rfl,x,y,rfl,B⟩
  rw?
  refine cJ 0#K 0#K
  ·have G:(0:Int)<(y:Int):=kO c
   rw?
   refine ⟨⟨rfl,y,x % y,?_,by rw [M4];exact B⟩,?_⟩
   ·rw [<- Tf];rfl
   ·show ((x:Int) % (y:Int)).toNat<(y:Int).toNat
    rw [Tf]
    have:=aeq x (y:=y) 0#u
    try?
  ·have G:¬(0:Int)<(y:Int):=jF (gH.mpr c)
   have M:y=0:=by try?
   subst M
   rw [ac2] at B
   subst B
   have gp:0<cL t b:=Sf t 0#u
   have cd:Ed t ((cL t b:Nat):Int):=⟨by try?,Sz.log (m:=8000) (Sz.of_le J 0#u) 0#y 0#y⟩
   rw?
   refine aG (mk:=.tup) 0#w λp D L n1 e1=>?_
   exact k p _ _ D L e1 (KG I)
 ·intro z H Q Q' h q
  obtain ⟨v,e,i,j,e1,e2,b,e3,q⟩:=q
  exact ⟨v,e,i,j,e1,e2,b,e3,h _ _ q⟩
def ck (H:Hp) (p:ah) (q:Rat) (n:Nat):Prop:=∃t b:Int,H p=some (.tup [.int t,.int b])/\Qt t b q/\Sz n t/\Sz n b
def c8 (H:Hp) (p:ah) (q:Rat) (n:Nat):Prop:=∃t b:Int,H p=some (.tup [.int t,.int b])/\Fr t b q/\Sz n t/\Sz n b
def jl (H:Hp) (p:ah) (m:Int) (q:Rat) (n:Nat):Prop:=∃v:ah,H p=some (.tup [.int m,.ref v])/\c8 H v q n/\Sz n m
def j8 (H:Hp) (p:ah) (s h:Rat) (n:Nat):Prop:=∃a b:ah,H p=some (.tup [.ref a,.ref b])/\c8 H a s n/\c8 H b h n
def c8.qt (f:c8 H p q n):ck H p q n:=let ⟨t,b,e,f,z⟩:=f;⟨t,b,e,f.qt,z⟩
def ck.mono (f:ck H p q m) (h:m<=n):ck H p q n:=let ⟨t,b,e,f,z1,z2⟩:=f;⟨t,b,e,f,z1.mono h,z2.mono h⟩
def c8.mono (f:c8 H p q m) (h:m<=n):c8 H p q n:=let ⟨t,b,e,f,z1,z2⟩:=f;⟨t,b,e,f,z1.mono h,z2.mono h⟩
def ck.up (f:ck H p q n) (s:ao H H'):ck H' p q n:=let ⟨t,b,e,f⟩:=f;⟨t,b,s _ _ e,f⟩
def c8.up (f:c8 H p q n) (s:ao H H'):c8 H' p q n:=let ⟨t,b,e,f⟩:=f;⟨t,b,s _ _ e,f⟩
def jl.up (f:jl H p t q n) (s:ao H H'):jl H' p t q n:=let ⟨v,e,f,z⟩:=f;⟨v,s _ _ e,f.up s,z⟩
def j8.up (f:j8 H p q h n) (s:ao H H'):j8 H' p q h n:=let ⟨a,b,e,f,g⟩:=f;⟨a,b,s _ _ e,f.up s,g.up s⟩
def c8.den (f:c8 H p q n):∃t b:Int,Den H (.ref p) (.tuple [.int t,.int b])/\Fr t b q:=let ⟨t,b,e,f,_⟩:=f;⟨t,b,.tup e (.cons (.int _) (.cons (.int _) .nil)),f⟩
inductive L5 (vs:List V) (H:Hp) (Q:VK) (E_:XK):Prop where
 | mk (m n:Int):vs=[.int m,.int n]->0<=m->0<=n->Q (.int (cL m n:Nat)) H->L5 vs H Q E_
inductive Mc (vs:List V) (H:Hp) (Q:VK) (E_:XK):Prop where
 | mk (m n:Int):vs=[.int m,.int n]->0<=n->n<=m->m<115792089237316195423570985008687907853269984665640564039457584007913129639936->(∀(p:ah) (x0 y0 x1 y1 high low:Int) (H':Hp),ao H H'->H' p=some (.tup [.int x0,.int y0,.int x1,.int y1])->jI m n high low x0 y0 x1 y1->low<=340282366920938463463374607431768211456->Q (.ref p) H')->Mc vs H Q E_
inductive BO (vs:List V) (H:Hp) (Q:VK) (E_:XK):Prop where
 | mk (m n:Int):vs=[.int m,.int n]->Sz 8000 m->Sz 8000 n->(∀H',ao H H'->Q (.int (cL m n:Nat)) H')->BO vs H Q E_
inductive Aj (vs:List V) (H:Hp) (Q:VK) (E_:XK):Prop where
 | mk (t b:Int):vs=[.int t,.int b]->b≠0->Sz 8000 t->Sz 8000 b->(∀(p:ah) (t' b':Int) (H':Hp),ao H H'->H' p=some (.tup [.int t',.int b'])->Low t b t' b'->Q (.ref p) H')->Aj vs H Q E_
inductive BV (vs:List V) (H:Hp) (Q:VK) (E_:XK):Prop where
 | mk (p:ah) (q:Rat) (n:Nat):vs=[.ref p]->ck H p q n->n<=8000->(∀(r:ah) (H':Hp),ao H H'->c8 H' r q n->Q (.ref r) H')->BV vs H Q E_
inductive j7 (f:Rat->Rat->Rat) (k:Nat) (vs:List V) (H:Hp) (Q:VK) (E_:XK):Prop where
 | mk (p r:ah) (q q':Rat) (m n:Nat):vs=[.ref p,.ref r]->ck H p q m->ck H r q' n->m+n<=100000->(∀(s:ah) (H':Hp),ao H H'->ck H' s (f q q') (m+n+k)->Q (.ref s) H')->j7 f k vs H Q E_
inductive tF (f:Rat->Rat->Rat) (k:Nat) (vs:List V) (H:Hp) (Q:VK) (E_:XK):Prop where
 | mk (p r:ah) (q q':Rat) (m n:Nat):vs=[.ref p,.ref r]->ck H p q m->ck H r q' n->m+n+k<=8000->(∀(s:ah) (H':Hp),ao H H'->c8 H' s (f q q') (m+n+k)->Q (.ref s) H')->tF f k vs H Q E_
inductive RI (vs:List V) (H:Hp) (Q:VK) (E_:XK):Prop where
 | mk (p r:ah) (q q':Rat) (m n:Nat):vs=[.ref p,.ref r]->ck H p q m->ck H r q' n->m+n<=8000->q'≠0->(∀(s:ah) (H':Hp),ao H H'->c8 H' s (q/q') (m+n)->Q (.ref s) H')->RI vs H Q E_
inductive Ai (vs:List V) (H:Hp) (Q:VK) (E_:XK):Prop where
 | mk (p r:ah) (t t':Int) (q q':Rat) (n:Nat):vs=[.ref p,.ref r]->jl H p t q n->jl H r t' q' n->t≠t'->n<=2000->(∀(s:ah) (H':Hp),ao H H'->ck H' s ((q'-q)/((t'-t:Int):Rat)) (4*n+3)->Q (.ref s) H')->Ai vs H Q E_
inductive Mb (vs:List V) (H:Hp) (Q:VK) (E_:XK):Prop where
 | mk (p r:ah) (t t':Int) (q q':Rat) (n:Nat):vs=[.ref p,.ref r]->jl H p t q n->jl H r t' q' n->t≠t'->n<=1000->(∀(s:ah) (H':Hp),ao H H'->c8 H' s ((q'-q)/((t'-t:Int):Rat)) (4*n+3)->Q (.ref s) H')->Mb vs H Q E_
inductive GB (vs:List V) (H:Hp) (Q:VK) (E_:XK):Prop where
 | mk (p r:ah) (s q:Rat) (t u:Int) (m n:Nat):vs=[.ref p,.ref r,.int u]->ck H p s m->jl H r t q n->Sz n u->m<=20000->n<=20000->(∀(x:ah) (H':Hp),ao H H'->ck H' x (q+s*((u-t:Int):Rat)) (m+2*n+2)->Q (.ref x) H')->GB vs H Q E_
def fO:dR 2 [aT,aI,dQ,"rest","left"] nC:=0#t
def Bo (F:fU K "plain_divisor" nC f fd) (T:Txt mg):0#b 1 f fd [aT,aI] L5:=by
 refine F.fq fO 0#a
 obtain ⟨m,n,rfl,hm,hn,k⟩:=h
 apply bI ⟨_,(aq (aV 2 fO.nd 0#A) (aq (aV 3 fO.nd 0#H) (aq (Jd.mC j9 (bx ahS 0#X aH 1#a) (aq (aV 4 fO.nd (aX kq 0#P 0#X)) (aq (aV 2 fO.nd 0#X) (aA (aV 3 fO.nd (aa 4)))))) (aA (aW 0#P))))),?_⟩
 refine Aq (λz H'=>H'=H/\Xs3 λ(x y:Nat) (v:Option V)=>z=[some (.int m),some (.int n),some (.int x),some (.int y),v]/\OW x y=cL m n) (λz _=>ack z) ?_ ?_ ?_
 ·refine ⟨rfl,m.natAbs,n.natAbs,none,?_,rfl⟩
  rw [show ((m.natAbs:Nat):Int)=m by try?,show ((n.natAbs:Nat):Int)=n by try?]
  rfl
 ·rintro z H' ⟨rfl,x,y,v,rfl,B⟩
  rw?
  refine cJ 0#K 0#K
  ·have D:¬(y:Int)=0:=by simpa using c
   rw?
   refine ⟨⟨rfl,y,x % y,some (.int ((x % y:Nat):Int)),?_,by rw [M4];exact B⟩,?_⟩
   ·rw [Tf];rfl
   ·show ((x:Int) % (y:Int)).toNat<(y:Int).toNat
    rw [Tf]
    have:=aeq x (y:=y) 0#u
    try?
  ·have D:(y:Int)=0:=by simpa using c
   have I:y=0:=by try?
   subst I
   rw [ac2] at B
   subst B
   rw?
   exact k
 ·intro z H Q Q' h q
  obtain ⟨v,e,G,b,e3,q⟩:=q
  exact ⟨v,e,G,b,e3,h _ _ q⟩
def cA:dR 2 ["high","low","ahead","now","many","left","behind"] lQ:=0#t
def zJ (F:fU K "steps_of_heads" lQ f fd) (xA:Cn mg "HEAD" 256):0#b 1 f fd ["high","low"] Mc:=by
 refine F.fq cA 0#a
 obtain ⟨G,ld,rfl,h0,h1,h2,k⟩:=h
 apply bI ⟨_,(aq (aV 2 cA.nd (b9 (bN aH aH))) (aq (aV 3 cA.nd (b9 (bN aH aH))) (aq (Jd.mC j9 (bx iF (Jd.zK 0#H) (aX fQ (Jd.FL rfl xA) aH) 1#a) (aq (aV 4 cA.nd (aX fQ 0#A 0#H)) (aq (aV 5 cA.nd (aX dF 0#A (aX bE (aa 4) 0#H))) (aq (aV 0 cA.nd 0#H) (aq (aV 1 cA.nd (aa 5)) (aq (aV 6 cA.nd (b9 (bN (aX dF (aO K 0#P) (aX bE (aa 4) (aO K 0#X))) (aX dF (aO K 0#P) (aX bE (aa 4) (aO K 0#X)))))) (aq (aV 2 cA.nd 0#X) (aA (aV 3 cA.nd (aa 6)))))))))) (aA (aW (aX (agZ K) 0#P 0#X)))))),?_⟩
 apply aG (mk:=.tup) 0#w λL Ha sa na Z=>?_
 apply aG (mk:=.tup) 0#w λI Hn sn nn en=>?_
 refine Aq (λR H'=>ao H H'/\agV λ(high low M N B D:Int) (L I:ah) (v4 v5 v6:Option V)=>R=[some (.int high),some (.int low),some (.ref L),some (.ref I),v4,v5,v6] /\
  H' L=some (.tup [.int M,.int N])/\H' I=some (.tup [.int B,.int D])/\jI G ld high low M N B D) (λR _=>Wt 1 R) ?_ ?_ ?_
 ·exact ⟨sa.trans sn,G,ld,1,0,0,1,L,I,none,none,none,rfl,sn _ _ Z,en,jI.init h0 h1⟩
 ·rintro R H' ⟨sH,high,low,M,N,B,D,L,I,v4,v5,v6,rfl,Z,en,S⟩
  rw?
  apply jP ⟨by decide,by decide⟩ ?_
  refine cJ 0#K 0#K
  ·have J:=kO c
   rw [show Int.fdiv 256 2=128 by decide] at J
   have z:=Vh J S.l0
   have hq:=S.step z rfl
   have hH:G.natAbs<2 ^ 256:=by
    have:(2:Nat) ^ 256=115792089237316195423570985008687907853269984665640564039457584007913129639936:=by decide
    try?
   have zl:Sz 256 ld:=Sz.of_le (m:=256) (x:=G) hH 0#u
   have zh:Sz 256 high:=Sz.of_le (m:=256) (x:=G) hH (by have:=S.aaM h1;have:=S.lh;have:=S.l0;try?)
   have U:=S.afO (by have:=S.lh;try?)
   have zx:Sz 256 B:=Sz.of_le zl U.1
   have zy:Sz 256 D:=Sz.of_le (m:=256) (x:=G) hH U.2
   have O:Sz 256 low:=zh.of_le (by have:=S.lh;have:=S.l0;try?)
   have eq:high.fdiv low=high/low:=Hg _ S.l0
   have zq:Sz 256 (high/low):=zh.of_le (WA (by have:=S.lh;have:=S.l0;try?) S.l0)
   rw?
   refine jP ⟨by try?,O.log 0#y 0#y⟩ ?_
   rw [eq]
   rw?
   apply jP (dG zq O) ?_
   apply jP (dG zq zx) ?_
   apply jP (dG zq zy) ?_
   apply aG (mk:=.tup) 0#w λpb Hb Y U eb=>?_
   refine ⟨⟨sH.trans Y,low,high-high/low*low,B,D,M-high/low*B,N-high/low*D,I,pb,_,_,_,rfl,Y _ _ en,eb,hq⟩,?_⟩
   show (high-high/low*low).toNat<low.toNat
   have e:=Uc high low
   rw [xh] at e
   have:=IK high (b:=low) 0#u
   try?
  ·have J:=jF (gH.mpr c)
   rw [show Int.fdiv 256 2=128 by decide] at J
   have z:=Ni J
   rw?
   refine Yh Z en ?_
   refine aG (mk:=.tup) 0#w λpb Hb Y U eb=>?_
   exact k pb M N B D high low Hb (sH.trans Y) eb S 0#u
 ·intro R H Q Q' h q
  obtain ⟨v,e,a1,a2,i,a3,m,n,e1,e2,hc,m',n',e3,e4,b,e5,q⟩:=q
  exact ⟨v,e,a1,a2,i,a3,m,n,e1,e2,hc,m',n',e3,e4,b,e5,h _ _ q⟩
def gP:dR 2 [aT,aI,dQ,"rest","tail","steps","ahead","now"] BA:=0#t
def Qu (F:fU K "divisor" BA f fd) (T:Txt mg) (xA:Cn mg "HEAD" 256) (mY:0#c 1 "plain_divisor" [aT,aI] L5) (lD:0#c 1 "steps_of_heads" ["high","low"] Mc) :
 bf P w K mg base dw 2 f fd [aT,aI] BO:=by
 refine F.fq gP 0#a
 obtain ⟨m,n,rfl,zm,zn,k⟩:=h
 apply bI ⟨_,(aq (aV 2 gP.nd (eE (afL rfl) rfl T.aa7 Ud (bN (eE Hy rfl T.Hz II (cP 0#A) (he:=bH) (hpl:=bZ)) (eE Hy rfl T.Hz II (cP 0#H) (he:=bH) (hpl:=bZ))) (he:=yF) (hpl:=(cO yF bZ)))) (aq (aV 3 gP.nd (eE (aa8 rfl) rfl T.aa9 Ue (bN (eE Hy rfl T.Hz II (cP 0#A) (he:=bH) (hpl:=bZ)) (eE Hy rfl T.Hz II (cP 0#H) (he:=bH) (hpl:=bZ))) (he:=yF) (hpl:=(cO yF bZ)))) (aq (Jd.mC j9 (bx iF (Jd.zK 0#X) (Jd.FL rfl xA) 1#a) (aq (aV 4 gP.nd (aX dF (Jd.zK 0#P) (Jd.FL rfl xA))) (aq (aV 5 gP.nd (cg lD hr (aX XS 0#P (aa 4)) (aX XS 0#X (aa 4)))) (aq (bK (bx cN (aO K (aa 5)) aH 1#a) (aA (aV 5 gP.nd (b9 (Jd.a4 aH aH aH (iu eG (aX fQ 0#P 0#X)))))) bL) (aq (aV 6 gP.nd (eE Hy rfl T.Hz II (cP (aX dN (aX bE (aO K (aa 5)) 0#P) (aX bE (aO K (aa 5)) 0#X))) (he:=YL) (hpl:=bZ))) (aq (aV 7 gP.nd (eE Hy rfl T.Hz II (cP (aX dN (aX bE (aO K (aa 5)) 0#P) (aX bE (aO K (aa 5)) 0#X))) (he:=YL) (hpl:=bZ))) (aq (aV 2 gP.nd (eE (afL rfl) rfl T.aa7 Ud (bN (aa 6) (aa 7)) (he:=bH) (hpl:=(cO bH bZ)))) (aA (aV 3 gP.nd (eE (aa8 rfl) rfl T.aa9 Ue (bN (aa 6) (aa 7)) (he:=bH) (hpl:=(cO bH bZ)))))))))))) (aA (aW (cg mY hr 0#P 0#X)))))),?_⟩
 rw [mq,mq]
 refine Aq (λL H'=>ao H H'/\Xs6 λ(x y:Int) (v4 v5 v6 v7:Option V)=>L=[some (.int m),some (.int n),some (.int x),some (.int y),v4,v5,v6,v7] /\
  0<=y/\y<=x/\cL x y=cL m n/\Sz 8001 (x+y)) (λL _=>Wt 2 L+Wt 3 L) ?_ ?_ ?_
 ·refine ⟨ao.refl _,_,_,none,none,none,none,rfl,?_,?_,(xR rfl rfl).trans ?_,?_⟩
  ·exact Xx _ _
  ·exact Xw _ _
  ·rfl
  ·have z:=(zm.of_le (y:=(m.natAbs:Int)) 0#w).add (zn.of_le (y:=(n.natAbs:Int)) 0#w)
   exact z.of_le (Qk 0#u)
 ·rintro L H' ⟨Z,x,y,v4,v5,v6,v7,rfl,D,I,Y,O⟩
  have zx:Sz 8001 x:=O.of_le 0#u
  have R:Sz 8001 y:=O.of_le 0#u
  rw?
  refine cJ 0#K 0#K
  ·have c':=kO c
   obtain ⟨t,ht,lo,hi⟩:=P0 c' D I
   have tp:(0:Int)<2 ^ t:=Z9 0#y
   have hd:=SX lo hi
   have N:1<=y:=by
    have:(256:Int)<(wC y:Nat):=c'
    by_cases e:y=0
    ·subst e;simp [wC] at this
    ·try?
   rw?
   apply jP (show (0:Int)<=_ by try?) ?_
   apply jP (show (0:Int)<=_ by try?) ?_
   rw [show ((wC x:Nat)-256:Int).toNat=t by try?]
   apply ⟨x/2 ^ t,y/2 ^ t,rfl,adB D 0#u,ZE tp I,hd.2,λps x0 G x1 y1 high low H1 s1 e1 S hl=>?_⟩
   refine cJ (λc2=>?_) (λc2=>?_)
   ·have c3:G=0:=kO c2
    have zq:Sz 8001 (x.fdiv y):=by
     rw [Hg _ D]
     exact zx.of_le (WA 0#u D)
    rw?
    apply jP ⟨by try?,R.log 0#y 0#y⟩ ?_
    refine aG (mk:=.tup) 0#w λp2 H2 s2 n2 e2=>?_
    have J:=(Z.trans s1).trans s2
    have za:Sz 8001 (0:Int):=by decide
    have zb:Sz 8001 (1:Int):=by decide
    have zc:Sz 8001 (1:Int):=zb
    have zd:Sz 8001 (-(x.fdiv y)):=zq.neg
    have U:cL (0*x+1*y) (1*x+-(x.fdiv y)*y)=cL x y:=SV (.inr 0#u)
    have M:=aax N I
    rw?
    apply jP (dG zd R) ?_
    simp only [mq]
    refine ⟨⟨J,_,_,_,_,_,_,rfl,?_,?_,(xR rfl rfl).trans (U.trans Y),?_⟩,?_⟩
    ·exact Xx _ _
    ·exact Xw _ _
    ·exact O.of_le (Qk (ab5 M D I))
    ·exact ab4 M D I
   ·have c3:G≠0:=jF (gH.mpr c2)
    have J:=Z.trans s1
    have sm:=S.small c3 (ZE tp I) hd.2
    have B:(340282366920938463463374607431768211456:Nat)<2 ^ 8001:=by decide +kernel
    have za:Sz 8001 x0:=Mt sm.1 B
    have zb:Sz 8001 G:=Mt sm.2.1 B
    have zc:Sz 8001 x1:=Mt sm.2.2.1 B
    have zd:Sz 8001 y1:=Mt sm.2.2.2 B
    have U:cL (x0*x+G*y) (x1*x+y1*y)=cL x y:=S.gcd
    have M:=PZ S c3 I lo hi rfl rfl hl
    rw?
    apply jP (dG za zx) ?_
    apply jP (dG zb R) ?_
    apply jP (dG zc zx) ?_
    apply jP (dG zd R) ?_
    simp only [mq]
    refine ⟨⟨J,_,_,_,_,_,_,rfl,?_,?_,(xR rfl rfl).trans (U.trans Y),?_⟩,?_⟩
    ·exact Xx _ _
    ·exact Xw _ _
    ·exact O.of_le (Qk (ab5 M D I))
    ·exact ab4 M D I
  ·rw?
   refine ⟨x,y,rfl,by try?,D,?_⟩
   rw [Y]
   exact k H' Z
 ·intro L H Q Q' h q
  obtain ⟨v,e,a1,a2,i,a3,m',n',e3,e4,b,e5,q⟩:=q
  exact ⟨v,e,a1,a2,i,a3,m',n',e3,e4,b,e5,h _ _ q⟩
def rN:dR 2 ["top",cK,"shared"] D6:=0#t
def Jm (hb:b≠0):Low t b (t.fdiv (if b<0 then -(cL t b:Int) else (cL t b:Int))) (b.fdiv (if b<0 then -(cL t b:Int) else (cL t b:Int))):=by
 by_cases h:b<0
 ·rw [if_pos h]
  have l:=aa5 (t:=t) h
  exact ⟨l.pos,l.co,by have:=l.eq;rw [Z8,UI] at this;try?,by rw [<- G3 t];exact l.tb,by rw [<- G3 b];exact l.bb⟩
 ·rw [if_neg h]
  exact KG 0#u
abbrev aai P w K mg base:=Dn P w K mg base 2 "divisor" [aT,aI] BO
def XI (F:fU K "ratio" D6 f fd) (T:Txt mg) (gh:aai P w K mg base):0#b 3 f fd ["top",cK] Aj:=by
 refine F.fq rN 0#a
 obtain ⟨t,b,rfl,G,I,L,k⟩:=h
 apply bI ⟨_,(aq (bK (bx cN 0#H aH 1#a) (aA Jd.o4) bL) (aq (aV 2 rN.nd (cg gh hr 0#A 0#H)) (aq (bK (bx oZ 0#H aH 1#a) (aA (aV 2 rN.nd (iu eG 0#P))) bL) (aA (aW (b9 (bN (aX fQ 0#A 0#P) (aX fQ 0#H 0#P)))))))),?_⟩
 rw [mJ G]
 apply bO ?_
 refine ⟨t,b,rfl,I,L,λH0 M=>?_⟩
 have gp:0<cL t b:=Sf t G
 have hgb:cL t b<=b.natAbs:=ZS 0#u (ZC _ _)
 have v:∀x:Int,Ed x (if b<0 then -(cL t b:Int) else (cL t b:Int)):=λx=>by
  refine ⟨by split <;> try?,Sz.log (m:=8000) (Sz.of_le L ?_) 0#y 0#y⟩
  split <;> try?
 have B:=Jm (t:=t) G
 rw?
 refine cJ 0#K 0#K
 ·have z:=kO c
  rw [if_pos z] at B
  simp only [if_pos z] at v
  rw?
  apply jP (v t) ?_
  apply jP (v b) ?_
  refine aG (mk:=.tup) 0#w λp D J N e1=>?_
  exact k p _ _ D (M.trans J) e1 B
 ·have z:=jF (gH.mpr c)
  rw [if_neg z] at B
  simp only [if_neg z] at v
  rw?
  apply jP (v t) ?_
  apply jP (v b) ?_
  refine aG (mk:=.tup) 0#w λp D J N e1=>?_
  exact k p _ _ D (M.trans J) e1 B
def Rp:dR 1 ["quotient"] BE:=0#t
def Qz (F:fU K "reduced" BE f fd) (vL:0#c 3 "ratio" ["top",cK] Aj):0#b 4 f fd ["quotient"] BV:=by
 refine F.fq Rp 0#a
 obtain ⟨p,q,n,rfl,⟨t,b,hp,B,G,D⟩,z,k⟩:=h
 refine bI ⟨_,(aA (aW (cg vL hr 1#d 1#d))),?_⟩
 have hb:=B.pos
 rw?
 refine ⟨t,b,rfl,by try?,G.mono z,D.mono z,λr M J I L e1 v=>?_⟩
 exact k r I L ⟨M,J,e1,Fr.Qn v 0#u B.eq,G.of_le v.tb,D.of_le v.bb⟩
def IC:dR 2 [aT,aI] sZ:=0#t
def Ip (F:fU K "loose_plus" sZ f fd):0#b 1 f fd [aT,aI] (j7 (·+·) 1):=by
 refine F.fq IC 0#a
 obtain ⟨p,r,q,q',m,n,rfl,⟨a,b,hp,J,D,v⟩,⟨c,d,hr',B,G,z⟩,hn,k⟩:=h
 apply bI ⟨_,(aA (aW (b9 (bN (aX dN (aX bE 1#d (aO K 0#H)) (aX bE (aO K 0#H) 1#d)) (aX bE 1#d (aO K 0#H)))))),?_⟩
 apply jP (dG D z 0#u) ?_
 apply jP (dG G v 0#u) ?_
 apply jP (dG v z 0#u) ?_
 refine aG (mk:=.tup) 0#w λx I L n1 e1=>?_
 exact k x I L ⟨_,_,e1,J.plus B,(D.mul z).add ((G.mul v).mono 0#u),(v.mul z).mono 0#u⟩
def vo:dR 2 [aT,aI] mj:=0#t
def FA (F:fU K "loose_minus" mj f fd):0#b 1 f fd [aT,aI] (j7 (·-·) 1):=by
 refine F.fq vo 0#a
 obtain ⟨p,r,q,q',m,n,rfl,⟨a,b,hp,J,D,v⟩,⟨c,d,hr',B,G,z⟩,hn,k⟩:=h
 apply bI ⟨_,(aA (aW (b9 (bN (aX dF (aX bE 1#d (aO K 0#H)) (aX bE (aO K 0#H) 1#d)) (aX bE 1#d (aO K 0#H)))))),?_⟩
 apply jP (dG D z 0#u) ?_
 apply jP (dG G v 0#u) ?_
 apply jP (dG v z 0#u) ?_
 refine aG (mk:=.tup) 0#w λx I L n1 e1=>?_
 exact k x I L ⟨_,_,e1,J.minus B,(D.mul z).sub ((G.mul v).mono 0#u),(v.mul z).mono 0#u⟩
def Gp:dR 2 [aT,aI] qJ:=0#t
def FG (F:fU K "loose_times" qJ f fd):0#b 1 f fd [aT,aI] (j7 (·*·) 0):=by
 refine F.fq Gp 0#a
 obtain ⟨p,r,q,q',m,n,rfl,⟨a,b,hp,J,z,B⟩,⟨c,d,hr',v,D,G⟩,hn,k⟩:=h
 apply bI ⟨_,(aA (aW (b9 (bN (aX bE 1#d (aO K 0#H)) (aX bE 1#d (aO K 0#H)))))),?_⟩
 apply jP (dG z D 0#u) ?_
 apply jP (dG B G 0#u) ?_
 refine aG (mk:=.tup) 0#w λx I L n1 e1=>?_
 exact k x I L ⟨_,_,e1,J.times v,z.mul D,B.mul G⟩
inductive wc (vs:List V) (H:Hp) (Q:VK) (E_:XK):Prop where
 | mk (p r:ah) (s h x:Rat) (m n:Nat):vs=[.ref p,.ref r]->j8 H p s h n->ck H r x m->m<=20000->n<=20000->(∀(z:ah) (H':Hp),ao H H'->ck H' z (s*x+h) (m+2*n+1)->Q (.ref z) H')->wc vs H Q E_
inductive Gz (vs:List V) (H:Hp) (Q:VK) (E_:XK):Prop where
 | mk (p r:ah) (s h x:Rat) (m n:Nat):vs=[.ref p,.ref r]->j8 H p s h n->ck H r x m->m+2*n+1<=8000->(∀(z:ah) (H':Hp),ao H H'->c8 H' z (s*x+h) (m+2*n+1)->Q (.ref z) H')->Gz vs H Q E_
inductive RD (vs:List V) (H:Hp) (Q:VK) (E_:XK):Prop where
 | mk (p r:ah) (s h q:Rat) (t:Int) (m n:Nat):vs=[.ref p,.ref r]->j8 H p s h n->jl H r t q m->1<=m->m<=20000->n<=20000->(∀(z:ah) (H':Hp),ao H H'->ck H' z (q-(s*(t:Rat)+h)) (2*m+2*n+2)->Q (.ref z) H')->RD vs H Q E_
inductive Ah (vs:List V) (H:Hp) (Q:VK) (E_:XK):Prop where
 | mk (p r:ah) (s q:Rat) (t:Int) (m n:Nat):vs=[.ref p,.ref r]->c8 H p s m->jl H r t q n->1<=n->m+2*n+2<=8000->(∀(z r':ah) (H':Hp),ao H H'->H' z=some (.tup [.ref p,.ref r'])->c8 H' r' (q-s*(t:Rat)) (m+2*n+2)->Q (.ref z) H')->Ah vs H Q E_
inductive RG (vs:List V) (H:Hp) (Q:VK) (E_:XK):Prop where
 | mk (p r:ah) (s h s' h':Rat) (n:Nat):vs=[.ref p,.ref r]->j8 H p s h n->j8 H r s' h' n->1<=n->n<=1300->(s=s'->∀H',ao H H'->Q .bM H')->(s≠s'->∀(z a b:ah) (H':Hp),ao H H'->H' z=some (.tup [.ref a,.ref b])->c8 H' a ((h'-h)/(s-s')) (4*n+2)->c8 H' b (s*((h'-h)/(s-s'))+h) (6*n+3)->Q (.ref z) H')->RG vs H Q E_
def ae8 (h:Fr t b q) (h':Fr t' b' q'):tY (.tuple [.int t,.int b]) (.tuple [.int t',.int b'])=decide (q=q'):=by
 have e:tY (.tuple [.int t,.int b]) (.tuple [.int t',.int b'])=(t==t'&&(b==b'&&true)):=rfl
 rw [e]
 by_cases hq:q=q'
 ·subst hq
  obtain ⟨rfl,rfl⟩:=h.unique h'
  simp
 ·rw [mJ hq]
  by_cases e1:t=t'
  ·by_cases e2:b=b'
   ·exact absurd (h.worth h' e1 e2) hq
   ·simp [e2]
  ·simp [e1]
def xY (h:1<=n):Sz n 1:=by
 have:(2:Nat) ^ 1<=2 ^ n:=acO 0#y h
 show aer 1<2 ^ n
 have e:aer 1=1:=rfl
 try?
def vD (h:H p=some (.tup [.int m,.int 1])) (z:Sz n m) (hn:1<=n):ck H p (m:Rat) n:=⟨m,1,h,Qt.whole m,z,xY hn⟩
def Yu:dR 2 [aT,aI] LD:=0#t
abbrev MC P w K mg base:=Dn P w K mg base 4 "reduced" ["quotient"] BV
def XG (F:fU K "minus" LD f fd) (bh:0#c 1 "loose_minus" [aT,aI] (j7 (·-·) 1)) (b8:MC P w K mg base):0#b 5 f fd [aT,aI] (tF (·-·) 1):=by
 refine F.fq Yu 0#a
 obtain ⟨p,r,q,D,m,n,rfl,v,z,B,k⟩:=h
 apply bI ⟨_,(aA (aW (Jd.c1 b8 hr (cg bh hr 0#A 0#H)))),?_⟩
 apply ⟨p,r,q,D,m,n,rfl,v,z,by try?,λx H1 s1 e1=>?_⟩
 refine ⟨x,_,_,rfl,e1,B,λy u s2 e2=>?_⟩
 exact k y u 1#h e2
def abG:dR 2 [aT,aI] Rj:=0#t
def abg (F:fU K "plus" Rj f fd) (cE:0#c 1 "loose_plus" [aT,aI] (j7 (·+·) 1)) (b8:MC P w K mg base):0#b 5 f fd [aT,aI] (tF (·+·) 1):=by
 refine F.fq abG 0#a
 obtain ⟨p,r,q,D,m,n,rfl,v,z,B,k⟩:=h
 apply bI ⟨_,(aA (aW (Jd.c1 b8 hr (cg cE hr 0#A 0#H)))),?_⟩
 apply ⟨p,r,q,D,m,n,rfl,v,z,by try?,λx H1 s1 e1=>?_⟩
 refine ⟨x,_,_,rfl,e1,B,λy u s2 e2=>?_⟩
 exact k y u 1#h e2
def abF:dR 2 [aT,aI] Ri:=0#t
def abf (F:fU K "over" Ri f fd) (vL:0#c 3 "ratio" ["top",cK] Aj):0#b 4 f fd [aT,aI] RI:=by
 refine F.fq abF 0#a
 obtain ⟨p,r,q,q',m,n,rfl,⟨a,b,hp,U,D,G⟩,⟨c,d,hr',v,I,J⟩,L,R,k⟩:=h
 have S:c≠0:=λz=>R (v.Zd.mp z)
 obtain ⟨M,Y⟩:=abl U v S
 apply bI ⟨_,(aA (aW (cg vL hr (aX bE 1#d (aO K 0#H)) (aX bE 1#d (aO K 0#H))))),?_⟩
 apply jP (dG D J 0#u) ?_
 apply jP (dG G I 0#u) ?_
 refine ⟨_,_,rfl,M,(D.mul J).mono L,(G.mul I).mono L,λx t' O N Z e1 B=>?_⟩
 exact k x N Z ⟨t',O,e1,Fr.Qn B M Y,(D.mul J).of_le B.tb,(G.mul I).of_le B.bb⟩
def dI:dR 2 [aT,aI,"rise","step"] jL:=0#t
def FD (F:fU K "loose_slope" jL f fd) (bh:0#c 1 "loose_minus" [aT,aI] (j7 (·-·) 1)):0#b 3 f fd [aT,aI] Ai:=by
 refine F.fq dI 0#a
 obtain ⟨p,r,t,J,q,Y,n,rfl,⟨v,R,S,zt⟩,⟨Z,G,I,L⟩,ht,hn,k⟩:=h
 apply bI ⟨_,(aq (aV 2 dI.nd (cg bh hr (aO K 0#H) 1#d)) (aq (aV 3 dI.nd (aX dF (aO K 0#H) 1#d)) (aq (bK (bx oZ 0#X aH 1#a) (aA (aW (b9 (bN (iu eG (aO K 0#P)) (aX bE (aO K 0#P) (iu eG 0#X)))))) bL) (aA (aW (b9 (bN (aO K 0#P) (aX bE (aO K 0#P) 0#X)))))))),?_⟩
 refine ⟨Z,v,Y,q,n,n,rfl,I.qt,S.qt,by try?,λx H1 s1 e1=>?_⟩
 obtain ⟨a,b,hx,N,O,z⟩:=e1
 have hp1:=s1 _ _ R
 have hr1:=s1 _ _ G
 have B:Sz (n+1) (J-t):=L.sub zt
 rw?
 refine cJ 0#K 0#K
 ·have M:J-t<0:=kO c
  rw?
  apply jP (dG z B.neg 0#u) ?_
  refine aG (mk:=.tup) 0#w λy D s2 U e2=>?_
  exact k y D 1#h ⟨_,_,e2,N.ajJ M,O.neg.mono 0#u,(z.mul B.neg).mono 0#u⟩
 ·have M:¬J-t<0:=jF (gH.mpr c)
  rw?
  apply jP (dG z B 0#u) ?_
  refine aG (mk:=.tup) 0#w λy D s2 U e2=>?_
  exact k y D 1#h ⟨_,_,e2,N.div 0#u,O.mono 0#u,(z.mul B).mono 0#u⟩
def Gm:dR 3 [gK,bF,aM] qH:=0#t
def Fz (F:fU K "loose_along" qH f fd) (cE:0#c 1 "loose_plus" [aT,aI] (j7 (·+·) 1)) (dW:0#c 1 "loose_times" [aT,aI] (j7 (·*·) 0)) :
 bf P w K mg base dw 3 f fd [gK,bF,aM] GB:=by
 refine F.fq Gm 0#a
 obtain ⟨p,r,s',q,t,u,m,n,rfl,D,⟨v,hr',G,J⟩,L,hm,hn,k⟩:=h
 apply bI ⟨_,(aA (aW (cg cE hr (aO K 0#H) (cg dW hr 0#A (b9 (bN (aX dF 0#P (aO K 0#H)) aH)))))),?_⟩
 refine aG (mk:=.tup) 0#w λy H1 s1 n1 e1=>?_
 apply ⟨p,y,s',_,m,n+1,rfl,D.up s1,vD e1 (L.sub J) 0#u,by try?,λx H2 s2 e2=>?_⟩
 refine ⟨v,x,q,_,n,_,rfl,(G.up 1#h).qt,e2,by try?,λz B I e3=>?_⟩
 exact k z B (s1.trans (s2.trans I)) (e3.mono 0#u)
def DB:dR 2 [cR,"when"] pA:=0#t
def Dr (F:fU K "loose_height" pA f fd) (cE:0#c 1 "loose_plus" [aT,aI] (j7 (·+·) 1)) (dW:0#c 1 "loose_times" [aT,aI] (j7 (·*·) 0)) :
 bf P w K mg base dw 3 f fd [cR,"when"] wc:=by
 refine F.fq DB 0#a
 obtain ⟨p,r,s',h',x,m,n,rfl,⟨a,b,G,B,D⟩,I,hm,hn,k⟩:=h
 apply bI ⟨_,(aA (aW (cg cE hr (cg dW hr 1#d 0#H) 1#d))),?_⟩
 refine ⟨a,r,_,_,n,m,rfl,B.qt,I,by try?,λy H1 s1 e1=>?_⟩
 have hp1:=s1 _ _ G
 rw?
 refine ⟨y,b,_,_,_,n,rfl,e1,(D.up s1).qt,by try?,λz v s2 e2=>?_⟩
 exact k z v 1#h (e2.mono 0#u)
def LM:dR 2 [cR,bF] vc:=0#t
def K2 (F:fU K "loose_off" vc f fd) (bh:0#c 1 "loose_minus" [aT,aI] (j7 (·-·) 1)) (gV:0#c 3 "loose_height" [cR,"when"] wc) :
 bf P w K mg base dw 4 f fd [cR,bF] RD:=by
 refine F.fq LM 0#a
 obtain ⟨p,r,s',D,q,t,m,n,rfl,I,⟨v,hr',J,M⟩,G,hm,hn,k⟩:=h
 apply bI ⟨_,(aA (aW (cg bh hr (aO K 0#H) (cg gV hr 0#A (b9 (bN (aO K 0#H) aH)))))),?_⟩
 refine aG (mk:=.tup) 0#w λy H1 s1 n1 e1=>?_
 apply ⟨p,y,s',D,_,m,n,rfl,I.up s1,vD e1 M G,by try?,by try?,λx H2 s2 e2=>?_⟩
 refine ⟨v,x,q,_,m,_,rfl,(J.up 1#h).qt,e2,by try?,λz B L e3=>?_⟩
 exact k z B (s1.trans (s2.trans L)) (e3.mono 0#u)
def Yv:dR 2 [aT,aI] LG:=0#t
def XM (F:fU K "slope" LG f fd) (iN:0#c 3 "loose_slope" [aT,aI] Ai) (b8:MC P w K mg base):0#b 5 f fd [aT,aI] Mb:=by
 refine F.fq Yv 0#a
 obtain ⟨p,r,t,G,q,D,n,rfl,z,u,B,hn,k⟩:=h
 apply bI ⟨_,(aA (aW (Jd.c1 b8 hr (cg iN hr 0#A 0#H)))),?_⟩
 apply ⟨p,r,t,G,q,D,n,rfl,z,u,B,by try?,λx H1 s1 e1=>?_⟩
 refine ⟨x,_,_,rfl,e1,by try?,λy v s2 e2=>?_⟩
 exact k y v 1#h e2
def Ro:dR 2 [gK,bF] BD:=0#t
abbrev aev P w K mg base:=Dn P w K mg base 3 "loose_along" [gK,bF,aM] GB
def Qy (F:fU K "line_by" BD f fd) (dU:aev P w K mg base) (b8:MC P w K mg base):0#b 5 f fd [gK,bF] Ah:=by
 refine F.fq Ro 0#a
 obtain ⟨p,r,s',q,t,m,n,rfl,D,u,h1,hn,k⟩:=h
 apply bI ⟨_,(aA (aW (b9 (bN 0#A (Jd.c1 b8 hr (Jd.c3 dU hr 0#A 0#H aH)))))),?_⟩
 apply ⟨p,r,s',q,t,0,m,n,rfl,D.qt,u,ZJ n,by try?,by try?,λx H1 G e1=>?_⟩
 apply ⟨x,_,_,rfl,e1,by try?,λy H2 I e2=>?_⟩
 refine aG (mk:=.tup) 0#w λz B v n3 e3=>?_
 refine k z y B (G.trans (I.trans v)) e3 ?_
 have e:q+s'*((0-t:Int):Rat)=q-s'*(t:Rat):=by
  simp only [yK]
  grind
 rw [e] at e2
 exact e2.up v
def VN:dR 2 [cR,"when"] Ge:=0#t
def VE (F:fU K "height" Ge f fd) (gV:0#c 3 "loose_height" [cR,"when"] wc) (b8:MC P w K mg base):0#b 5 f fd [cR,"when"] Gz:=by
 refine F.fq VN 0#a
 obtain ⟨p,r,s',v,x,m,n,rfl,B,G,D,k⟩:=h
 apply bI ⟨_,(aA (aW (Jd.c1 b8 hr (cg gV hr 0#A 0#H)))),?_⟩
 apply ⟨p,r,s',v,x,m,n,rfl,B,G,by try?,by try?,λy H1 s1 e1=>?_⟩
 refine ⟨y,_,_,rfl,e1,D,λz u s2 e2=>?_⟩
 exact k z u 1#h e2
def TM:dR 2 [cR,aI,"when"] Rh:=0#t
abbrev aew P w K mg base:=Dn P w K mg base 5 "height" [cR,"when"] Gz
def abe (F:fU K "meet" Rh f fd) (O4:0#c 4 "over" [aT,aI] RI) (DH:0#c 5 "minus" [aT,aI] (tF (·-·) 1)) (jH:aew P w K mg base):0#b 6 f fd [cR,aI] RG:=by
 refine F.fq TM 0#a
 obtain ⟨p,r,sl,ht,sl',ht',n,rfl,O,J,h1,hn,k1,k2⟩:=h
 obtain ⟨a,b,hp,N,hb⟩:=id O
 obtain ⟨a',b',S3,D,I⟩:=id J
 have eU:=hr.units
 apply bI ⟨_,(aq (bK (bx (K4 eU) 1#d (aO K 0#H) 1#a) (aA (aW eF)) bL) (aq (aV 2 TM.nd (cg O4 hr (cg DH hr (aO K 0#H) 1#d) (cg DH hr 1#d (aO K 0#H)))) (aA (aW (b9 (bN 0#P (cg jH hr 0#A 0#P))))))),?_⟩
 obtain ⟨t1,d1,U,Z⟩:=N.den
 obtain ⟨t2,d2,Y,F2⟩:=D.den
 refine ⟨_,_,U,Y,rfl,rfl,?_⟩
 rw [ae8 Z F2]
 rw?
 refine cJ 0#K 0#K
 ·have G:=kO c
  rw?
  exact k1 G H 0#V
 ·have G:=jF (gH.mpr c)
  rw?
  refine ⟨b',b,_,_,n,n,rfl,I.qt,hb.qt,by try?,λx H1 B e1=>?_⟩
  have hp1:=B _ _ hp
  have akW:=B _ _ S3
  rw?
  apply ⟨a,a',_,_,n,n,rfl,(N.up B).qt,(D.up B).qt,by try?,λy H2 L e2=>?_⟩
  apply ⟨x,y,_,_,_,_,rfl,(e1.up L).qt,e2.qt,by try?,by grind,λz H3 R e3=>?_⟩
  apply ⟨p,z,_,_,_,_,n,rfl,O.up (B.trans (L.trans R)),e3.qt,by try?,λv H4 S e4=>?_⟩
  refine aG (mk:=.tup) 0#w λg H5 M n5 e5=>?_
  exact k2 G g z v H5 (B.trans (L.trans (R.trans (S.trans M)))) e5 ((e3.up (S.trans M)).mono 0#u) ((e4.up M).mono 0#u)
inductive Ak (C:ah) (vs:List V) (H:Hp) (Q:VK) (E:XK):Prop where
 | mk (t b:Int):vs=[.int t,.int b]->Sz 8000 t->Sz 8000 b->(b=0->E (.ref C) none H)->(b≠0->∀(p:ah) (t' b':Int) (H':Hp),ao H H'->H' p=some (.tup [.int t',.int b'])->Low t b t' b'->Q (.ref p) H')->Ak C vs H Q E
def VB (F:fU K "ratio" D6 f fd) (T:Txt mg) (oE:Xc K mg "NoRatio" aN) (gh:aai P w K mg base):0#s (mO P w) 3 f fd ["top",cK] (Ak aN):=by
 refine i9.Qo F rN (λvs H Q E h=>?_) 0#U
 ·obtain ⟨t,b,rfl,_⟩:=h
  rfl
 obtain ⟨t,b,rfl,I,L,N,k⟩:=h
 apply bI ⟨_,(aq (bK (bx cN 0#H aH 1#a) (aA (wL oE rfl (cP bG))) bL) (aq (aV 2 rN.nd (cg gh hr 0#A 0#H)) (aq (bK (bx oZ 0#H aH 1#a) (aA (aV 2 rN.nd (iu eG 0#P))) bL) (aA (aW (b9 (bN (aX fQ 0#A 0#P) (aX fQ 0#H 0#P)))))))),?_⟩
 refine cJ 0#K 0#K
 ·have B:=kO c
  rw?
  exact ⟨show 1<=sizeLine by decide,N B⟩
 have B:b≠0:=jF (gH.mpr c)
 have k:=k B
 rw?
 refine ⟨t,b,rfl,I,L,λH0 M=>?_⟩
 have gp:0<cL t b:=Sf t B
 have hgb:cL t b<=b.natAbs:=ZS 0#u (ZC _ _)
 have v:∀x:Int,Ed x (if b<0 then -(cL t b:Int) else (cL t b:Int)):=λx=>by
  refine ⟨by split <;> try?,Sz.log (m:=8000) (Sz.of_le L ?_) 0#y 0#y⟩
  split <;> try?
 have D:=Jm (t:=t) B
 rw?
 refine cJ 0#K 0#K
 ·have z:=kO c
  rw [if_pos z] at D
  simp only [if_pos z] at v
  rw?
  apply jP (v t) ?_
  apply jP (v b) ?_
  refine aG (mk:=.tup) 0#w λp G J O e1=>?_
  exact k p _ _ G (M.trans J) e1 D
 ·have z:=jF (gH.mpr c)
  rw [if_neg z] at D
  simp only [if_neg z] at v
  rw?
  apply jP (v t) ?_
  apply jP (v b) ?_
  refine aG (mk:=.tup) 0#w λp G J O e1=>?_
  exact k p _ _ G (M.trans J) e1 D
inductive GG (vs:List V) (H:Hp) (Q:VK) (E_:XK):Prop where
 | mk (p r:ah) (q q':Rat) (m n:Nat):vs=[.ref p,.ref r]->ck H p q m->ck H r q' n->m+n<=100000->(∀o:Int,(0<o↔q'<q)->(o<0↔q<q')->Q (.int o) H)->GG vs H Q E_
inductive GD (vs:List V) (H:Hp) (Q:VK) (E_:XK):Prop where
 | mk (p1 p2 p3:ah) (t1 t2 t3:Int) (q1 q2 q3:Rat) (n:Nat):vs=[.ref p1,.ref p2,.ref p3]->jl H p1 t1 q1 n->jl H p2 t2 q2 n->jl H p3 t3 q3 n->t1<t3->n<=2000->(∀(z:ah) (H':Hp),ao H H'->ck H' z (q2-fz t1 q1 t2 t3 q3) (7*n+7)->Q (.ref z) H')->GD vs H Q E_
def Gq:dR 2 [aT,aI,"left","right"] LF:=0#t
def XH (F:fU K "order" LF f fd):0#b 1 f fd [aT,aI] GG:=by
 refine F.fq Gq 0#a
 obtain ⟨p,r,q,q',m,n,rfl,⟨a,b,hp,I,M,N⟩,⟨c,d,hr',B,O,R⟩,hn,k⟩:=h
 have J:=I.lt_iff B
 have L:=B.lt_iff I
 apply bI ⟨_,(aq (aV 2 Gq.nd (aX bE 1#d (aO K 0#H))) (aq (aV 3 Gq.nd (aX bE (aO K 0#H) 1#d)) (aq (bK (bx oZ 0#P 0#X 1#a) (aA (aW (iu eG aH))) bL) (aq (bK (bx iF 0#P 0#X 1#a) (aA (aW aH)) bL) (aA (aW aH)))))),?_⟩
 apply jP (dG M R 0#u) ?_
 apply jP (dG O N 0#u) ?_
 refine cJ (λc1=>?_) (λc1=>?_)
 ·have D:=kO c1
  rw?
  have G:=J.mp D
  exact k _ ⟨λz=>absurd z 0#y,λz=>by grind⟩ ⟨λ_=>G,λ_=>by decide⟩
 ·have D:=jF (gH.mpr c1)
  rw?
  refine cJ (λc2=>?_) (λc2=>?_)
  ·have v:=kO c2
   rw?
   have G:=L.mp v
   exact k _ ⟨λ_=>G,λ_=>by decide⟩ ⟨λz=>absurd z 0#y,λz=>by grind⟩
  ·have v:=jF (gH.mpr c2)
   rw?
   exact k _ ⟨λz=>absurd z 0#y,λz=>absurd (L.mpr z) v⟩ ⟨λz=>absurd z 0#y,λz=>absurd (J.mpr z) D⟩
def abH:dR 1 [aT] Rl:=0#t
def Gn:dR 3 [aT,"mid",dh] qI:=0#t
def FE (F:fU K "loose_stand" qI f fd) (bh:0#c 1 "loose_minus" [aT,aI] (j7 (·-·) 1)) (dU:aev P w K mg base) (iN:0#c 3 "loose_slope" [aT,aI] Ai) :
 bf P w K mg base dw 4 f fd [aT,"mid",dh] GD:=by
 refine F.fq Gn 0#a
 obtain ⟨N,p2,Z,v,L,D,B,q2,J,n,rfl,M,S,U,ht,Y,k⟩:=h
 obtain ⟨v2,e2,R,z2⟩:=id S
 apply bI ⟨_,(aA (aW (cg bh hr (aO K 0#H) (Jd.c3 dU hr (cg iN hr 0#A 0#P) 0#A (aO K 0#H))))),?_⟩
 refine ⟨N,Z,v,D,B,J,n,rfl,M,U,by try?,Y,λx H1 s1 e1=>?_⟩
 have e21:=s1 _ _ e2
 rw?
 apply ⟨x,N,_,B,v,L,_,n,rfl,e1,M.up s1,z2,by try?,by try?,λy H2 s2 G=>?_⟩
 refine ⟨v2,y,q2,_,n,_,rfl,(R.up 1#h).qt,G,by try?,λz O s3 e3=>?_⟩
 refine k z O (s1.trans (s2.trans s3)) ?_
 have I:(v:Rat)≠(D:Rat):=λz=>by
  have:=OL.mp z
  try?
 have e:B+(J-B)/((D-v:Int):Rat)*((L-v:Int):Rat)=fz v B L D J:=by
  rw [yK,yK]
  exact Ca I
 rw [e] at e3
 exact e3.mono 0#u
inductive Ma (vs:List V) (H:Hp) (Q:VK) (E_:XK):Prop where
 | mk (p:ah) (q:Rat) (n:Nat):vs=[.ref p]->c8 H p q n->(∀(r:ah) (H':Hp),ao H H'->c8 H' r (gO q) n->Q (.ref r) H')->Ma vs H Q E_
def jQ {xs zs:List Int} (hlen:xs.length=zs.length) (hxs:∀(j:Nat) (x z:Int),xs[j]?=some x->zs[j]?=some z->0<=x/\x<z) (j:Nat)  (ez:zs[j]?=some z):∃x,xs[j]?=some x/\0<=x/\x<z:=by
 have u:=(tP.mp ez).1
 rw [<- hlen] at u
 exact ⟨xs[j],jE u,hxs j _ z (jE u) ez⟩
def JA (h:H p=some (.tup [x,y])) (q:R ((σ.set i (some x)).set j (some y)) H):U3 K 2 (wJ (kj i) (wJ (kj j) WT)) (.ref p) σ H R:=
 ⟨p,_,rfl,qR.of h,rfl,x,_,rfl,y,_,rfl,rfl,q⟩
abbrev En:=ah×Int×Option Rat
def oU (H:Hp) (x:En) (n:Nat):Prop:=Sz n x.2.1/\match x.2.2 with
 | none=>H x.1=some (.tup [.int x.2.1,.bM])
 | some q=>∃p,H x.1=some (.tup [.int x.2.1,.ref p])/\c8 H p q n
def oU.up (f:oU H x n) (s:ao H H'):oU H' x n:=by
 obtain ⟨a,m,v⟩:=x
 cases v with
 | none=>exact ⟨f.1,s _ _ f.2⟩
 | some q=>exact ⟨f.1,let ⟨p,e,g⟩:=f.2;⟨p,s _ _ e,g.up s⟩⟩
def oU.rm (hD:H D=some (.lst ys)) (f:oU H x n):oU (rm D H) x n:=by
 obtain ⟨a,m,v⟩:=x
 cases v with
 | none=>exact ⟨f.1,lK hD f.2⟩
 | some q=>
   obtain ⟨z,p,e,t,b,u,g⟩:=f
   exact ⟨z,p,lK hD e,t,b,lK hD u,g⟩
def oU.obj (f:oU H x n):∃v,H x.1=some (.tup [.int x.2.1,v])/\(decide (v=.bM)=!x.2.2.isSome)/\(v=.bM\/∃p q,v=.ref p/\x.2.2=some q/\c8 H p q n):=by
 obtain ⟨a,m,v⟩:=x
 cases v with
 | none=>exact ⟨.bM,f.2,rfl,.inl rfl⟩
 | some q=>
   obtain ⟨z,p,e,g⟩:=f
   exact ⟨.ref p,e,rfl,.inr ⟨p,q,rfl,rfl,g⟩⟩
def Row (H:Hp) (es:0#h) (n:Nat):Prop:=∀x∈es,oU H x n
def Row.up (h:Row H es n) (s:ao H H'):Row H' es n:=λx hx=>(h x hx).up s
def Row.rm (hD:H D=some (.lst ys)) (h:Row H es n):Row (rm D H) es n:=λx hx=>(h x hx).rm hD
def Row.snoc (h:Row H es n) (hx:oU H x n):Row H (es++[x]) n:=λy hy=>by
 rcases i8.mp hy with z | z
 ·exact h y z
 ·obtain rfl:y=x:=by simpa using z
  exact hx
noncomputable def vals (es:0#h):0#n:=es.map λx=>V.ref x.1
def jw {i:Nat} (h:(vals es)[i]?=some v):∃x,es[i]?=some x/\v=.ref x.1:=by
 unfold vals at h
 rw [gF] at h
 cases e:es[i]? with
 | none=>rw [e] at h;cases h
 | some x=>rw [e] at h;cases h;exact ⟨x,rfl,rfl⟩
def Ao {i:Nat} (h:es[i]?=some x):(vals es)[i]?=some (.ref x.1):=by
 unfold vals
 rw [gF,h]
 rfl
def aY (es:0#h):(vals es).length=es.length:=iI ..
def gr (es:0#h) (x:En):vals es++[.ref x.1]=vals (es++[x]):=by simp [vals]
noncomputable def dat (v:Int×Option Rat):vH:=.tuple [.int v.1,match v.2 with | none=>.none | some q=>.tuple [.int q.num,.int (q.den:Int)]]
def oU.den (f:oU H x n):Den H (.ref x.1) (dat x.2):=by
 obtain ⟨a,m,v⟩:=x
 cases v with
 | none=>exact .tup f.2 (.cons (.int _) (.cons .bM .nil))
 | some q=>
   obtain ⟨z,p,e,t,b,u,g,_⟩:=f
   obtain ⟨rfl,rfl⟩:=g.DT
   exact .tup e (.cons (.int _) (.cons (.tup u (.cons (.int _) (.cons (.int _) .nil))) .nil))
def Row.ag2:∀{es:0#h} {n:Nat},Row H es n->uB H (vals es) (es.map λx=>dat x.2)
 | [],_,_=>.nil
 | x::es,n,h=>.cons (h x CA).den (Row.ag2 λy hy=>h y (DF _ hy))
def aat (v:Int×Option Rat):tY (dat v) (dat v)=true:=by
 obtain ⟨m,v⟩:=v
 cases v with
 | none=>
   show (m==m&&(true&&true))=true
   simp
 | some q=>
   show (m==m&&((q.num==q.num&&((q.den:Int)==(q.den:Int)&&true))&&true))=true
   simp
def MT:∀vs:List (Int×Option Rat),adY (vs.map dat) (vs.map dat)=true
 | []=>rfl
 | v::vs=>by
   show (tY (dat v) (dat v)&&adY (vs.map dat) (vs.map dat))=true
   rw [aat,MT vs];rfl
def UZ:∀v:Int×Option Rat,(dat v).canLay0=true/\(dat v).depth<=3:=by
 intro ⟨m,v⟩
 cases v with
 | none=>exact ⟨by rfl,by show _<=_;simp [dat,ad8,OO]⟩
 | some q=>exact ⟨by rfl,by show _<=_;simp [dat,ad8,OO]⟩
def EB:∀vs:List (Int×Option Rat),adh (vs.map dat)=true/\OO (vs.map dat)<=3
 | []=>⟨rfl,by decide⟩
 | v::vs=>by
   obtain ⟨a,b⟩:=UZ v
   obtain ⟨c,d⟩:=EB vs
   refine ⟨?_,?_⟩
   ·show ((dat v).canLay0&&adh (vs.map dat))=true
    rw [a,c];rfl
   ·show max (dat v).depth (OO (vs.map dat))<=3
    try?
def Gb (vs:List (Int×Option Rat)):G5 (.list (vs.map dat))=true:=by
 obtain ⟨a,b⟩:=EB vs
 unfold G5
 rw [ue]
 refine ⟨a,jN ?_⟩
 show OO (vs.map dat)+1<=64
 try?
def Row.Ny (h:Row H es n) (hl:H l=some 0#R):Den H (.ref l) (.list ((es.map (·.2)).map dat)):=by
 have:=h.ag2
 rw [show (es.map λx=>dat x.2)=(es.map (·.2)).map dat by rw [Az];rfl] at this
 exact .lst hl this
def abD (h:Row H es n) (h':Row H es' n') (hl:H l=some 0#R) (hl':H l'=some (.lst (vals es'))) (e:es.map (·.2)=es'.map (·.2)) (q:Q (.bl false) H) :
 Ye (.ref l) (.ref l') H Q:=by
 refine ⟨_,_,h.Ny hl,h'.Ny hl',Gb _,Gb _,?_⟩
 rw [e]
 have:tY (.list ((es'.map (·.2)).map dat)) (.list ((es'.map (·.2)).map dat))=true:=MT _
 rw [this]
 exact q
def Row.app (f:Row H es n) (h:H R=some (.lst ys)):Row (upd H R o) es n:=(f.rm h).up (Ct R H o)
def aa6 (h:H L=some o') (ne:L≠R):upd H R o L=some o':=by
 rw [aF ne];exact h
def rising (es:0#h):Prop:=es.Pairwise λa b=>a.2.1<b.2.1
def Xj:Hi K (.type "list") (.type "list")=some true:=by rfl
noncomputable def j6 (x:En):Bool:=x.2.2.isSome
abbrev Ls:=List (ah×List En)
noncomputable def lrefs (ls:Ls):0#n:=ls.map λx=>V.ref x.1
def rB {i:Nat} (h:(lrefs ls)[i]?=some v):∃x,ls[i]?=some x/\v=.ref x.1:=by
 unfold lrefs at h
 rw [gF] at h
 cases e:ls[i]? with
 | none=>rw [e] at h;cases h
 | some x=>rw [e] at h;cases h;exact ⟨x,rfl,rfl⟩
def gn (ls:Ls):(lrefs ls).length=ls.length:=iI ..
structure LL (H H2:Hp) (T:ah) (ls:Ls):Prop where
 new:H T=none
 at_:H2 T=some (.lst (lrefs ls))
 each:∀x∈ls,H x.1=none/\H2 x.1=some (.lst (vals x.2))/\x.1≠T
 nd:(ls.map (·.1)).Nodup
def LL.own (h:LL H H2 T ls) (e:H R=some (.lst v)):R≠T/\∀x∈ls,x.1≠R:=⟨(λz=>by rw [z,h.new] at e;cases e),(λx hx z=>by rw [<- z,(h.each x hx).1] at e;cases e)⟩
def LL.up (h:LL H H2 T ls) (s:ao H2 H3):LL H H3 T ls:=⟨h.new,s _ _ h.at_,λx hx=>let ⟨a,b,c⟩:=h.each x hx;⟨a,s _ _ b,c⟩,h.nd⟩
def LL.other (h:LL H H2 T ls) (hT:R≠T) (hl:∀x∈ls,x.1≠R):LL H (upd H2 R o) T ls:=
 ⟨h.new,by rw [aF (jx hT)];exact h.at_,λx hx=>let ⟨a,b,c⟩:=h.each x hx;⟨a,by rw [aF (hl x hx)];exact b,c⟩,h.nd⟩
def LL.push (h:LL H H2 T ls) (hR:H R=none) (eR:H2 R=some (.lst (vals rn))) (hT:R≠T) (hl:∀x∈ls,x.1≠R):LL H (upd H2 T (.lst (lrefs ls++[.ref R]))) T (ls++[(R,rn)]):=by
 refine ⟨h.new,by rw [au];simp [lrefs],λx u=>?_,?_⟩
 ·rcases i8.mp u with z | z
  ·obtain ⟨a,b,c⟩:=h.each x z
   exact ⟨a,by rw [aF c];exact b,c⟩
  ·obtain rfl:x=(R,rn):=by simpa using z
   exact ⟨hR,by rw [aF hT];exact eR,hT⟩
 ·rw [jM]
  refine adi.mpr ⟨h.nd,by simp,λa v b A=>?_⟩
  obtain ⟨x,u,rfl⟩:=kc.mp v
  obtain rfl:b=R:=by simpa using A
  exact hl x u
inductive GL (vs:List V) (H:Hp) (Q:VK) (E_:XK):Prop where
 | mk (l:ah) (es:0#h) (n:Nat):vs=[.ref l]->H l=some 0#R->Row H es n->es.length<=40->(∀(T:ah) (ls:Ls) (H':Hp),ao H H'->LL H H' T ls->ls.map (·.2)=parts j6 es es.length->ls.length<=40->(∀x∈ls,x.2.length<=40)->Q (.ref T) H')->GL vs H Q E_
def Ac:dR 1 [cz,"told","run","entry"] Rk:=0#t
def abh (F:fU K "runs" Rk f fd) (T:Txt mg):0#b 1 f fd [cz] GL:=by
 refine F.fq Ac 0#a
 obtain ⟨l,es,n,rfl,hl,af,hn,k⟩:=h
 apply bI ⟨_,(aq (aV 1 Ac.nd (fM gT)) (aq (aV 2 Ac.nd (fM gT)) (aq (iV j9 rfl (gQ K 0#A) (cG (i:=3) Ac.nd rfl 0#D) (aA (bK (bx jr (aO K 0#X) eF 1#a) (aA (dB (d9 K 0#P 0#X) (hs:=cU))) (aA (bK (bx iF (ir K T.kK 0#P) aH 1#a) (aq (dB (d9 K 0#H 0#P) (hs:=cU)) (aA (aV 2 Ac.nd (fM gT)))) bL))))) (aq (bK (bx iF (ir K T.kK 0#P) aH 1#a) (aA (dB (d9 K 0#H 0#P) (hs:=cU))) bL) (aA (aW 0#H)))))),?_⟩
 apply aG (mk:=.lst) 0#w λTT H1 s1 n1 e1=>?_
 apply aG (mk:=.lst) 0#w λR0 H2 s2 n2 e2=>?_
 apply jy (lJ ?_)
 have fV:=s1.trans s2
 refine ⟨l,rfl,⟨_,bS.of (fV _ _ hl)⟩,gX (xs:=vals es) (λi σ H3=>Xs4 λ(R:ah) (N:Ls) (J:0#h) (v:Option V)=>σ=[some (.ref l),some (.ref TT),some (.ref R),v]/\ao H H3/\LL H H3 TT N/\H R=none/\H3 R=some (.lst (vals J))/\R≠TT/\(∀x∈N,x.1≠R) /\
  (iD j6 es i=true->parts j6 es i=N.map (·.2)++[J]/\J≠[])/\(iD j6 es i=false->parts j6 es i=N.map (·.2)/\J=[])/\J.length<=i/\N.length<=i/\(∀x∈N,x.2.length<=40)) ?_ ?_ ?_ ?_⟩
 ·refine ⟨R0,[],[],none,rfl,fV,⟨n1,s2 _ _ e1,λx M=>absurd M 0#w,ZP⟩,s1.free n2,e2,λz=>?_,λx M=>absurd M 0#w,λz=>absurd z (by simp [iD]),λ_=>⟨rfl,rfl⟩,gI _,gI _,λx M=>absurd M 0#w⟩
  rw [z] at n2
  rw [e1] at n2
  cases n2
 ·rintro i σ H3 _ ⟨R,N,J,v,rfl,U,_⟩
  exact bS.of (U _ _ hl)
 ·rintro i x σ H3 M ⟨R,N,J,v,rfl,U,O,hR,Z,nR,S,G,L,lr,ll,lx⟩
  obtain ⟨e,he,rfl⟩:=jw M
  have hi:i<es.length:=(tP.mp he).1
  obtain ⟨u,ee,du,_⟩:=((af e (g8 he)).up U).obj
  have ad:iD j6 es (i+1)=j6 e:=P6 he
  rw?
  apply ⟨rfl,?_⟩
  rw [du]
  cases hs:e.2.2.isSome with
  | true=>
    have I:j6 e=true:=hs
    apply cD ?_
    apply ⟨.inl ⟨rfl,_,bS.of Z⟩,?_⟩
    refine gB Z (by rw [aY];exact bg 0#u) ?_
    refine ⟨R,N,J++[e],_,rfl,bP U hR,O.other nR (λx M=>S x M),hR,by rw [au,gr],nR,S,λ_=>?_,λz=>absurd (ad.symm.trans z) (by rw [I];decide),by rw [jf];exact GY lr,by try?,lx⟩
    refine ⟨?_,by simp⟩
    cases B:iD j6 es i with
    | true=>exact XU he I B (G B).1
    | false=>
      obtain ⟨a,rfl⟩:=L B
      rw [Jt he I B,a]
      rfl
  | false=>
    have I:j6 e=false:=hs
    apply bO ?_
    apply gR (.inl (bS.of Z)) ?_
    refine cJ 0#K 0#K
    ·have Y:=kO c
     rw [aY] at Y
     have B:iD j6 es i=true:=by
      cases B:iD j6 es i with
      | true=>rfl
      | false=>
        obtain ⟨_,rfl⟩:=L B
        simp at Y
     rw?
     apply ⟨.inl ⟨rfl,_,bS.of O.at_⟩,?_⟩
     apply gB O.at_ (by rw [gn];exact bg 0#u) ?_
     have ac:=O.push hR Z nR S
     refine aG (mk:=.lst) 0#w λR2 H4 s4 n4 e4=>?_
     have sH:ao H H4:=(bP U O.new).trans s4
     rw?
     refine ⟨R2,N++[(R,J)],[],_,rfl,sH,ac.up s4,(bP U O.new).free n4,e4,λz=>?_,λx M z=>?_,λz=>absurd (ad.symm.trans z) (by rw [I];decide),λ_=>⟨?_,rfl⟩,jV _,by rw [jf];exact GY ll,λx M=>?_⟩
     ·rw [z,ac.at_] at n4
      cases n4
     ·rw [<- z,(ac.each x M).2.1] at n4
      cases n4
     ·rw [Js he I,(G B).1,jM]
      rfl
     ·rcases i8.mp M with z | z
      ·exact lx x z
      ·obtain rfl:x=(R,J):=by simpa using z
       show J.length<=40
       try?
    ·have Y:=jF (gH.mpr c)
     rw [aY] at Y
     have B:iD j6 es i=false:=by
      cases B:iD j6 es i with
      | false=>rfl
      | true=>
        have:=JJ.mpr (G B).2
        try?
     obtain ⟨a,rfl⟩:=L B
     rw?
     exact ⟨R,N,[],_,rfl,U,O,hR,Z,nR,S,λz=>absurd (ad.symm.trans z) (by rw [I];decide),λ_=>⟨by rw [Js he I,a],rfl⟩,jV _,by try?,lx⟩
 ·rintro σ H3 ⟨R,N,J,v,rfl,U,O,hR,Z,nR,S,G,L,lr,ll,lx⟩
  rw [aY] at G L lr ll
  rw?
  apply gR (.inl (bS.of Z)) ?_
  refine cJ 0#K 0#K
  ·have Y:=kO c
   rw [aY] at Y
   have B:iD j6 es es.length=true:=by
    cases B:iD j6 es es.length with
    | true=>rfl
    | false=>
      obtain ⟨_,rfl⟩:=L B
      simp at Y
   have ae:(N++[(R,J)]).length<=40:=by
    have e:=Br (s:=j6) (es:=es) es.length
    rw [(G B).1,jf,iI] at e
    rw [jf]
    simp at e ⊢
    try?
   rw?
   apply ⟨.inl ⟨rfl,_,bS.of O.at_⟩,?_⟩
   apply gB O.at_ (by rw [gn];exact bg 0#u) ?_
   refine k TT (N++[(R,J)]) _ (bP U O.new) (O.push hR Z nR S) ?_ ae λx M=>?_
   ·rw [(G B).1,jM]
    rfl
   ·rcases i8.mp M with z | z
    ·exact lx x z
    ·obtain rfl:x=(R,J):=by simpa using z
     show J.length<=40
     try?
  ·have Y:=jF (gH.mpr c)
   rw [aY] at Y
   have B:iD j6 es es.length=false:=by
    cases B:iD j6 es es.length with
    | false=>rfl
    | true=>
      have:=JJ.mpr (G B).2
      try?
   rw?
   exact k TT N H3 U O (L B).1.symm 0#u lx
noncomputable def mo (es:0#h) (k:Nat):Int:=((es[k]?).map (·.2.1)).getD 0
noncomputable def wo (es:0#h) (k:Nat):Rat:=((es[k]?).bind (·.2.2)).getD 0
noncomputable def sd (es:0#h) (i k j:Nat):Rat:=wo es k-fz (mo es i) (wo es i) (mo es k) (mo es j) (wo es j)
def nU (es:0#h):Prop:=∀x∈es,j6 x=true
def dM (hR:Row H es n) (hS:nU es) (hk:k<es.length):∃x,es[k]?=some x/\jl H x.1 (mo es k) (wo es k) n:=by
 have g:es[k]?=some es[k]:=jE hk
 have u:es[k]∈es:=Ut hk
 refine ⟨es[k],g,?_⟩
 have A:=hR _ u
 have B:(es[k]).2.2.isSome=true:=hS _ u
 unfold mo wo
 rw [g]
 generalize es[k]=x at *
 obtain ⟨a,m,v⟩:=x
 cases v with
 | none=>cases B
 | some q=>
   obtain ⟨z,p,e,f⟩:=A
   exact ⟨p,e,f,z⟩
def jK (h:rising es) (hij:i<j) (hj:j<es.length):mo es i<mo es j:=by
 have u:i<es.length:=by try?
 unfold mo
 rw [jE u,jE hj]
 exact List.pairwise_iff_getElem.mp h i j u hj hij
def fE {i:Nat} (h:es[i]?=some x) (hj:j=(i:Int)):uD (vals es) j=some (.ref x.1):=by
 subst hj
 exact iS (Ao h)
inductive BQ (vs:List V) (H:Hp) (Q:VK) (E_:XK):Prop where
 | mk (p r:ah) (a b c d:Int) (n:Nat):vs=[.ref p,.ref r]->H p=some (.tup [.int a,.int b])->H r=some (.tup [.int c,.int d])->Sz n a->Sz n b->Sz n c->Sz n d->n<=10000->(∀(s:ah) (H':Hp),ao H H'->H' s=some (.tup [.int (a*d-c*b),.int (b*d)])->Q (.ref s) H')->BQ vs H Q E_
inductive BR (vs:List V) (H:Hp) (Q:VK) (E_:XK):Prop where
 | mk (p r v v':ah) (t t' a b a' b':Int) (n:Nat):vs=[.ref p,.ref r]->H p=some (.tup [.int t,.ref v])->H v=some (.tup [.int a,.int b])->H r=some (.tup [.int t',.ref v'])->H v'=some (.tup [.int a',.int b'])->t<t'->Sz n t->Sz n a->Sz n b->Sz n t'->Sz n a'->Sz n b'->n<=10000->(∀(s:ah) (H':Hp),ao H H'->H' s=some (.tup [.int (a'*b-a*b'),.int (b'*b*(t'-t))])->Q (.ref s) H')->BR vs H Q E_
inductive RC (vs:List V) (H:Hp) (Q:VK) (E_:XK):Prop where
 | mk (l:ah) (es:0#h) (i j n:Nat):vs=[.ref l,.int (i:Int),.int (j:Int)]->H l=some 0#R->Row H es n->nU es->rising es->i<j->j<es.length->es.length<=1000->n<=900->(j=i+1->∀H',ao H H'->Q .bM H')->(i+1<j->∀(z p:ah) (k:Nat) (H':Hp),ao H H'->H' z=some (.tup [.int (k:Int),.ref p])->ck H' p (gO (sd es i k j)) (8*n+5)->tS (λk=>gO (sd es i k j)) i j k->Q (.ref z) H')->RC vs H Q E_
def Ds (F:fU K "loose_minus" mj f fd):0#b 1 f fd [aT,aI] BQ:=by
 refine F.fq vo 0#a
 obtain ⟨p,r,a,b,c,d,n,rfl,hp,hr',G,v,I,z,hn,k⟩:=h
 apply bI ⟨_,(aA (aW (b9 (bN (aX dF (aX bE 1#d (aO K 0#H)) (aX bE (aO K 0#H) 1#d)) (aX bE 1#d (aO K 0#H)))))),?_⟩
 apply jP (dG G z 0#u) ?_
 apply jP (dG I v 0#u) ?_
 apply jP (dG v z 0#u) ?_
 refine aG (mk:=.tup) 0#w λx B D n1 e1=>?_
 exact k x B D e1
def Dt (F:fU K "loose_slope" jL f fd) (oN:0#c 1 "loose_minus" [aT,aI] BQ):0#b 3 f fd [aT,aI] BR:=by
 refine F.fq dI 0#a
 obtain ⟨p,r,v,Y,t,J,a,b,N,O,n,rfl,S,U,B,D,ht,zt,Z,L,I,G,z,R,k⟩:=h
 apply bI ⟨_,(aq (aV 2 dI.nd (cg oN hr (aO K 0#H) 1#d)) (aq (aV 3 dI.nd (aX dF (aO K 0#H) 1#d)) (aq (bK (bx oZ 0#X aH 1#a) (aA (aW (b9 (bN (iu eG (aO K 0#P)) (aX bE (aO K 0#P) (iu eG 0#X)))))) bL) (aA (aW (b9 (bN (aO K 0#P) (aX bE (aO K 0#P) 0#X)))))))),?_⟩
 refine ⟨Y,v,N,O,a,b,n,rfl,D,U,G,z,Z,L,R,λx H1 s1 e1=>?_⟩
 have hp1:=s1 _ _ S
 have hr1:=s1 _ _ B
 have zs:Sz (n+1) (J-t):=I.sub zt
 rw?
 refine cJ 0#K 0#K
 ·have c':J-t<0:=kO c
  try?
 ·rw?
  apply jP (dG (z.mul L) zs 0#u) ?_
  refine aG (mk:=.tup) 0#w λy M s2 n2 e2=>?_
  exact k y M 1#h e2
def bQ:dR 3 [br,c5,dh,"start",gK,"base",dQ,"miss","place",aM,"value","along","stood"] lP:=0#t
abbrev O5 P w K mg base:=Dn P w K mg base 1 "order" [aT,aI] GG
def zI (F:fU K "loose_farthest" lP f fd) (T:Txt mg) (dP:O5 P w K mg base) (oO:0#c 3 "loose_slope" [aT,aI] BR) :
 bf P w K mg base dw 4 f fd [br,c5,dh] RC:=by
 refine F.fq bQ 0#a
 obtain ⟨l,es,i,j,n,rfl,hl,hR,hS,jJ,ar,hj,HE,hn,k0,k1⟩:=h
 obtain ⟨xi,gi,vi,ei,⟨a,b,eb,fb,za,zb⟩,Y⟩:=dM hR hS (show i<es.length by try?)
 obtain ⟨xj,gj,vj,ej,⟨a',v,an,ac,af,J⟩,ai⟩:=dM hR hS hj
 have ht:=jK jJ ar hj
 have hb1:=fb.pos
 have hb2:=ac.pos
 have zd:Sz (n+1) (mo es j-mo es i):=ai.sub Y
 have zS:Sz (3*n+1) (v*b*(mo es j-mo es i)):=((J.mul zb).mul zd).mono 0#u
 have ae:Sz (2*n+1) (v*(mo es j-mo es i)):=(J.mul zd).mono 0#u
 have zT:Sz (2*n+1) (a'*b-a*v):=((af.mul zb).sub (za.mul J)).mono 0#u
 have ap:(v*b*(mo es j-mo es i)).fdiv b=v*(mo es j-mo es i):=by
  rw [Hg _ 0#u,Int.mul_right_comm]
  exact Int.mul_ediv_cancel _ 0#u
 have G:0<v*b*(mo es j-mo es i):=JU (JU 0#u 0#u) 0#u
 apply bI ⟨_,(aq (aV 3 bQ.nd (cY (lX K) 0#A 0#H 0#B)) (aq (aV 4 bQ.nd (cg oO hr 0#X (cY (lX K) 0#A 0#P 0#B))) (aq (aV 5 bQ.nd (aX bE (aO K (aO K 0#X)) (aX fQ (aO K (aa 4)) (aO K (aO K 0#X))))) (aq (aV 6 bQ.nd eF) (aq (aV 7 bQ.nd (b9 (bN aH aH))) (aq (iV j9 rfl (Jd.oG rfl T.range (bN (aX dN 0#H aH) 0#P)) (cG (i:=8) bQ.nd rfl 0#D) (aq (aV 9 bQ.nd (aO K (cY (lX K) 0#A (aa 8) 0#B))) (aq (aV 10 bQ.nd (aO K (cY (lX K) 0#A (aa 8) 0#B))) (aq (aV 11 bQ.nd (aX dN (aa 5) (aX bE (aO K (aa 4)) (aX dF (aa 9) (aO K 0#X))))) (aq (aV 12 bQ.nd (b9 (bN (eE Hy rfl T.Hz II (cP (aX dF (aX bE (aO K (aa 10)) (aO K (aa 4))) (aX bE (aO K (aa 10)) (aa 11)))) (he:=YL) (hpl:=bZ)) (aO K (aa 10))))) (aA (bK (iW (Jd.zP (bx sI (aa 6) eF 1#a) (Jd.sO (bx iF (cg dP hr (aa 12) (aa 7)) aH 1#a)))) (aq (aV 6 bQ.nd (aa 8)) (aA (aV 7 bQ.nd (aa 12)))) bL))))))) (aA (aW (wM (bx sI (aa 6) eF 1#a) eF (b9 (bN (aa 6) (b9 (bN (aO K (aa 7)) (aX bE (aO K (aa 7)) (aO K (aa 4)))))))))))))))),?_⟩
 apply ie hl (fE gi rfl) ?_
 apply ie hl (fE gj rfl) ?_
 refine ⟨xi.1,xj.1,vi,vj,mo es i,mo es j,a,b,a',v,n,rfl,ei,eb,ej,an,ht,Y,za,zb,ai,af,J,by try?,λps H1 s1 e1=>?_⟩
 have ei1:=s1 _ _ ei
 have eb1:=s1 _ _ eb
 rw?
 refine jP ⟨by try?,zb.log 0#u ?_⟩ ?_
 ·rcases Nat.eq_zero_or_pos n with z | z
  ·subst z
   have:b.natAbs<2 ^ 0:=zb
   try?
  ·exact z
 rw [ap]
 apply jP (dG za ae 0#u) ?_
 apply aG (mk:=.tup) 0#w λav H2 s2 n2 e2=>?_
 apply jy (Lv ?_)
 have al:Sz (5*n+4) 1:=xY 0#u
 have aE:Sz (5*n+4) 0:=ZJ _
 refine ⟨_,_,rfl,⟨by lia,by lia,by lia,by lia⟩,iP (λm σ Z=>Xs7 λ(fv:V) (pm:ah) (v8 v9 R U Wg:Option V)=>σ=[some (.ref l),some (.int i),some (.int j),some (.ref xi.1),some (.ref ps),some (.int (a*(v*(mo es j-mo es i)))),some fv,some (.ref pm),v8,v9,R,U,Wg] /\
  ao H1 Z/\((m=0/\fv=.bM/\ck Z pm 0 (5*n+4))\/∃k:Nat,fv=.int (k:Int)/\ck Z pm (gO (sd es i k j)*((v*b*(mo es j-mo es i):Int):Rat)) (5*n+4)/\tS (λk=>gO (sd es i k j)) i (i+1+m) k)) ?_ ?_ ?_⟩
 ·exact ⟨.bM,av,none,none,none,none,none,rfl,s2,.inl ⟨rfl,rfl,0,1,e2,Qt.whole 0,aE,al⟩⟩
 ·rintro m σ Z hm ⟨fv,pm,v8,v9,R,U,Wg,rfl,I,hI⟩
  refine fP λM Bk RR hM _ _=>?_
  have hp:i+1+m<j:=by try?
  have lZ:=s1.trans I
  obtain ⟨xp,gp,vp,ep,⟨c,e,ec,fc,zc,ze⟩,aL⟩:=dM (hR.up lZ) hS (show i+1+m<es.length by try?)
  have ei3:=lZ _ _ ei
  have am:=I _ _ e1
  have qt:=aeZ fb ac fc (tp:=mo es (i+1+m)) ht
  have qa:=qt.abs
  rw [F5 (cast_pos G)] at qa
  have aj:Sz (n+1) (mo es (i+1+m)-mo es i):=aL.sub Y
  have ak:Sz (4*n+2) (a*(v*(mo es j-mo es i))):=(za.mul ae).mono 0#u
  have aK:Sz (4*n+2) ((a'*b-a*v)*(mo es (i+1+m)-mo es i)):=(zT.mul aj).mono 0#u
  have ag:Sz (4*n+3) (a*(v*(mo es j-mo es i))+(a'*b-a*v)*(mo es (i+1+m)-mo es i)):=ak.add aK
  have ax:Sz (5*n+3) (c*(v*b*(mo es j-mo es i))):=(zc.mul zS).mono 0#u
  have ay:Sz (5*n+3) (e*(a*(v*(mo es j-mo es i))+(a'*b-a*v)*(mo es (i+1+m)-mo es i))):=(ze.mul ag).mono 0#u
  rw?
  apply ie (lZ _ _ hl) (fE gp 0#u) ?_
  apply ie (lZ _ _ hl) (fE gp 0#u) ?_
  apply jP (dG zT aj 0#u) ?_
  apply jP (dG zc zS 0#u) ?_
  apply jP (dG ze ag 0#u) ?_
  rw [mq]
  refine aG (mk:=.tup) 0#w λad H4 O n4 e4=>?_
  have qs:ck H4 ad (gO (sd es i (i+1+m) j)*((v*b*(mo es j-mo es i):Int):Rat)) (5*n+4):=
   ⟨_,_,e4,qa,(ax.sub ay).of_le 0#w,ze.mono 0#u⟩
  rw?
  rcases hI with ⟨rfl,rfl,hq⟩ | ⟨N,rfl,hq,hF⟩
  ·apply ⟨rfl,?_⟩
   refine cD ?_
   apply cD ?_
   exact hM _ _ ⟨_,_,_,_,_,_,_,rfl,I.trans O,.inr ⟨i+1,by simp,qs,tS.first⟩⟩
  ·apply ⟨rfl,?_⟩
   apply bO ?_
   apply ⟨ad,pm,_,_,_,_,rfl,qs,hq.up O,by try?,λo C7 ho2=>?_⟩
   refine cJ (λc1=>?_) (λc1=>?_)
   ·have c':0<o:=kO c1
    have l1:=(Ms (cast_pos G)).mp (C7.mp c')
    rw?
    refine hM _ _ ⟨_,_,_,_,_,_,_,rfl,I.trans O,.inr ⟨i+1+m,by simp,qs,?_⟩⟩
    exact hF.next l1
   ·have c':¬0<o:=jF (gH.mpr c1)
    have l1:¬gO (sd es i N j)<gO (sd es i (i+1+m) j):=λz=>c' (C7.mpr ((Ms (cast_pos G)).mpr z))
    rw?
    refine hM _ _ ⟨_,_,_,_,_,_,_,rfl,I.trans O,.inr ⟨N,rfl,hq.up O,?_⟩⟩
    exact hF.keep (kH.mp l1)
 ·rintro σ Z ⟨fv,pm,v8,v9,R,U,Wg,rfl,I,hI⟩
  have am:=I _ _ e1
  rw?
  rcases hI with ⟨hm,rfl,hq⟩ | ⟨N,rfl,⟨x,y,exy,aw,zx,zy⟩,hF⟩
  ·apply ⟨rfl,?_⟩
   apply cD ?_
   exact k0 0#u Z (s1.trans I)
  ·apply ⟨rfl,?_⟩
   apply bO ?_
   apply jP (dG zy zS 0#u) ?_
   apply aG (mk:=.tup) 0#w λp4 H4 O n4 e4=>?_
   refine aG (mk:=.tup) 0#w λp5 H5 s5 n5 e5=>?_
   have L:tS (λk=>gO (sd es i k j)) i j N:=by
    have e:i+1+((j:Int)-((i:Int)+1)).toNat=j:=by try?
    rw [e] at hF
    exact hF
   have hlo:=L.lo
   have hhi:=L.hi
   refine k1 0#u p5 p4 N H5 ((s1.trans I).trans (O.trans s5)) e5 ?_ L
   have q:=aw.div (s:=v*b*(mo es j-mo es i)) G
   have as:=gU (b:=v*b*(mo es j-mo es i)) 0#u
   rw [show gO (sd es i N j)*((v*b*(mo es j-mo es i):Int):Rat)/((v*b*(mo es j-mo es i):Int):Rat)=gO (sd es i N j) by generalize ((v*b*(mo es j-mo es i):Int):Rat)=S at as;grind] at q
   exact ⟨_,_,s5 _ _ e4,q,zx.mono 0#u,(zy.mul zS).mono 0#u⟩
def afD:Hi K (.type "bool") (.type "bool")=some true:=by rfl
abbrev Qs:=List (ah×Rat)
noncomputable def fh (rs:Qs):0#n:=rs.map λx=>V.ref x.1
def N6 {i:Nat} (h:(fh rs)[i]?=some v):∃x,rs[i]?=some x/\v=.ref x.1:=by
 unfold fh at h
 rw [gF] at h
 cases e:rs[i]? with
 | none=>rw [e] at h;cases h
 | some x=>rw [e] at h;cases h;exact ⟨x,rfl,rfl⟩
def JW (H:Hp) (rs:Qs) (n:Nat):Prop:=∀x∈rs,ck H x.1 x.2 n
noncomputable def gY (js:List Nat):0#n:=js.map λj:Nat=>V.int (j:Int)
def j3 (js:List Nat):(gY js).length=js.length:=iI ..
def sG (js:List Nat) (j:Nat):gY js++[.int (j:Int)]=gY (js++[j]):=by simp [gY]
def NF {i:Nat} (h:(gY js)[i]?=some v):∃j,js[i]?=some j/\v=.int (j:Int):=by
 unfold gY at h
 rw [gF] at h
 cases e:js[i]? with
 | none=>rw [e] at h;cases h
 | some x=>rw [e] at h;cases h;exact ⟨x,rfl,rfl⟩
def ck.app (f:ck H p q n) (h:H R=some (.lst ys)):ck (upd H R o) p q n:=
 let ⟨t,b,e,f⟩:=f
 ⟨t,b,(Ct R H o) _ _ (lK h e),f⟩
def SaQ (H:Hp) (p:ah) (t:Int) (q:Rat) (n m:Nat):Prop:=∃v:ah,H p=some (.tup [.int t,.ref v])/\ck H v q n/\Sz m t
def SaQ.up (f:SaQ H p t q n m) (s:ao H H'):SaQ H' p t q n m:=let ⟨v,e,f,z⟩:=f;⟨v,s _ _ e,f.up s,z⟩
def jl.saq (f:jl H p t q n):SaQ H p t q n n:=let ⟨v,e,f,z⟩:=f;⟨v,e,f.qt,z⟩
def Good (es:0#h) (β:Rat) (i j:Nat):Prop:=∀k,i<k->k<j->gO (sd es i k j)<=β
def se (es:0#h) (β:Rat) (bJ:Bool) (i j:Nat):Prop:=if bJ=true then i<j/\j<es.length/\Good es β i j else i<es.length/\(j=i+1\/(i+1<j/\j<=es.length/\Good es β i (j-1)))
noncomputable def slo (es:0#h) (i j:Nat):Rat:=(wo es j-wo es i)/((mo es j:Rat)-(mo es i:Rat))
noncomputable def kL (es:0#h) (β:Rat) (i k:Nat):Rat:=(wo es k-β-wo es i)/((mo es k:Rat)-(mo es i:Rat))
noncomputable def iU (es:0#h) (β:Rat) (i k:Nat):Rat:=(wo es k+β-wo es i)/((mo es k:Rat)-(mo es i:Rat))
def EJ (h:rising es) (hik:i<k) (hkj:k<j) (hj:j<es.length):gO (sd es i k j)<=β↔kL es β i k<=slo es i j/\slo es i j<=iU es β i k:=
 J9 (B3.mpr (jK h hik 0#u)) (B3.mpr (jK h hkj hj))
inductive BS (vs:List V) (H:Hp) (Q:VK) (E_:XK):Prop where
 | mk (p r:ah) (t t':Int) (q q':Rat) (n n' m:Nat):vs=[.ref p,.ref r]->SaQ H p t q n m->SaQ H r t' q' n' m->t<t'->n+n'+m<=20000->(∀(s:ah) (H':Hp),ao H H'->ck H' s ((q'-q)/((t':Rat)-(t:Rat))) (n+n'+m+2)->Q (.ref s) H')->BS vs H Q E_
inductive LY (vs:List V) (H:Hp) (Q:VK) (E_:XK):Prop where
 | mk (l:ah) (rs:Qs) (n:Nat):vs=[.ref l]->H l=some (.lst (fh rs))->JW H rs n->n<=20000->0<rs.length->(∀x∈rs,(∀y∈rs,y.2<=x.2)->Q (.ref x.1) H)->LY vs H Q E_
inductive Ea (vs:List V) (H:Hp) (Q:VK) (E_:XK):Prop where
 | mk (l:ah) (rs:Qs) (n:Nat):vs=[.ref l]->H l=some (.lst (fh rs))->JW H rs n->n<=20000->0<rs.length->(∀x∈rs,(∀y∈rs,x.2<=y.2)->Q (.ref x.1) H)->Ea vs H Q E_
inductive LX (vs:List V) (H:Hp) (Q:VK) (E_:XK):Prop where
 | mk (l pb:ah) (es:0#h) (i n nb:Nat) (β:Rat):vs=[.ref l,.int (i:Int),.ref pb]->H l=some 0#R->Row H es n->nU es->rising es->i<es.length->es.length<=900->ck H pb β nb->n<=1000->nb<=1000->(∀(R:ah) (js:List Nat) (H':Hp),ao H H'->H R=none->H' R=some (.lst (gY js))->js.length<=es.length->(∀j,j∈js↔i<j/\j<es.length/\Good es β i j)->Q (.ref R) H')->LX vs H Q E_
structure Wi (H:Hp) (F:ah) (rs:List (ah×List Nat)):Prop where
 at_:H F=some (.lst (rs.map λx=>V.ref x.1))
 each:∀x∈rs,H x.1=some (.lst (gY x.2))/\x.1≠F
def Wi.up (h:Wi H F rs) (s:ao H H'):Wi H' F rs:=⟨s _ _ h.at_,λx hx=>⟨s _ _ (h.each x hx).1,(h.each x hx).2⟩⟩
def Wi.push (h:Wi H F rs) (hR:H R=some (.lst (gY js))) (ne:R≠F):Wi (upd H F (.lst (rs.map (λx=>V.ref x.1)++[.ref R]))) F (rs++[(R,js)]):=by
 refine ⟨by rw [au,jM];rfl,λx u=>?_⟩
 rcases i8.mp u with z | z
 ·exact ⟨by rw [aF (h.each x z).2];exact (h.each x z).1,(h.each x z).2⟩
 ·obtain rfl:x=(R,js):=by simpa using z
  exact ⟨by rw [aF ne];exact hR,ne⟩
def Ek (es:0#h) (β:Rat) (bJ:Bool) (rs:List (ah×List Nat)):Prop:=∀i x,rs[i]?=some x->(x.2.length<=es.length+1)/\∀j,j∈x.2↔se es β bJ i j
inductive LZ (vs:List V) (H:Hp) (Q:VK) (E_:XK):Prop where
 | mk (l pb:ah) (es:0#h) (n nb:Nat) (β:Rat) (bJ:Bool):vs=[.ref l,.ref pb,.bl bJ]->H l=some 0#R->Row H es n->nU es->rising es->es.length<=900->ck H pb β nb->n<=1000->nb<=1000->(∀(F:ah) (rs:List (ah×List Nat)) (H':Hp),ao H H'->H F=none->Wi H' F rs->rs.length=es.length->Ek es β bJ rs->Q (.ref F) H')->LZ vs H Q E_
noncomputable def rf (N:Nat) (t:Nat->Int):0#n:=(jg N).map λj=>V.int (t j)
def vP (N:Nat) (t:Nat->Int):(rf N t).length=N:=by simp [rf]
def qU {N:Nat} (h:j<N) (hi:i=(j:Int)):uD (rf N t) i=some (.int (t j)):=by
 subst hi
 exact iS (zj h)
inductive D9 (vs:List V) (H:Hp) (Q:VK) (E_:XK):Prop where
 | mk (F:ah) (rs:List (ah×List Nat)) (N:Nat) (L:Nat->Nat->Prop):vs=[.ref F,.int (N:Int)]->Wi H F rs->1<=N->N<=900->N<=rs.length+1->rs.length<=N->(∀i x,rs[i]?=some x->∀j,j∈x.2↔L i j)->(∀i j,L i j->i<j/\j<N)->(∀j,0<j->j<N->L (j-1) j)->(∀(R:ah) (t:Nat->Int) (H':Hp),ao H H'->H R=none->H' R=some (.lst (rf N t))->MD L N t->Q (.ref R) H')->D9 vs H Q E_
def pZ:dR 1 [iA,dQ,"quotient"] yf:=0#t
def NK (F:fU K "greatest" yf f fd) (dP:O5 P w K mg base):0#b 2 f fd [iA] LY:=by
 refine F.fq pZ 0#a
 obtain ⟨l,u,n,rfl,N,Y,hn,U,k⟩:=h
 have g0:u[0]?=some u[0]:=jE U
 apply bI ⟨_,(aq (aV 1 pZ.nd (Jd.iL K 0#A)) (aq (iV j9 rfl (gQ K 0#A) (cG (i:=2) pZ.nd rfl 0#D) (aA (bK (bx iF (cg dP hr 0#P 0#H) aH 1#a) (aA (aV 1 pZ.nd 0#P)) bL))) (aA (aW 0#H)))),?_⟩
 apply ie N (v:=.ref (u[0]).1) (iS (j:=0) (by unfold fh;rw [gF,g0];rfl)) ?_
 apply jy (lJ ?_)
 refine ⟨l,rfl,⟨_,bS.of N⟩,gX (xs:=fh u) (λi M J=>J=H/\∃(x:ah×Rat) (v:Option V),x∈u/\M=[some (.ref l),some (.ref x.1),v]/\∀y∈u.take i,y.2<=x.2) ?_ ?_ ?_ ?_⟩
 ·exact ⟨rfl,u[0],none,Ut U,rfl,λy G=>by simp at G⟩
 ·rintro i M J _ ⟨rfl,_⟩
  exact bS.of N
 ·rintro i v M J hx ⟨rfl,x,v2,L,rfl,B⟩
  obtain ⟨y,S,rfl⟩:=N6 hx
  have G:=g8 S
  have Z:u.take (i+1)=u.take i++[y]:=by rw [yI,S];rfl
  rw?
  apply ⟨y.1,x.1,y.2,x.2,n,n,rfl,Y y G,Y x L,by try?,λo O ho2=>?_⟩
  refine cJ 0#K 0#K
  ·have R:=O.mp (kO c)
   rw?
   refine ⟨rfl,y,_,G,rfl,λz I=>?_⟩
   rw [Z] at I
   rcases i8.mp I with q | q
   ·have:=B z q
    grind
   ·obtain rfl:z=y:=by simpa using q
    exact rQ
  ·have R:¬x.2<y.2:=λz=>jF (gH.mpr c) (O.mpr z)
   rw?
   refine ⟨rfl,x,_,L,rfl,λz I=>?_⟩
   rw [Z] at I
   rcases i8.mp I with q | q
   ·exact B z q
   ·obtain rfl:z=y:=by simpa using q
    exact kH.mp R
 ·rintro M J ⟨rfl,x,v2,L,rfl,B⟩
  rw?
  refine k x L λy G=>B y ?_
  have e:(fh u).length=u.length:=iI ..
  rw [e,qN]
  exact G
def qc:dR 1 [iA,dQ,"quotient"] yw:=0#t
def NY (F:fU K "smallest" yw f fd) (dP:O5 P w K mg base):0#b 2 f fd [iA] Ea:=by
 refine F.fq qc 0#a
 obtain ⟨l,u,n,rfl,O,Y,hn,U,k⟩:=h
 have g0:u[0]?=some u[0]:=jE U
 apply bI ⟨_,(aq (aV 1 qc.nd (Jd.iL K 0#A)) (aq (iV j9 rfl (gQ K 0#A) (cG (i:=2) qc.nd rfl 0#D) (aA (bK (bx oZ (cg dP hr 0#P 0#H) aH 1#a) (aA (aV 1 qc.nd 0#P)) bL))) (aA (aW 0#H)))),?_⟩
 apply ie O (v:=.ref (u[0]).1) (iS (j:=0) (by unfold fh;rw [gF,g0];rfl)) ?_
 apply jy (lJ ?_)
 refine ⟨l,rfl,⟨_,bS.of O⟩,gX (xs:=fh u) (λi N L=>L=H/\∃(x:ah×Rat) (v:Option V),x∈u/\N=[some (.ref l),some (.ref x.1),v]/\∀y∈u.take i,x.2<=y.2) ?_ ?_ ?_ ?_⟩
 ·exact ⟨rfl,u[0],none,Ut U,rfl,λy G=>by simp at G⟩
 ·rintro i N L _ ⟨rfl,_⟩
  exact bS.of O
 ·rintro i v N L hx ⟨rfl,x,v2,M,rfl,B⟩
  obtain ⟨y,S,rfl⟩:=N6 hx
  have G:=g8 S
  have Z:u.take (i+1)=u.take i++[y]:=by rw [yI,S];rfl
  rw?
  apply ⟨y.1,x.1,y.2,x.2,n,n,rfl,Y y G,Y x M,by try?,λo C7 I=>?_⟩
  refine cJ 0#K 0#K
  ·have R:=I.mp (kO c)
   rw?
   refine ⟨rfl,y,_,G,rfl,λz J=>?_⟩
   rw [Z] at J
   rcases i8.mp J with q | q
   ·have:=B z q
    grind
   ·obtain rfl:z=y:=by simpa using q
    exact rQ
  ·have R:¬y.2<x.2:=λz=>jF (gH.mpr c) (I.mpr z)
   rw?
   refine ⟨rfl,x,_,M,rfl,λz J=>?_⟩
   rw [Z] at J
   rcases i8.mp J with q | q
   ·exact B z q
   ·obtain rfl:z=y:=by simpa using q
    exact kH.mp R
 ·rintro N L ⟨rfl,x,v2,M,rfl,B⟩
  rw?
  refine k x M λy G=>B y ?_
  have e:(fh u).length=u.length:=iI ..
  rw [e,qN]
  exact G
def Du (F:fU K "loose_slope" jL f fd) (bh:0#c 1 "loose_minus" [aT,aI] (j7 (·-·) 1)):0#b 3 f fd [aT,aI] BS:=by
 refine F.fq dI 0#a
 obtain ⟨p,r,t,D,q,U,n,S,m,rfl,⟨v,N,R,zt⟩,⟨Y,z,B,G⟩,ht,hn,k⟩:=h
 apply bI ⟨_,(aq (aV 2 dI.nd (cg bh hr (aO K 0#H) 1#d)) (aq (aV 3 dI.nd (aX dF (aO K 0#H) 1#d)) (aq (bK (bx oZ 0#X aH 1#a) (aA (aW (b9 (bN (iu eG (aO K 0#P)) (aX bE (aO K 0#P) (iu eG 0#X)))))) bL) (aA (aW (b9 (bN (aO K 0#P) (aX bE (aO K 0#P) 0#X)))))))),?_⟩
 refine ⟨Y,v,U,q,S,n,rfl,B,R,by try?,λx H1 s1 e1=>?_⟩
 obtain ⟨a,b,hx,O,Z,J⟩:=e1
 have hp1:=s1 _ _ N
 have hr1:=s1 _ _ z
 have L:Sz (m+1) (D-t):=G.sub zt
 rw?
 refine cJ 0#K 0#K
 ·have c':D-t<0:=kO c
  try?
 ·rw?
  apply jP (dG J L 0#u) ?_
  refine aG (mk:=.tup) 0#w λy M s2 n2 e2=>?_
  have I:=O.div (s:=D-t) 0#u
  rw [yK] at I
  exact k y M 1#h ⟨_,_,e2,I,Z.mono 0#u,(J.mul L).mono 0#u⟩
def bW:dR 3 [br,c5,aJ,"start",dQ,jh,ji,"place",aM,"value",gK,"gentle","steeper"] qE:=0#t
abbrev aex P w K mg base:=Dn P w K mg base 3 "loose_slope" [aT,aI] BS
abbrev aey P w K mg base:=Dn P w K mg base 2 "greatest" [iA] LY
def Ft (F:fU K "good_behind" qE f fd) (T:Txt mg) (dP:O5 P w K mg base) (cE:0#c 1 "loose_plus" [aT,aI] (j7 (·+·) 1)) (bh:0#c 1 "loose_minus" [aT,aI] (j7 (·-·) 1))
 (cM:aex P w K mg base) (iw:aey P w K mg base) (lC:0#c 2 "smallest" [iA] Ea):0#b 4 f fd [br,c5,aJ] LX:=by
 refine F.fq bW 0#a
 obtain ⟨l,pb,es,i,n,O,β,rfl,hl,hR,hS,jJ,hi,m5,hb,hn,hnb,k⟩:=h
 obtain ⟨xi,gi,fi⟩:=dM hR hS hi
 apply bI ⟨_,(aq (aV 3 bW.nd (cY (lX K) 0#A 0#H 0#B)) (aq (aV 4 bW.nd (fM gT)) (aq (aV 5 bW.nd eF) (aq (aV 6 bW.nd eF) (aq (iV j9 rfl (Jd.oG rfl T.range (bN (aX dN 0#H aH) (ir K T.kK 0#A))) (cG (i:=7) bW.nd rfl 0#D) (aq (aV 8 bW.nd (aO K (cY (lX K) 0#A (aa 7) 0#B))) (aq (aV 9 bW.nd (aO K (cY (lX K) 0#A (aa 7) 0#B))) (aq (aV 10 bW.nd (cg cM hr 0#X (cY (lX K) 0#A (aa 7) 0#B))) (aq (aV 11 bW.nd (cg cM hr 0#X (b9 (bN (aa 8) (cg bh hr (aa 9) 0#P))))) (aq (aV 12 bW.nd (cg cM hr 0#X (b9 (bN (aa 8) (cg cE hr (aa 9) 0#P))))) (aq (bK (bx sI (aa 5) eF 1#a) (aq (aV 5 bW.nd (aa 11)) (aq (aV 6 bW.nd (aa 12)) (aq (dB (d9 K (aa 4) (aa 7)) (hs:=cU)) (aA Jd.uS)))) bL) (aq (bK (iW (mw (bx Jr (cg dP hr (aa 5) (aa 10)) aH 1#a) (mz (bx Jr (cg dP hr (aa 10) (aa 6)) aH 1#a)))) (aA (dB (d9 K (aa 4) (aa 7)) (hs:=cU))) bL) (aq (aV 5 bW.nd (Jd.c1 iw hr (fM (bN (aa 5) (aa 11))))) (aA (aV 6 bW.nd (Jd.c1 lC hr (fM (bN (aa 6) (aa 12))))))))))))))) (aA (aW (aa 4)))))))),?_⟩
 apply ie hl (fE gi rfl) ?_
 apply aG (mk:=.lst) 0#w λR H1 s1 n1 e1=>?_
 apply jy (Lv ?_)
 refine gR (.inl (bS.of (s1 _ _ hl))) ?_
 rw [aY]
 rw?
 refine ⟨_,_,rfl,⟨by lia,by lia,by lia,by lia⟩,iP (λm σ H3=>Xs9 λ(I:List Nat) (gv sv:V) (v7 v8 v9 ak al Wg:Option V)=>σ=[some (.ref l),some (.int i),some (.ref pb),some (.ref xi.1),some (.ref R),some gv,some sv,v7,v8,v9,ak,al,Wg] /\
  ao H H3/\H3 R=some (.lst (gY I))/\I.length<=m/\(∀j,j∈I↔i<j/\j<i+1+m/\Good es β i j)/\((m=0/\gv=.bM)\/(0<m/\∃(pg ps:ah) (G S:Rat),gv=.ref pg/\sv=.ref ps/\ck H3 pg G (3*n+O+3)/\ck H3 ps S (3*n+O+3) /\
   (∀k,i<k->k<i+1+m->kL es β i k<=G/\S<=iU es β i k)/\(∃k,i<k/\k<i+1+m/\kL es β i k=G)/\∃k,i<k/\k<i+1+m/\iU es β i k=S))) ?_ ?_ ?_⟩
 ·exact ⟨[],.bM,.bM,none,none,none,none,none,none,rfl,s1,e1,jV _,λj=>⟨λz=>absurd z 0#w,λz=>absurd z 0#u⟩,.inl ⟨rfl,rfl⟩⟩
 ·rintro m σ H3 hm ⟨I,gv,sv,v7,v8,v9,ak,al,Wg,rfl,U,e3,av,L,hI⟩
  refine fP λM Bk RR hM _ _=>?_
  have hp:i+1+m<es.length:=by try?
  obtain ⟨xp,gp,fp⟩:=dM (hR.up U) hS hp
  obtain ⟨vp,ep,as,aL⟩:=id fp
  have ht:=jK jJ (show i<i+1+m by try?) hp
  have ai:=U _ _ hl
  rw?
  apply ie ai (fE gp 0#u) ?_
  apply ie ai (fE gp 0#u) ?_
  apply ie ai (fE gp 0#u) ?_
  apply ⟨xi.1,xp.1,_,_,_,_,n,n,n,rfl,(fi.up U).saq,fp.saq,ht,by try?,λac H4 s4 f4=>?_⟩
  apply ⟨vp,pb,_,_,n,O,rfl,(as.up s4).qt,hb.up (U.trans s4),by try?,λy5 H5 s5 f5=>?_⟩
  refine aG (mk:=.tup) 0#w λy6 H6 s6 n6 e6=>?_
  have aE:=s4.trans (s5.trans s6)
  apply ⟨xi.1,y6,_,_,_,_,n,n+O+1,n,rfl,(fi.up (U.trans aE)).saq,⟨y5,e6,f5.up s6,aL⟩,ht,by try?,λJ H7 s7 f7=>?_⟩
  have aj:=aE.trans s7
  apply ⟨vp,pb,_,_,n,O,rfl,(as.up aj).qt,hb.up (U.trans aj),by try?,λy8 H8 s8 f8=>?_⟩
  refine aG (mk:=.tup) 0#w λy9 H9 s9 n9 e9=>?_
  have aK:=aj.trans (s8.trans s9)
  refine ⟨xi.1,y9,_,_,_,_,n,n+O+1,n,rfl,(fi.up (U.trans aK)).saq,⟨y8,e9,f8.up s9,aL⟩,ht,by try?,λQX um uU a6=>?_⟩
  have Z:=aK.trans uU
  have Yq:=s8.trans (s9.trans uU)
  have Ho:=Z _ _ e3
  have af:ck um J (kL es β i (i+1+m)) (3*n+O+3):=(f7.up Yq).mono 0#u
  have W5:ck um QX (iU es β i (i+1+m)) (3*n+O+3):=a6.mono 0#u
  have ap:ck um ac (slo es i (i+1+m)) (3*n+2):=(f4.up ((s5.trans (s6.trans s7)).trans Yq)).mono 0#u
  have ar:((i:Int)+1+(m:Int))=((i+1+m:Nat):Int):=by try?
  rw?
  rcases hI with ⟨rfl,rfl⟩ | ⟨hm0,pg,ps,G,S,rfl,rfl,hG,ag,ad,am,an⟩
  ·apply ⟨rfl,?_⟩
   apply cD ?_
   apply ⟨.inl ⟨rfl,_,bS.of Ho⟩,?_⟩
   rw [ar]
   apply gB Ho (by rw [j3];exact bg 0#u) ?_
   refine hM _ _ ⟨I++[i+1+0],_,_,_,_,_,_,_,_,rfl,bP (U.trans Z) n1,by rw [au,<- sG],by rw [jf];show I.length+1<=1;try?,λj=>?_,.inr ⟨by try?,J,QX,_,_,rfl,rfl,af.app Ho,W5.app Ho,λk h1 h2=>?_,⟨i+1+0,by try?,by try?,rfl⟩,⟨i+1+0,by try?,by try?,rfl⟩⟩⟩
   ·have a7:I=[]:=Zg.mp 0#u
    rw [a7]
    constructor
    ·intro z
     obtain rfl:j=i+1+0:=by simpa using z
     exact ⟨by try?,by try?,λk h1 h2=>by try?⟩
    ·rintro ⟨h1,h2,_⟩
     have:j=i+1+0:=by try?
     simp [this]
   ·obtain rfl:k=i+1+0:=by try?
    exact ⟨rQ,rQ⟩
  ·apply ⟨rfl,?_⟩
   refine bO ?_
   have v:∀{P:Prop},(G<=slo es i (i+1+m)/\slo es i (i+1+m)<=S)=P->(Good es β i (i+1+m)↔P):=λe=>by
    rw [<- e]
    constructor
    ·intro g
     obtain ⟨k1,a1,b1,c1⟩:=am
     obtain ⟨k2,a2,b2,c2⟩:=an
     exact ⟨by rw [<- c1];exact ((EJ jJ a1 b1 hp).mp (g k1 a1 b1)).1,by rw [<- c2];exact ((EJ jJ a2 b2 hp).mp (g k2 a2 b2)).2⟩
    ·rintro ⟨g1,g2⟩ k h1 h2
     obtain ⟨l1,l2⟩:=ad k h1 h2
     exact (EJ jJ h1 h2 hp).mpr ⟨by grind,by grind⟩
   have keep:¬Good es β i (i+1+m)->∀j,j∈I↔i<j/\j<i+1+(m+1)/\Good es β i j:=λng j=>by
    rw [L j]
    constructor
    ·rintro ⟨a,b,c⟩
     exact ⟨a,by try?,c⟩
    ·rintro ⟨a,b,c⟩
     refine ⟨a,?_,c⟩
     by_cases hj:j=i+1+m
     ·subst hj
      exact absurd c ng
     ·try?
   have ay:Good es β i (i+1+m)->∀j,j∈I++[i+1+m]↔i<j/\j<i+1+(m+1)/\Good es β i j:=λg j=>by
    rw [i8,L j,JM]
    constructor
    ·rintro (⟨a,b,c⟩ | rfl)
     ·exact ⟨a,by try?,c⟩
     ·exact ⟨by try?,by try?,g⟩
    ·rintro ⟨a,b,c⟩
     by_cases hj:j=i+1+m
     ·exact .inr hj
     ·exact .inl ⟨a,by try?,c⟩
   with_reducible refine Q8 ?_
   with_reducible refine iY (λaN H'=>∃Wb:List Nat,aN=[some (.ref l),some (.int (i:Int)),some (.ref pb),some (.ref xi.1),some (.ref R),some (.ref pg),some (.ref ps),some (.int ((i:Int)+1+(m:Int))),some (.int (mo es (i+1+m))),some (.ref vp),some (.ref ac),some (.ref J),some (.ref QX)]/\ao H H'/\(∀{p:ah} {q:Rat},ck um p q (3*n+O+3)->ck H' p q (3*n+O+3))/\H' R=some (.lst (gY Wb))/\Wb.length<=m+1/\∀j,j∈Wb↔i<j/\j<i+1+(m+1)/\Good es β i j) (λaN H' hP=>?_) (λN hN=>?_)
   rotate_left
   ·rw?
    refine ⟨pg,ac,_,_,_,_,rfl,hG.up Z,ap,by try?,λo C7 ho2=>?_⟩
    have no:¬Good es β i (i+1+m)->N _ um:=λng=>hN _ _ ⟨I,rfl,U.trans Z,λf=>f,Ho,by try?,keep ng⟩
    rw?
    refine cJ (λc1=>?_) (λc1=>?_)
    ·have Eu:G<=slo es i (i+1+m):=kH.mp λz=>by
      have:=C7.mpr z
      have:=kO c1
      try?
     rw?
     apply ⟨ac,ps,_,_,_,_,rfl,ap,ag.up Z,by try?,λo2 Jf ho4=>?_⟩
     refine cJ (λc2=>?_) (λc2=>?_)
     ·have aR:slo es i (i+1+m)<=S:=kH.mp λz=>by
       have:=Jf.mpr z
       have:=kO c2
       try?
      rw?
      apply ⟨.inl ⟨rfl,_,bS.of Ho⟩,?_⟩
      refine gB Ho (by rw [j3];exact bg 0#u) ?_
      exact hN _ _ ⟨I++[i+1+m],rfl,bP (U.trans Z) n1,λf=>f.app Ho,by rw [au,ar,<- sG],by rw [jf];show I.length+1<=m+1;try?,ay ((v rfl).mpr ⟨Eu,aR⟩)⟩
     ·rw?
      refine no λg=>?_
      have h1:¬0<o2:=λq=>by
       have:=Jf.mp q
       have:=((v rfl).mp g).2
       grind
      have h2:=jF (gH.mpr c2)
      try?
    ·apply bO ?_
     refine no λg=>?_
     have h1:¬0<o:=λq=>by
      have:=C7.mp q
      have:=((v rfl).mp g).1
      grind
     have h2:=jF (gH.mpr c1)
     try?
   obtain ⟨Wb,rfl,sH,lq,a5,a9,aQ⟩:=hP
   rw?
   apply aG (mk:=.lst) 0#w λa' H12 Y n12 aU=>?_
   refine ⟨a',[(pg,G),(J,kL es β i (i+1+m))],3*n+O+3,rfl,aU,λx hx=>?_,by try?,Z5 _,λx hx yU=>?_⟩
   ·rcases (show x=(pg,G)\/x=(J,kL es β i (i+1+m)) by simpa using hx) with rfl | rfl
    ·exact (lq (hG.up Z)).up Y
    ·exact (lq af).up Y
   rw?
   apply aG (mk:=.lst) 0#w λba H13 JC n13 aZ=>?_
   refine ⟨ba,[(ps,S),(QX,iU es β i (i+1+m))],3*n+O+3,rfl,aZ,λy hy=>?_,by try?,Z5 _,λy hy ae=>?_⟩
   ·rcases (show y=(ps,S)\/y=(QX,iU es β i (i+1+m)) by simpa using hy) with rfl | rfl
    ·exact (lq (ag.up Z)).up (Y.trans JC)
    ·exact (lq W5).up (Y.trans JC)
   rw?
   have JB:=Y.trans JC
   have aw:(x=(pg,G)\/x=(J,kL es β i (i+1+m))):=by simpa using hx
   have ax:(y=(ps,S)\/y=(QX,iU es β i (i+1+m))):=by simpa using hy
   have x1:=yU (pg,G) 0#w
   have x2:=yU (J,kL es β i (i+1+m)) 0#w
   have y1:=ae (ps,S) 0#w
   have y2:=ae (QX,iU es β i (i+1+m)) 0#w
   refine hM _ _ ⟨Wb,_,_,_,_,_,_,_,_,rfl,sH.trans JB,JB _ _ a5,a9,aQ,.inr ⟨by try?,x.1,y.1,x.2,y.2,rfl,rfl,?_,?_,λk h1 h2=>?_,?_,?_⟩⟩
   ·rcases aw with rfl | rfl
    ·exact (lq (hG.up Z)).up JB
    ·exact (lq af).up JB
   ·rcases ax with rfl | rfl
    ·exact (lq (ag.up Z)).up JB
    ·exact (lq W5).up JB
   ·by_cases hk:k=i+1+m
    ·subst hk
     exact ⟨x2,y2⟩
    ·obtain ⟨l1,l2⟩:=ad k h1 0#u
     exact ⟨xo l1 x1,xo y1 l2⟩
   ·rcases aw with rfl | rfl
    ·obtain ⟨k1,a1,b1,c1⟩:=am
     exact ⟨k1,a1,by try?,c1⟩
    ·exact ⟨i+1+m,by try?,by try?,rfl⟩
   ·rcases ax with rfl | rfl
    ·obtain ⟨k1,a1,b1,c1⟩:=an
     exact ⟨k1,a1,by try?,c1⟩
    ·exact ⟨i+1+m,by try?,by try?,rfl⟩
 ·rintro σ H3 ⟨I,gv,sv,v7,v8,v9,ak,al,Wg,rfl,U,e3,av,L,hI⟩
  rw?
  have a8:I.length<=es.length:=by
   clear hI L
   try?
  refine k R I H3 U n1 e3 a8 λj=>?_
  rw [L j]
  have e:i+1+((es.length:Int)-((i:Int)+1)).toNat=es.length:=by
   clear hI L
   try?
  rw [e]
def Ab:dR 3 [br,aJ,"tied",dQ,c5,"good"] LC:=0#t
def XF (F:fU K "leaps" LC f fd) (T:Txt mg) (qm:0#c 4 "good_behind" [br,c5,aJ] LX):0#b 5 f fd [br,aJ,"tied"] LZ:=by
 refine F.fq Ab 0#a
 obtain ⟨l,pb,es,n,nb,β,M,rfl,hl,hR,hS,jJ,m5,hb,hn,ak,k⟩:=h
 apply bI ⟨_,(aq (aV 3 Ab.nd (fM gT)) (aq (iV j9 rfl (E1 rfl T.range (cP (ir K T.kK 0#A))) (cG (i:=4) Ab.nd rfl 0#D) (aq (aV 5 Ab.nd (Jd.c3 qm hr 0#A (aa 4) 0#H)) (aA (dB (d9 K 0#X (wM (gw 0#P) (aa 5) (aX Bq (fM (cP (aX dN (aa 4) aH))) (pR (O:=[dh]) (N':=[]) (cap:=[]) rfl (gQ K (aa 5)) (λ_ _ _ _ _=>(cG (i:=0) (show mL [("last":Str)] by decide +kernel) rfl 0#D)) (λ_ _ _ _ _=>oX) (λ_ _ _ _ _=>(aX dN 0#A aH)) rfl trivial rfl 0#x rfl 0#x)))) (hs:=cU))))) (aA (aW 0#X)))),?_⟩
 apply aG (mk:=.lst) 0#w λI H1 s1 n1 e1=>?_
 apply jy (Bv ?_)
 refine gR (.inl (bS.of (s1 _ _ hl))) ?_
 rw [aY]
 rw?
 refine ⟨_,rfl,by lia,by lia,iP (λm σ H3=>Xs3 λ(B:List (ah×List Nat)) (v4 v5:Option V)=>σ=[some (.ref l),some (.ref pb),some (.bl M),some (.ref I),v4,v5]/\ao H H3/\Wi H3 I B/\B.length=m/\Ek es β M B) ?_ ?_ ?_⟩
 ·exact ⟨[],none,none,rfl,s1,⟨e1,λx v=>absurd v 0#w⟩,rfl,λi x v=>by simp at v⟩
 ·rintro m σ H3 hm ⟨B,v4,v5,rfl,s3,hL,J,Y⟩
  have Z:m<es.length:=by try?
  rw [show (0:Int)+(m:Int)=(m:Int) by try?]
  rw?
  refine ⟨l,pb,es,m,n,nb,β,rfl,s3 _ _ hl,hR.up s3,hS,jJ,Z,m5,hb.up s3,hn,ak,λR js H4 s4 nR eR hjl U=>?_⟩
  have DN:=hL.up s4
  have am:R≠I:=λz=>by
   rw [z,hL.at_] at nR
   cases nR
  have small:(B.map λx=>V.ref x.1).length<sizeLine:=by rw [iI];exact bg 0#u
    -- one list more
  have ad:∀(L:ah) (Wb:List Nat) (H5:Hp) (v4 v5:Option V),ao H4 H5->H5 L=some (.lst (gY Wb))->L≠I->Wb.length<=es.length+1->(∀j,j∈Wb↔se es β M m j) ->
   Xs3 λ(ac:List (ah×List Nat)) (w4 w5:Option V)=>[some (.ref l),some (.ref pb),some (.bl M),some (.ref I),v4,v5]=[some (.ref l),some (.ref pb),some (.bl M),some (.ref I),w4,w5]/\ao H (upd H5 I (.lst (B.map (λx=>V.ref x.1)++[.ref L])))/\Wi (upd H5 I (.lst (B.map (λx=>V.ref x.1)++[.ref L]))) I ac/\ac.length=m+1/\Ek es β M ac:=by
   intro L Wb H5 v4 v5 s5 ag al aj S
   refine ⟨B++[(L,Wb)],v4,v5,rfl,bP ((s3.trans s4).trans s5) n1,(DN.up s5).push ag al,by rw [jf,J];rfl,λi x v=>?_⟩
   by_cases hi:i<B.length
   ·rw [Mr hi] at v
    exact Y i x v
   ·rw [Sg 0#u] at v
    have ai:i-B.length=0:=by
     have:=(tP.mp v).1
     simp at this
     try?
    rw [ai] at v
    obtain rfl:(L,Wb)=x:=by simpa using v
    have:i=m:=by try?
    subst this
    exact ⟨aj,S⟩
  rw?
  apply ⟨.inl ⟨rfl,_,bS.of DN.at_⟩,?_⟩
  cases M with
  | true=>
    apply cD ?_
    refine gB DN.at_ small ?_
    exact ad R js H4 _ _ 0#V eR am 0#u λj=>by
     unfold se
     rw [if_pos rfl]
     exact U j
  | false=>
    apply bO ?_
    apply aG (mk:=.lst) 0#w λl5 H5 s5 n5 e5=>?_
    apply lJ ?_
    refine ⟨R,rfl,⟨_,bS.of (s5 _ _ eR)⟩,?_⟩
    refine d8 (xs:=gY js) dm (λH6 s6=>bS.of (s6 _ _ (s5 _ _ eR))) (by rw [j3];try?) (λi ys G=>ys=gY ((js.take i).map (·+1))) rfl ?_ ?_
    ·rintro D i x ys H6 nQ N N0 h0 hD eD s6 v hy rfl kY kN
     obtain ⟨j,gj,rfl⟩:=NF v
     have tk:js.take (i+1)=js.take i++[j]:=by rw [yI,gj];rfl
     apply jB h0 ?_
     apply cD ?_
     refine kY _ H6 0#V ?_
     rw [tk,jM]
     exact sG _ (j+1)
    ·rintro D ys H6 hD eD s6 hy rfl
     rw [j3,qN] at eD
     refine Jy (s6 _ _ e5) eD ?_
     refine aG (mk:=.lst) (by rw [jf,j3,iI];simp;try?) λR7 H7 s7 n7 e7=>?_
     have ae:=s5.trans (s6.trans s7)
     have af:H7 R7=some (.lst (gY ((m+1)::js.map (·+1)))):=e7
     rw?
     refine gB (DN.up ae).at_ small ?_
     refine ad R7 ((m+1)::js.map (·+1)) H7 _ _ ae af (λz=>?_) (by simp;try?) λj=>?_
     ·rw [z,((DN.up s5).up s6).at_] at n7
      cases n7
     ·unfold se
      rw [if_neg pJ,kM,kc]
      constructor
      ·rintro (rfl | ⟨j',S,rfl⟩)
       ·exact ⟨Z,.inl rfl⟩
       ·obtain ⟨a,b,c⟩:=(U j').mp S
        exact ⟨Z,.inr ⟨by try?,by try?,c⟩⟩
      ·rintro ⟨_,rfl | ⟨a,b,c⟩⟩
       ·exact .inl rfl
       ·exact .inr ⟨j-1,(U (j-1)).mpr ⟨by try?,by try?,c⟩,by try?⟩
 ·rintro σ H3 ⟨B,v4,v5,rfl,s3,hL,J,Y⟩
  rw?
  exact k I B H3 s3 n1 hL 0#u Y
def aix (N:Nat) (h:1<=N):[V.int 0]++(ow ((N:Int)-1).toNat [V.int (N:Int)]).flatten=rf N (λj=>if j=0 then 0 else (N:Int)):=by
 obtain ⟨m,rfl⟩:∃m,N=m+1:=⟨N-1,by try?⟩
 have e:(((m+1:Nat):Int)-1).toNat=m:=by try?
 rw [e]
 unfold rf
 first|exact adb|refine adb ?_|refine adb ?_ ?_
 intro i
 by_cases hi:i<m+1
 ·rw [zj hi]
  cases i with
  | zero=>rfl
  | succ i=>
    show ((ow m [V.int ((m+1:Nat):Int)]).flatten)[i]?=_
    rw [show (ow m [V.int ((m+1:Nat):Int)]).flatten=ow m (V.int ((m+1:Nat):Int)) from List.flatten_replicate_singleton]
    rw [Oo,if_pos 0#u]
    rfl
 ·rw [acM (by rw [jf,len_rep];simp;try?),acM (by simp;try?)]
def ku:dR 2 [dQ,"many","told",c5,"behind",dh] uY:=0#t
def KW (F:fU K "labels_by" uY f fd) (T:Txt mg):0#b 1 f fd [dQ,"many"] D9:=by
 refine F.fq ku 0#a
 obtain ⟨FF,rs,N,L,rfl,hF,h1,m5,hNr,hrN,af,M,hs,k⟩:=h
 apply bI ⟨_,(aq (aV 2 ku.nd (aX Bq (fM (cP aH)) (aX afS (fM (cP 0#H)) (aX dF 0#H aH)))) (aq (iV j9 rfl (Jd.DX K rfl T.EG (cP 0#A)) (Jd.QM K (n:=2) rfl (iE (cG (i:=3) ku.nd rfl 0#D) (iE (cG (i:=4) ku.nd rfl 0#D) rj))) (aA (iV j9 rfl (gQ K (aa 4)) (cG (i:=5) ku.nd rfl 0#D) (aA (Jd.qy (eE (aa8 rfl) rfl T.aa9 Ue (bN (cY (lX K) 0#P (aa 5) 0#B) (aX dN (cY (lX K) 0#P 0#X 0#B) aH)) (he:=An) (hpl:=(cO YL bZ))) (Jd.QU 0#P (aa 5) set_list)))))) (aA (aW 0#P)))),?_⟩
 apply aG (mk:=.lst) 0#w λl1 H1 s1 n1 e1=>?_
 apply aG (mk:=.lst) 0#w λl2 H2 s2 n2 e2=>?_
 refine aii e2 0#z 0#z ?_
 apply aG (mk:=.lst) (by rw [len_rep];simp;try?) λl3 H3 s3 n3 e3=>?_
 refine Jy (s3 _ _ (s2 _ _ e1)) e3 ?_
 refine aG (mk:=.lst) (by rw [jf,len_rep];simp;try?) λR H4 s4 n4 e4=>?_
 rw [aix N h1] at e4
 have lZ:=s1.trans (s2.trans s3)
 have nR:H R=none:=lZ.free n4
 have Hs:=lZ.trans s4
 rw?
 apply jy (Yi ?_)
 refine ⟨FF,_,rfl,bS.of (hF.up Hs).at_,WN (xs:=rs.map λx=>V.ref x.1) (λg J O=>Xs4 λ(t:Nat->Int) (v3 v4 v5:Option V)=>J=[some (.ref FF),some (.int (N:Int)),some (.ref R),v3,v4,v5]/\ao H O/\O R=some (.lst (rf N t))/\r9 L N g t) ?_ ?_ ?_ ?_⟩
 ·exact ⟨_,none,none,none,rfl,Hs,e4,r9.start⟩
 ·rintro g J O _ ⟨t,v3,v4,v5,rfl,s5,_⟩
  exact bS.of (hF.up s5).at_
 ·rintro g v J O p H6 hx ⟨t,v3,v4,v5,rfl,s5,e5,S⟩ s6 np ep
  rw [gF] at hx
  obtain ⟨x,gx,rfl⟩:=Sh.mp hx
  have hg:g<rs.length:=(tP.mp gx).1
  have G:g<N:=by try?
  have I:=af g x gx
  have ex:=(hF.each x (g8 gx)).1
  have Ht:=s5.trans s6
  have tf0:=S.lo g G
  have tf1:=S.hi g G
  apply JA ep ?_
  apply jy (lJ ?_)
  refine ⟨x.1,rfl,⟨_,bS.of (Ht _ _ ex)⟩,gX (xs:=gY x.2) (λm J Z=>Xs2 λ(u:Nat->Int) (w5:Option V)=>J=[some (.ref FF),some (.int (N:Int)),some (.ref R),some (.int (g:Int)),some (.ref x.1),w5]/\ao H Z/\Z R=some (.lst (rf N u)) /\
   ∀j,j<N->(j∈x.2.take m->u j=if t g+1<t j then t g+1 else t j)/\(j∉x.2.take m->u j=t j)) ?_ ?_ ?_ ?_⟩
  ·exact ⟨t,_,rfl,Ht,s6 _ _ e5,λj _=>⟨λz=>by simp at z,λ_=>rfl⟩⟩
  ·rintro m J Z _ ⟨u,w5,rfl,s7,_⟩
   exact bS.of (s7 _ _ ex)
  ·rintro m v J Z hv ⟨u,w5,rfl,s7,e7,Y⟩
   obtain ⟨j,gj,rfl⟩:=NF hv
   have U:=(I j).mp (g8 gj)
   obtain ⟨hgj,ae⟩:=M g j U
   have tk:x.2.take (m+1)=x.2.take m++[j]:=by rw [yI,gj];rfl
   have ng:g∉x.2.take m:=λz=>by
    have:=M g g ((I g).mp (acP z))
    try?
   have ug:=(Y g G).2 ng
   rw?
   apply Cq ?_
   apply ie e7 (qU ae rfl) ?_
   apply ie e7 (qU G rfl) ?_
   refine agl e7 (j:=j) (by rw [vP];exact Xf 0#u 0#u) ?_
   refine ⟨λi=>if i=j then (if u g+1<u j then u g+1 else u j) else u i,_,rfl,bP s7 nR,?_,λi hi=>?_⟩
   ·rw [au]
    unfold rf
    rw [Ib]
    refine congrArg (λz=>some (HO.lst z)) (Ox λi _=>?_)
    by_cases e:i=j
    ·simp [e]
    ·simp [e]
   ·rw [tk,ug]
    obtain ⟨ac,ad⟩:=Y i hi
    refine ⟨λz=>?_,λz=>?_⟩
    ·by_cases e:i=j
     ·subst e
      show (if i=i then _ else _)=_
      rw [if_pos rfl]
      by_cases hm:i∈x.2.take m
      ·rw [ac hm]
       by_cases q:t g+1<t i
       ·rw [if_pos q,if_neg 0#u]
       ·rw [if_neg q,if_neg q]
      ·rw [ad hm]
     ·show (if i=j then _ else _)=_
      rw [if_neg e]
      rcases i8.mp z with q | q
      ·exact ac q
      ·exact absurd (by simpa using q) e
    ·have e:i≠j:=λq=>z (by rw [q];simp)
     show (if i=j then _ else _)=_
     rw [if_neg e]
     exact ad λq=>z (Hh _ q)
  ·rintro J Z ⟨u,w5,rfl,s7,e7,Y⟩
   rw [j3,qN] at Y
   refine ⟨u,_,_,_,rfl,s7,e7,S.step (λj U=>(M g j U).1) (λj U=>⟨λz=>(Y j U).1 ((I j).mpr z),λz=>(Y j U).2 λq=>z ((I j).mp q)⟩) G⟩
 ·rintro J O ⟨t,v3,v4,v5,rfl,s5,e5,S⟩
  rw [iI] at S
  rw?
  exact k R t O s5 nR e5 (S.done hs 0#u)
def fu (bJ:Bool):Nat:=if bJ=true then 0 else 1
def Vs (hk:k<a) (ha:a<es.length+fu bJ):se es β bJ k a↔Good es β k (a-fu bJ):=by
 unfold se fu at *
 cases bJ with
 | true=>
   rw [if_pos rfl] at ha ⊢
   rw [if_pos rfl]
   exact ⟨λz=>z.2.2,λz=>⟨hk,by try?,z⟩⟩
 | false=>
   rw [if_neg pJ] at ha ⊢
   rw [if_neg pJ]
   constructor
   ·rintro ⟨_,rfl | ⟨_,_,g⟩⟩
    ·exact λk' h1 h2=>by try?
    ·exact g
   ·intro g
    refine ⟨by try?,?_⟩
    by_cases e:a=k+1
    ·exact .inl e
    ·exact .inr ⟨by try?,by try?,g⟩
def Xh (hF:MD (se es β bJ) (es.length+fu bJ) t) (hij:i<j) (hj:j<es.length+fu bJ) (akT:t j>t i+1):i+1<j-fu bJ/\j-fu bJ<es.length/\∃k,i<k/\k<j-fu bJ/\β<gO (sd es i k (j-fu bJ)):=by
 have hsh:fu bJ<=1:=by unfold fu;split <;> try?
 have u:¬se es β bJ i j:=λz=>by
  have:=hF.le i j hij hj z
  try?
 rw [Vs hij hj] at u
 have:∃k,i<k/\k<j-fu bJ/\β<gO (sd es i k (j-fu bJ)):=by
  first|exact Zf|refine Zf ?_|refine Zf ?_ ?_
  intro z
  first|exact u|refine u ?_|refine u ?_ ?_
  intro k v A
  first|exact kH.mp|refine kH.mp ?_|refine kH.mp ?_ ?_
  intro q
  exact z ⟨k,v,A,q⟩
 obtain ⟨k,v,A,B⟩:=this
 exact ⟨by try?,by try?,k,v,A,B⟩
inductive Gx (vs:List V) (H:Hp) (Q:VK) (E_:XK):Prop where
 | mk (l T:ah) (es:0#h) (n:Nat) (β:Rat) (bJ:Bool) (t:Nat->Int):vs=[.ref l,.ref T,.bl bJ]->H l=some 0#R->Row H es n->nU es->rising es->1<=es.length->es.length<=30->n<=900->H T=some (.lst (rf (es.length+fu bJ) t))->MD (se es β bJ) (es.length+fu bJ) t->(∀(R:ah) (H':Hp),ao H H'->Q (.ref R) H')->Gx vs H Q E_
def lS:dR 3 [br,"told","tied",dQ,c5,dh,"end","mid"] Bx:=0#t
def Qp (F:fU K "bars_by" Bx f fd) (T:Txt mg) (lA:0#c 4 "loose_farthest" [br,c5,dh] RC):0#b 5 f fd [br,"told","tied"] Gx:=by
 refine F.fq lS 0#a
 obtain ⟨l,TT,es,n,β,J,t,rfl,hl,hR,hS,jJ,h1,h30,hn,eT,hF,k⟩:=h
 have hsh:fu J<=1:=by unfold fu;split <;> try?
 generalize hN:es.length+fu J=N at *
 apply bI ⟨_,(aq (aV 3 lS.nd (fM gT)) (aq (iV j9 rfl (E1 rfl T.range (cP (ir K T.kK 0#H))) (cG (i:=4) lS.nd rfl 0#D) (aA (iV j9 rfl (Jd.oG rfl T.range (bN (aX dN (aa 4) aH) (ir K T.kK 0#H))) (cG (i:=5) lS.nd rfl 0#D) (aA (bK (bx iF (cY (lX K) 0#H (aa 5) 0#B) (aX dN (cY (lX K) 0#H (aa 4) 0#B) aH) 1#a) (aq (aV 6 lS.nd (wM (gw 0#P) (aa 5) (aX dF (aa 5) aH))) (aq (aV 7 lS.nd (aO K (Jd.c3 lA hr 0#A (aa 4) (aa 6)))) (aA (dB (d9 K 0#X (b9 (Jd.a3 (aO K (cY (lX K) 0#A (aa 4) 0#B)) (aO K (cY (lX K) 0#A (aa 7) 0#B)) (aO K (cY (lX K) 0#A (aa 6) 0#B))))) (hs:=cU))))) bL))))) (aA (aW 0#X)))),?_⟩
 apply aG (mk:=.lst) 0#w λR H1 s1 n1 e1=>?_
 apply jy (Bv ?_)
 refine gR (.inl (bS.of (s1 _ _ eT))) ?_
 rw [vP]
 rw?
 refine ⟨_,rfl,by lia,by lia,iP (λi O S=>Xs5 λ(ts:0#n) (v4 v5 v6 v7:Option V)=>O=[some (.ref l),some (.ref TT),some (.bl J),some (.ref R),v4,v5,v6,v7]/\ao H S/\S R=some (.lst ts)/\ts.length<=31*i) ?_ ?_ ?_⟩
 ·exact ⟨[],none,none,none,none,rfl,s1,e1,gI _⟩
 ·rintro i O S hi ⟨ts,v4,v5,v6,v7,rfl,s3,e3,ac⟩
  refine fP λM Bk RR hM _ _=>?_
  have af:i<N:=by try?
  rw [show (0:Int)+(i:Int)=(i:Int) by try?]
  rw?
  apply jy (Lv ?_)
  refine gR (.inl (bS.of (s3 _ _ eT))) ?_
  rw [vP]
  rw?
  refine ⟨_,_,rfl,⟨by lia,by lia,by lia,by lia⟩,iP (λm O U=>Xs4 λ(L:0#n) (w5 w6 w7:Option V)=>O=[some (.ref l),some (.ref TT),some (.bl J),some (.ref R),some (.int (i:Int)),w5,w6,w7]/\ao H U/\U R=some (.lst L)/\L.length<=31*i+m) ?_ ?_ ?_⟩
  ·exact ⟨ts,_,_,_,rfl,s3,e3,ac⟩
  ·rintro m O U hm ⟨L,w5,w6,w7,rfl,v,e4,ag⟩
   refine fP λM2 B2 R2 Z _ _=>?_
   have hp:i+1+m<N:=by try?
   rw [show (i:Int)+1+(m:Int)=((i+1+m:Nat):Int) by try?]
   have Y:=v _ _ eT
   have G:=v _ _ hl
   rw?
   apply ie Y (qU hp rfl) ?_
   apply ie Y (qU af rfl) ?_
   refine cJ (λc1=>?_) (λc1=>?_)
   ·have Eu:t (i+1+m)>t i+1:=kO c1
    obtain ⟨q1,q2,_⟩:=Xh (by rw [hN];exact hF) (show i<i+1+m by try?) (by rw [hN];exact hp) Eu
    obtain ⟨xi,gi,vi,ei,_⟩:=dM (hR.up v) hS (show i<es.length by try?)
    obtain ⟨xj,gj,vj,ej,_⟩:=dM (hR.up v) hS q2
    with_reducible refine iY (λad H'=>ad=[some (.ref l),some (.ref TT),some (.bl J),some (.ref R),some (.int (i:Int)),some (.int ((i+1+m:Nat):Int)),some (.int ((i+1+m-fu J:Nat):Int)),w7]/\U=H') (λad H' hP=>?_) (λN hN=>?_)
    rotate_left
    ·rw?
     cases J with
     | true=>
       apply cD ?_
       exact hN _ _ ⟨rfl,rfl⟩
     | false=>
       apply bO ?_
       rw [show ((i+1+m:Nat):Int)-1=((i+1+m-fu false:Nat):Int) by (have:fu false=1:=rfl);try?]
       exact hN _ _ ⟨rfl,rfl⟩
    obtain ⟨rfl,rfl⟩:=hP
    rw?
    refine ⟨l,es,i,i+1+m-fu J,n,rfl,G,hR.up v,hS,jJ,by try?,q2,by try?,hn,λz=>absurd z 0#u,λ_ z p kk H5 I e5 f5 ae=>?_⟩
    obtain ⟨xk,gk,vk,ek,_⟩:=dM (hR.up (v.trans I)) hS (show kk<es.length by have:=ae.hi;try?)
    have ei5:=I _ _ ei
    have ej5:=I _ _ ej
    rw?
    apply ⟨.inl ⟨rfl,_,bS.of (I _ _ e4)⟩,?_⟩
    apply ie (I _ _ G) (fE gi rfl) ?_
    apply ie (I _ _ G) (fE gk rfl) ?_
    apply ie (I _ _ G) (fE gj rfl) ?_
    apply aG (mk:=.tup) 0#w λy H6 s6 n6 e6=>?_
    refine gB ((I.trans s6) _ _ e4) (bg 0#z) ?_
    exact Z _ _ ⟨L++[.ref y],_,_,_,rfl,bP (v.trans (I.trans s6)) n1,au,by rw [jf,JH];simp?⟩
   ·rw?
    exact Z _ _ ⟨L,_,_,_,rfl,v,e4,by simp?⟩
  ·rintro O U ⟨L,w5,w6,w7,rfl,v,e4,ag⟩
   exact hM _ _ ⟨L,_,_,_,_,rfl,v,e4,by simp?⟩
 ·rintro O S ⟨ts,v4,v5,v6,v7,rfl,s3,e3,ac⟩
  rw?
  exact k R S s3
def Sl {α β:Type} (R:α->β->Prop):List α->List β->Prop
 | [],[]=>True
 | a::as,b::bs=>R a b/\Sl R as bs
 | _,_=>False
def EF:∀{as:List α} {bs:List β},Sl R as bs->R a b->Sl R (as++[a]) (bs++[b])
 | [],[],_,r=>⟨r,trivial⟩
 | _::_,_::_,h,r=>⟨h.1,EF h.2 r⟩
 | [],_::_,h,_=>h.elim
 | _::_,[],h,_=>h.elim
def rD:∀(i:Nat) (r:List α),r∈parts s es i->r≠[]/\(∀x∈r,s x=true)/\r.Sublist (es.take i)
 | 0,r,h=>absurd h (by simp [parts])
 | i+1,r,h=>by
   have ih:=rD (s:=s) (es:=es) i
   have up:∀r:List α,r.Sublist (es.take i)->r.Sublist (es.take (i+1)):=λr q=>q.trans (List.take_sublist_take_left (OT _))
   unfold parts at h
   cases e:es[i]? with
   | none=>rw [e] at h;exact ⟨(ih r h).1,(ih r h).2.1,up r (ih r h).2.2⟩
   | some y=>
     rw [e] at h
     have tk:es.take (i+1)=es.take i++[y]:=by rw [yI,e];rfl
     dsimp only at h
     split at h
     ·rename_i hs
      split at h
      ·rename_i hr
       obtain ⟨t,r',hp⟩:=FJ hr
       have hm:r'∈parts s es i:=by rw [hp];simp
       have hgl:(parts s es i).getLast?.getD []=r':=by rw [hp];simp
       rcases i8.mp h with z | z
       ·have q:=ih r (List.dropLast_sublist _ |>.subset z)
        exact ⟨q.1,q.2.1,up r q.2.2⟩
       ·obtain rfl:r=((parts s es i).getLast?.getD [])++[y]:=by simpa using z
        rw [hgl]
        refine ⟨by simp,λx hx=>?_,by rw [tk];exact ajo (ih r' hm).2.2 (ajv _)⟩
        rcases i8.mp hx with q | q
        ·exact (ih r' hm).2.1 x q
        ·obtain rfl:x=y:=by simpa using q
         exact hs
      ·rcases i8.mp h with z | z
       ·exact ⟨(ih r z).1,(ih r z).2.1,up r (ih r z).2.2⟩
       ·obtain rfl:r=[y]:=by simpa using z
        refine ⟨by simp,λx hx=>?_,by rw [tk];exact List.sublist_append_right _ _⟩
        obtain rfl:x=y:=by simpa using hx
        exact hs
     ·exact ⟨(ih r h).1,(ih r h).2.1,up r (ih r h).2.2⟩
abbrev Pc:=ah×(Rat×Rat×Rat×Rat)
def MG (H:Hp) (x:Pc) (n:Nat):Prop:=∃a b c d:ah,H x.1=some (.tup [.ref a,.ref b,.ref c,.ref d])/\c8 H a x.2.1 n/\c8 H b x.2.2.1 n/\c8 H c x.2.2.2.1 n/\c8 H d x.2.2.2.2 n
def MG.mv (t:0#p) (f:MG H x n):MG H' x n:=by
 obtain ⟨a,b,c,d,e,u,v,z,A⟩:=f
 have m:∀{b:ah} {q:Rat},c8 H b q n->c8 H' b q n:=λf=>let ⟨x,d,e,f⟩:=f;⟨x,d,t e,f⟩
 exact ⟨a,b,c,d,t e,m u,m v,m z,m A⟩
def MG.up (f:MG H x n) (s:ao H H'):MG H' x n:=f.mv λe=>s _ _ e
noncomputable def rG (ps:List Pc):0#n:=ps.map λx=>V.ref x.1
def Bu (ps:List Pc):(rG ps).length=ps.length:=iI ..
def AllP (H:Hp) (ps:List Pc) (n:Nat):Prop:=∀x∈ps,MG H x n
def AllP.up (h:AllP H ps n) (s:ao H H'):AllP H' ps n:=λx hx=>(h x hx).up s
def AllP.app (h:AllP H ps n) (e:H R=some (.lst ys)):AllP (upd H R o) ps n:=λx hx=>(h x hx).mv λ{b xs} z=>by
 rw [aF (λq=>by rw [q,e] at z;cases z)]
 exact z
def AllP.append (h:AllP H ps n) (h':AllP H qs n):AllP H (ps++qs) n:=λx hx=>by
 rcases i8.mp hx with z | z
 ·exact h x z
 ·exact h' x z
def Y5 (Pv:St->Hp->Prop) (μ:St->Hp->Nat) (h0:Pv σ H)
 (hs:∀σ H,Pv σ H->∀R:Bool->Hp->Prop,(∀H1,(∀M:St->Hp->Prop,(∀σ' H',Pv σ' H'->μ σ' H'<μ σ H->M σ' H')->tb { D with nx:=M,ct:=M,bk:=D.nx } σ H1)->R true H1)->(∀H1,D.nx σ H1->R false H1)->c σ H R):GQ c tb D σ H:=by
 refine ⟨λm σ H=>m=μ σ H/\Pv σ H,⟨_,rfl,h0⟩,?_⟩
 rintro m σ H ⟨rfl,p⟩
 refine hs σ H p _ (λH1 q=>?_) (λH1 q=>?_)
 ·rw [if_pos rfl]
  exact ⟨λσ' H'=>Pv σ' H'/\μ σ' H'<μ σ H,λσ' H' ⟨u,l⟩=>⟨_,l,rfl,u⟩,q _ λ_ _ a b=>⟨a,b⟩⟩
 ·rw [if_neg pJ]
  exact q
def agR (L:Nat->Nat->Prop) (t:Nat->Int) (a p:Nat):Prop:=a<p/\L a p/\t a+1=t p/\∀k,k<a->¬(L k p/\t k+1=t p)
inductive Way (L:Nat->Nat->Prop) (t:Nat->Int):Nat->List (Nat×Nat)->Prop
 | nil:Way L t 0 []
 | cons {a p:Nat} {ps:List (Nat×Nat)}:agR L t a p->Way L t a ps->Way L t p (ps++[(a,p)])
def Way.lt (h:Way L t p ps):∀x∈ps,x.1<x.2/\x.2<=p:=by
 induction h with
 | nil=>intro x u;exact absurd u 0#w
 | @cons a p ps f w ih=>
   intro x u
   rcases i8.mp u with z | z
   ·have:=ih x z
    have:=f.1
    try?
   ·obtain rfl:x=(a,p):=by simpa using z
    exact ⟨f.1,gI _⟩
def Way.len (h:Way L t p ps):ps.length<=p:=by
 induction h with
 | nil=>exact gI _
 | cons f w ih=>
   rw [jf,JH]
   have:=f.1
   try?
noncomputable def abv (es:0#h) (i j:Nat):Rat×Rat×Rat×Rat:=((mo es i:Rat),wo es i,(mo es j:Rat),wo es j)
def Told (es:0#h) (β:Rat) (bJ:Bool) (l:List (Rat×Rat×Rat×Rat)):Prop:=∃(t:Nat->Int) (ps:List (Nat×Nat)),MD (se es β bJ) (es.length+fu bJ) t/\Way (se es β bJ) t (es.length+fu bJ-1) ps/\l=(if es.length+fu bJ=1 then [(0,0)] else ps).map (λx=>abv es x.1 (x.2-fu bJ))
abbrev Pr:=ah×Nat×Nat
noncomputable def Iq (ps:List Pr):0#n:=ps.map λx=>V.ref x.1
def FY (ps:List Pr):(Iq ps).length=ps.length:=iI ..
def Sj (H:Hp) (ps:List Pr):Prop:=∀x∈ps,H x.1=some (.tup [.int (x.2.1:Int),.int (x.2.2:Int)])
def Kd (h:(jg p).filter f=a::r):f a=true/\a<p/\∀k,k<a->f k=false:=by
 have E:a∈(jg p).filter f:=by rw [h];simp
 have A:=wW.mp E
 have D:=wD.mp A.1
 refine ⟨A.2,D,λk hk=>?_⟩
 cases e:f k with
 | false=>rfl
 | true=>
   have v:k∈(jg p).filter f:=wW.mpr ⟨wD.mpr 0#u,e⟩
   have B:((jg p).filter f).Pairwise (·<·):=ajf _ List.pairwise_lt_range
   rw [h] at v B
   rcases kM.mp v with z | z
   ·try?
   ·have:=(List.pairwise_cons.mp B).1 k z
    try?
open Classical in
def goes (L:Nat->Nat->Prop) (t:Nat->Int) (p k:Nat):Bool:=decide (L k p/\t k+1=t p)
def Nm {j:Nat}:O1 (.int (j:Int)) (gY js)=true↔j∈js:=by
 unfold O1 gY
 rw [List.any_eq_true]
 constructor
 ·rintro ⟨v,z,e⟩
  obtain ⟨k,u,rfl⟩:=kc.mp z
  have:(k:Int)=(j:Int):=by simpa [WH] using e
  rw [show j=k by try?]
  exact u
 ·intro h
  exact ⟨_,kc.mpr ⟨j,h,rfl⟩,by simp [WH]⟩
inductive GI (vs:List V) (H:Hp) (Q:VK) (E_:XK):Prop where
 | mk (F T:ah) (rs:List (ah×List Nat)) (N:Nat) (L:Nat->Nat->Prop) (t:Nat->Int):vs=[.ref F,.ref T]->Wi H F rs->H T=some (.lst (rf N t))->1<=N->N<=900->N<=rs.length+1->(∀i x,rs[i]?=some x->∀j,j∈x.2↔L i j)->MD L N t->(∀(R:ah) (ps:List Pr) (H':Hp),ao H H'->H R=none->H' R=some (.lst (Iq ps))->Sj H' ps->Way L t (N-1) (ps.map (·.2))->Q (.ref R) H')->GI vs H Q E_
inductive BL (vs:List V) (H:Hp) (Q:VK) (E_:XK):Prop where
 | mk (x y:ah) (m m':Int) (q q':Rat) (n:Nat):vs=[.ref x,.ref y]->jl H x m q n->jl H y m' q' n->1<=n->(∀(p:ah) (H':Hp),ao H H'->MG H' (p,(m:Rat),q,(m':Rat),q') n->Q (.ref p) H')->BL vs H Q E_
inductive BZ (vs:List V) (H:Hp) (Q:VK) (E_:XK):Prop where
 | mk (l pb:ah) (es:0#h) (n nb:Nat) (β:Rat) (bJ:Bool):vs=[.ref l,.ref pb,.bl bJ]->H l=some 0#R->Row H es n->nU es->rising es->1<=es.length->es.length<=30->ck H pb β nb->1<=n->n<=900->nb<=1000->(∀(y X Z:ah) (ps:List Pc) (H':Hp),ao H H'->H' y=some (.tup [.ref X,.ref Z])->H X=none->H' X=some (.lst (rG ps))->AllP H' ps n->Told es β bJ (ps.map (·.2))->Q (.ref y) H')->BZ vs H Q E_
section
open Classical in
def uH:goes L t p k=true↔L k p/\t k+1=t p:=by unfold goes;exact Zv
def Pa {i:Nat} {v:V} (h:xs[i]?=some v):uD xs (i:Int)=some v:=by
 unfold uD
 rw [Xf 0#z (by have:=(tP.mp h).1;simp?)]
 exact h
noncomputable def intAt (σ:St) (i:Nat):Nat:=match σ.getD i none with | some (.int i)=>i.toNat | _=>0
def zU (h:i<p):((jg p).take (i+1)).filter f=((jg p).take i).filter f++(if f i=true then [i] else []):=Oq f (jg p) i i (by rw [OY h])
def NG (js:List Nat) (j:Nat):gY js++[.int (j:Int)]=gY (js++[j]):=by simp [gY]
def fB:dR 2 [dQ,"told","pairs","place","ahead"] jS:=0#t
def wB (F:fU K "places_of_pieces" jS f fd) (T:Txt mg):0#b 1 f fd [dQ,"told"] GI:=by
 refine F.fq fB 0#a
 obtain ⟨FF,TT,rs,N,L,t,rfl,hF,eT,h1,m5,hNr,ad,ae,k⟩:=h
 apply bI ⟨_,(aq (aV 2 fB.nd (fM gT)) (aq (nK (i:=3) fB.nd rfl (Or.inr rfl) (aX dF (ir K T.kK 0#H) aH) (hs:=agx)) (aq (Jd.mC j9 (bx iF 0#X aH 1#a) (aq (Jd.oh (O:=[c5]) (N':=["place","told" ,"found" ]) (cap:=[3,1,0]) (i:=4) fB.nd rfl 0#D rfl (E1 rfl T.range (cP 0#X)) (λ_ _ _ _ _=>(cG (i:=0) (show mL [("first":Str),("place":Str),("told":Str),("found":Str)] by decide +kernel) rfl 0#D)) (λ_ _ _ _ _=>(Jd.pU (iW (mw (bx cN (aX dN (cY (lX K) 0#P 0#A 0#B) aH) (cY (lX K) 0#P 0#H 0#B) 1#a) (mz (bx (EY K) 0#H (cY (lX K) 0#X 0#A 0#B) rfl)))))) (λ_ _ _ _ _=>0#A) rfl ⟨0#T,⟨0#T,⟨0#T,trivial⟩⟩⟩ rfl 0#x rfl 0#x (by rfl)) (aq (dB (d9 K 0#P (b9 (bN (Jd.iL K (aa 4)) 0#X))) (hs:=cU)) (aA (nK (i:=3) fB.nd rfl (Or.inr rfl) (Jd.iL K (aa 4)) (hs:=YM)))))) (aq (dB (Jd.agp K 0#P) (hs:=cU)) (aA (aW 0#P)))))),?_⟩
 apply aG (mk:=.lst) 0#w λR H1 s1 n1 e1=>?_
 refine gR (.inl (bS.of (s1 _ _ eT))) ?_
 rw [vP]
 rw?
 refine Y5 (λσ J=>Xs3 λ(p:Nat) (ps:List Pr) (v4:Option V)=>σ=[some (.ref FF),some (.ref TT),some (.ref R),some (.int (p:Int)),v4]/\ao H J/\J R=some (.lst (Iq ps))/\Sj J ps/\p<N/\ps.length+p<=N/\∀qs,Way L t p qs->Way L t (N-1) (qs++(ps.map (·.2)).reverse)) (λσ _=>intAt σ 3) ?_ ?_
 ·exact ⟨N-1,[],none,by rw [show (N:Int)-1=((N-1:Nat):Int) by simp?];rfl,s1,e1,λx u=>absurd u 0#w,by simp?,by simp,λqs h=>by simpa using h⟩
 rintro σ J ⟨p,ps,v4,rfl,s3,e3,ac,hp,hlen,S⟩ RR hy hn
 rw?
 by_cases h0:0<(p:Int)
 ·rw [jN h0]
  refine hy _ λM hM=>?_
  have af:=s3 _ _ eT
  rw?
  apply Bv ?_
  refine ⟨_,rfl,by lia,by lia,?_⟩
  refine d8 VR (λ_ _=>trivial) (by simp;lia) (λi zs G=>zs=gY (((jg p).take i).filter (goes L t p))) rfl ?_ ?_
  ·rintro D i x zs H4 nQ NN N0 ap hD U I u hz rfl kY kN
   have hi:i<p:=by
    have:=(tP.mp u).1
    simpa using this
   obtain rfl:x=.int (0+(i:Int)):=by
    rw [gF,OY (by simpa using hi)] at u
    exact (uf u).symm
   rw [show (0:Int)+(i:Int)=(i:Int) by simp?]
   have tk:=zU (f:=goes L t p) hi
   refine jB ap ?_
   have Y:=I _ _ af
   rw?
   apply ie Y (qU (show i<N by simp?) rfl) ?_
   apply ie Y (qU hp rfl) ?_
   have no:¬(L i p/\t i+1=t p)->N0 H4:=λz=>by
    refine kN H4 0#V ?_
    rw [tk,if_neg (λq=>z (uH.mp q)),Ar]
   refine cJ (λc1=>?_) (λc1=>?_)
   ·have EV:i<rs.length:=by simp?
    have gx:rs[i]?=some rs[i]:=jE EV
    have ex:=((hF.up (s3.trans I)).each _ (g8 gx)).1
    rw?
    apply ie (hF.up (s3.trans I)).at_ (Pa (by rw [gF,gx];rfl)) ?_
    refine ⟨_,_,rfl,.inl (bS.of ex),rfl,?_,?_⟩
    ·exact ZF.mpr λv hv=>by
      obtain ⟨j,_,rfl⟩:=kc.mp hv
      rfl
    ·rw?
     show if O1 (.int (p:Int)) (gY rs[i].2)=true then _ else _
     refine cJ (λc2=>?_) (λc2=>?_)
     ·rw?
      refine kY _ H4 0#V ?_
      rw [tk,if_pos (uH.mpr ⟨(ad i _ gx p).mp (Nm.mp c2),kO c1⟩)]
      exact NG _ _
     ·exact no λz=>c2 (Nm.mpr ((ad i _ gx p).mpr z.1))
   ·refine bO ?_
    exact no λz=>c1 (jN z.2)
  ·rintro D zs H4 hD U I hz rfl
   rw [iI,adj,show (p:Int).toNat=p by simp?,Zk 0#w] at U
   obtain ⟨i0,ak,ag,ht0⟩:=ae.ex p 0#z hp
   have hm:i0∈(jg p).filter (goes L t p):=wW.mpr ⟨wD.mpr ak,uH.mpr ⟨ag,by simp?⟩⟩
   obtain ⟨a,r,Z⟩:∃a r,(jg p).filter (goes L t p)=a::r:=by
    cases e:(jg p).filter (goes L t p) with
    | nil=>rw [e] at hm;exact absurd hm 0#w
    | cons a r=>exact ⟨a,r,rfl⟩
   obtain ⟨ha,aj,al⟩:=Kd Z
   obtain ⟨ai,an⟩:=uH.mp ha
   rw [Z] at U
   have e4:=I _ _ e3
   rw?
   apply ⟨.inl ⟨rfl,_,bS.of e4⟩,?_⟩
   apply ie U (Pa (i:=0) rfl) ?_
   apply aG (mk:=.tup) 0#w λy H5 s5 n5 e5=>?_
   apply gB (s5 _ _ e4) (by rw [FY];exact bg 0#z) ?_
   have nD:D≠R:=λz=>by rw [z,e3] at hD;cases hD
   apply ie (by rw [aF nD];exact s5 _ _ U) (Pa (i:=0) rfl) ?_
   refine hM _ _ ⟨a,ps++[(y,a,p)],_,rfl,bP ((s3.trans I).trans s5) n1,by rw [au];simp [Iq],λx u=>?_,by simp?,by simp;simp?,λqs hq=>?_⟩ ?_
   ·refine Ct R H5 _ _ _ (lK (s5 _ _ e4) ?_)
    rcases i8.mp u with z | z
    ·exact (I.trans s5) _ _ (ac x z)
    ·obtain rfl:x=(y,a,p):=by simpa using z
     exact e5
   ·rw [jM,List.reverse_append]
    have:=S (qs++[(a,p)]) (.cons ⟨aj,ai,an,λk hk z=>absurd ((al k hk).symm.trans (uH.mpr z)) 0#y⟩ hq)
    simpa using this
   ·show (a:Int).toNat<(p:Int).toNat
    simp?
 ·rw [mJ h0]
  refine hn _ ?_
  have am:p=0:=by simp?
  subst am
  rw?
  refine ⟨.inl ⟨rfl,_,bS.of e3⟩,?_⟩
  apply aik e3 ?_
  refine k R ps.reverse _ (bP s3 n1) n1 (by rw [au,Iq,Iq,adv]) (λx u=>Ct R J _ _ _ (lK e3 (ac x (List.mem_reverse.mp u)))) ?_
  rw [adv]
  exact S [] .nil
def BK:dR 2 [aT,aI] nB:=0#t
def Bl (F:fU K "piece_between" nB f fd) (T:Txt mg):0#b 1 f fd [aT,aI] BL:=by
 refine F.fq BK 0#a
 obtain ⟨x,y,m,L,q,q',n,rfl,⟨v,R,U,Z⟩,⟨Y,S,z,G⟩,J,k⟩:=h
 apply bI ⟨_,(aA (aW (b9 (Jd.a4 (b9 (bN 1#d aH)) 1#d (b9 (bN (aO K 0#H) aH)) (aO K 0#H))))),?_⟩
 refine aG (mk:=.tup) 0#w λa H1 D n1 e1=>?_
 have ex1:=D _ _ R
 have u:=D _ _ S
 rw?
 refine aG (mk:=.tup) 0#w λb H2 M n2 e2=>?_
 have ey2:=M _ _ u
 rw?
 refine aG (mk:=.tup) 0#w λc O N n3 e3=>?_
 have I:=M.trans N
 have B:=D.trans I
 exact k c O B ⟨a,v,b,Y,e3,⟨m,1,I _ _ e1,Fr.whole m,Z,xY J⟩,U.up B,⟨L,1,N _ _ e2,Fr.whole L,G,xY J⟩,z.up B⟩
def aa3 (hL:se es β bJ i j):i<j/\j<es.length+fu bJ:=by
 unfold se at hL
 unfold fu
 cases bJ with
 | true=>
   rw [if_pos rfl] at *
   exact ⟨hL.1,hL.2.1⟩
 | false=>
   rw [if_neg pJ] at *
   rcases hL with ⟨a,rfl | ⟨b,c,_⟩⟩
   ·exact ⟨by try?,by try?⟩
   ·exact ⟨by try?,by try?⟩
def Vt (h0:0<j) (hj:j<es.length+fu bJ):se es β bJ (j-1) j:=by
 unfold se
 unfold fu at hj
 cases bJ with
 | true=>
   rw [if_pos rfl] at *
   exact ⟨by try?,hj,λk h1 h2=>by try?⟩
 | false=>
   rw [if_neg pJ] at *
   exact ⟨by try?,.inl 0#u⟩
def jd:dR 3 ["run",aJ,"tied",dQ,"told","pairs","back","pieces"] yz:=0#t
def N1 (F:fU K "tied_run" yz f fd) (T:Txt mg) (JY:0#c 5 "leaps" [br,aJ,"tied"] LZ) (uv:0#c 1 "labels_by" [dQ,"many"] D9) (jR:0#c 1 "places_of_pieces" [dQ,"told"] GI) (mW:0#c 1 "piece_between" [aT,aI] BL) (AD:0#c 5 "bars_by" [br,"told","tied"] Gx):0#b 6 f fd ["run",aJ,"tied"] BZ:=by
 refine F.fq jd 0#a
 obtain ⟨l,pb,es,n,nb,β,v,rfl,hl,hR,hS,jJ,h1,ak,hb,al,hn,am,k⟩:=h
 have hsh:fu v<=1:=by unfold fu;split <;> try?
 apply bI ⟨_,(aq (aV 3 jd.nd (Jd.c3 JY hr 0#A 0#H 0#P)) (aq (aV 4 jd.nd (cg uv hr 0#X (wM (gw 0#P) (ir K T.kK 0#A) (aX dN (ir K T.kK 0#A) aH)))) (aq (aV 5 jd.nd (cg jR hr 0#X (aa 4))) (aq (bK (iW (mw (gw 0#P) (mz (bx cN (ir K T.kK 0#A) aH 1#a)))) (aA (aV 5 jd.nd (fM (cP (b9 (bN aH aH)))))) bL) (aq (nK (i:=6) jd.nd rfl (Or.inr rfl) (wM (gw 0#P) aH aH) (hs:=akJ)) (aq (Jd.oh (O:=[c5,dh]) (N':=["run","back" ]) (cap:=[0,6]) (i:=7) jd.nd rfl 0#D rfl (gQ K (aa 5)) (λ_ _ _ _ _=>(Jd.QM K (n:=2) rfl (iE (cG (i:=0) (show mL [("first":Str),("last":Str),("run":Str),("back":Str)] by decide +kernel) rfl 0#D) (iE (cG (i:=1) (show mL [("first":Str),("last":Str),("run":Str),("back":Str)] by decide +kernel) rfl 0#D) rj)))) (λ_ _ _ _ _=>oX) (λ_ _ _ _ _=>(ko mW 0#G rfl (eV (cY (lX K) 0#P 0#A 0#B) (eV (cY (lX K) 0#P (aX dF 0#H 0#X) 0#B) gT An) An) (he:=An) (hpl:=(cO An bZ)))) rfl ⟨0#T,⟨0#T,trivial⟩⟩ rfl 0#x rfl 0#x (by rfl)) (aA (aW (b9 (bN (aa 7) (b9 (bN (aa 4) (Jd.c3 AD hr 0#A (aa 4) 0#P))))))))))))),?_⟩
 refine ⟨l,pb,es,n,nb,β,v,rfl,hl,hR,hS,jJ,by try?,hb,by try?,am,λFF rs H1 s1 nF hF hlen af=>?_⟩
 refine ab7 ?_
 refine iY (λJ U=>Xs2 λ(TT:ah) (t:Nat->Int)=>J=[some (.ref l),some (.ref pb),some (.bl v),some (.ref FF),some (.ref TT),none,none,none]/\ao H1 U/\U TT=some (.lst (rf (es.length+fu v) t))/\MD (se es β v) (es.length+fu v) t) (λJ U hP=>?_) (λN u=>?_)
 rotate_left
 ·have go:∀(Q':VK) (E':XK),(∀(TT:ah) (t:Nat->Int) (U:Hp),ao H1 U->U TT=some (.lst (rf (es.length+fu v) t))->MD (se es β v) (es.length+fu v) t->Q' (.ref TT) U)->D9 [.ref FF,.int ((es.length+fu v:Nat):Int)] H1 Q' E':=λQ' E' kk=>⟨FF,rs,_,se es β v,rfl,hF,by try?,by try?,by try?,by try?,λi x L=>(af i x L).2,λi j hL=>aa3 hL,λj h0 hj=>Vt h0 hj,λR t U s2 nR eR Z=>kk R t U s2 eR Z⟩
  rw?
  have ai:=s1 _ _ hl
  cases v with
  | true=>
    apply cD ?_
    refine gR (.inl (bS.of ai)) ?_
    rw [aY]
    rw?
    exact go _ _ λTT t U s2 e2 Z=>u _ _ ⟨TT,t,rfl,s2,e2,Z⟩
  | false=>
    apply bO ?_
    refine gR (.inl (bS.of ai)) ?_
    rw [aY]
    rw?
    exact go _ _ λTT t U s2 e2 Z=>u _ _ ⟨TT,t,rfl,s2,e2,Z⟩
 obtain ⟨TT,t,rfl,s2,eT,Z⟩:=hP
 refine iY (λJ H3=>Xs2 λ(S:ah) (ps:List Pr)=>J=[some (.ref l),some (.ref pb),some (.bl v),some (.ref FF),some (.ref TT),some (.ref S),none,none]/\ao U H3/\H3 S=some (.lst (Iq ps))/\Sj H3 ps/\Way (se es β v) t (es.length+fu v-1) (ps.map (·.2))) (λJ H3 hP=>?_) (λN u=>?_)
 rotate_left
 ·rw?
  exact ⟨FF,TT,rs,_,_,t,rfl,hF.up s2,eT,by try?,by try?,by try?,λi x L=>(af i x L).2,Z,λS ps H3 s3 nP eP ad hw=>u _ _ ⟨S,ps,rfl,s3,eP,ad,hw⟩⟩
 obtain ⟨S,ps,rfl,s3,eP,ad,hw⟩:=hP
 refine iY (λJ H4=>Xs2 λ(S:ah) (I:List Pr)=>J=[some (.ref l),some (.ref pb),some (.bl v),some (.ref FF),some (.ref TT),some (.ref S),none,none]/\ao H3 H4/\H4 S=some (.lst (Iq I))/\Sj H4 I/\I.length<=31/\I.map (·.2)=if es.length+fu v=1 then [(0,0)] else ps.map (·.2)) (λJ H4 hP=>?_) (λN u=>?_)
 rotate_left
 ·have an:=hw.len
  rw [iI] at an
  have JC:=(s1.trans s2).trans s3
  have keep:es.length+fu v≠1->N [some (.ref l),some (.ref pb),some (.bl v),some (.ref FF),some (.ref TT),some (.ref S),none,none] H3:=λz=>u _ _ ⟨S,ps,rfl,ao.refl _,eP,ad,by try?,by rw [if_neg z]⟩
  rw?
  cases v with
  | true=>
    apply cD ?_
    refine gR (.inl (bS.of (JC _ _ hl))) ?_
    rw [aY]
    rw?
    refine cJ (λc1=>?_) (λc1=>?_)
    ·have Eu:(es.length:Int)=1:=kO c1
     rw?
     apply aG (mk:=.tup) 0#w λy H4 s4 n4 e4=>?_
     apply aG (mk:=.lst) 0#w λy' H5 s5 n5 e5=>?_
     refine u _ _ ⟨y',[(y,0,0)],rfl,s4.trans s5,e5,λx L=>?_,by simp,?_⟩
     ·obtain rfl:x=(y,0,0):=by simpa using L
      exact s5 _ _ e4
     ·rw [if_pos (show es.length+fu true=1 by show es.length+0=1;try?)]
      rfl
    ·rw?
     exact keep λz=>c1 (jN (by have:es.length+0=1:=z;try?))
  | false=>
    refine bO ?_
    apply bO ?_
    exact keep λz=>by have:es.length+1=1:=z;try?
 obtain ⟨S,I,rfl,s4,eP,aj,hl',ag⟩:=hP
 refine iY (λJ H5=>H5=H4/\J=[some (.ref l),some (.ref pb),some (.bl v),some (.ref FF),some (.ref TT),some (.ref S),some (.int (fu v:Int)),none]) (λJ H5 hP=>?_) (λN u=>?_)
 rotate_left
 ·rw?
  cases v with
  | true=>
    apply cD ?_
    exact u _ _ ⟨rfl,rfl⟩
  | false=>
    apply bO ?_
    exact u _ _ ⟨rfl,rfl⟩
 obtain ⟨rfl,rfl⟩:=hP
 have Wd:=((s1.trans s2).trans s3).trans s4
 have ap:∀x∈I,x.2.1<es.length/\x.2.2-fu v<es.length/\((x.2.2:Int)-(fu v:Int)=((x.2.2-fu v:Nat):Int)):=λx L=>by
  have Y:x.2∈I.map (·.2):=kc.mpr ⟨x,L,rfl⟩
  rw [ag] at Y
  by_cases hN:es.length+fu v=1
  ·rw [if_pos hN] at Y
   have:x.2=(0,0):=by simpa using Y
   rw [this]
   exact ⟨by try?,by try?,by try?⟩
  ·rw [if_neg hN] at Y
   have:=hw.lt _ Y
   exact ⟨by try?,by try?,by try?⟩
 rw?
 apply lJ ?_
 refine ⟨S,rfl,⟨_,bS.of eP⟩,?_⟩
 refine d8 (xs:=Iq I) dm (λH6 s6=>bS.of (s6 _ _ eP)) (by rw [FY];try?) (λi ys G=>∃XW:List Pc,ys=rG XW/\AllP G XW n/\XW.map (·.2)=(I.take i).map λx=>abv es x.2.1 (x.2.2-fu v)) ⟨[],rfl,λx L=>absurd L 0#w,rfl⟩ ?_ ?_
 ·rintro D i x ys H6 nQ NN N0 h0 hD eD s6 L hy ⟨XW,rfl,ac,M⟩ kY kN
  unfold Iq at L
  rw [gF] at L
  obtain ⟨x,gx,rfl⟩:=Sh.mp L
  have V9:=g8 gx
  obtain ⟨b1,b2,b3⟩:=ap x V9
  have tk:I.take (i+1)=I.take i++[x]:=by rw [yI,gx];rfl
  refine F4 h0 (s6 _ _ (aj x V9)) ?_
  have Ht:=Wd.trans s6
  obtain ⟨xi,gi,si⟩:=dM (hR.up Ht) hS b1
  obtain ⟨xj,gj,sj⟩:=dM (hR.up Ht) hS b2
  rw?
  apply cD ?_
  apply ie (Ht _ _ hl) (fE gi rfl) ?_
  apply ie (Ht _ _ hl) (fE gj b3) ?_
  refine ⟨xi.1,xj.1,_,_,_,_,n,rfl,si,sj,al,λp H7 s7 f7=>?_⟩
  refine kY _ H7 s7 ⟨XW++[(p,abv es x.2.1 (x.2.2-fu v))],by simp [rG],?_,by rw [tk,jM,jM,M];rfl⟩
  refine (ac.up (rK s7)).append λz hz=>?_
  obtain rfl:z=(p,abv es x.2.1 (x.2.2-fu v)):=by simpa using hz
  exact f7.mv λ{b xs} z=>lK (s7 _ _ eD) z
 ·rintro D ys H6 hD eD s6 hy ⟨XW,rfl,ac,M⟩
  rw [FY,qN] at M
  have Ht:=Wd.trans s6
  rw?
  apply ⟨l,TT,es,n,β,v,t,rfl,Ht _ _ hl,hR.up Ht,hS,jJ,h1,ak,hn,(s3.trans (s4.trans s6)) _ _ eT,Z,λR H7 s7=>?_⟩
  apply aG (mk:=.tup) 0#w λz H8 s8 n8 e8=>?_
  refine aG (mk:=.tup) 0#w λy H9 s9 n9 e9=>?_
  have ar:=s8.trans s9
  have ae:=s7.trans ar
  refine k y D z XW H9 (Ht.trans ae) e9 (Wd.free hD) (ae _ _ eD) (λx L=>(ac x L).mv λ{b xs} q=>ae _ _ (jt _ _ q)) ⟨t,ps.map (·.2),Z,hw,?_⟩
  rw [M,<- ag,Az]
  rfl
end
def Em (es:0#h) (β:Rat) (bJ:Bool) (m:Nat) (q:List (Rat×Rat×Rat×Rat)):Prop:=∃qss:List (List (Rat×Rat×Rat×Rat)),Sl (λr l=>Told r β bJ l) ((parts j6 es es.length).take m) qss/\q=qss.flatten
def Em.snoc (h:Em es β bJ m q) (hr:(parts j6 es es.length)[m]?=some r) (hl:Told r β bJ l):Em es β bJ (m+1) (q++l):=by
 obtain ⟨u,v,rfl⟩:=h
 refine ⟨u++[l],?_,by simp⟩
 rw [yI,hr]
 exact EF v hl
def Told.len (h:Told es β bJ l) (h1:1<=es.length):l.length<=es.length:=by
 obtain ⟨t,ps,_,w,rfl⟩:=h
 have hsh:fu bJ<=1:=by unfold fu;split <;> try?
 have:=w.len
 rw [iI]
 split
 ·exact h1
 ·try?
inductive rO (vs:List V) (H:Hp) (Q:VK) (E_:XK):Prop where
 | mk (l pb:ah) (es:0#h) (n nb:Nat) (β:Rat) (bJ:Bool):vs=[.ref l,.ref pb,.bl bJ]->H l=some 0#R->Row H es n->rising es->es.length<=40->(parts j6 es es.length).length<=33->(∀r∈parts j6 es es.length,r.length<=30)->ck H pb β nb->1<=n->n<=900->nb<=1000->(∀(y X Z:ah) (ps:List Pc) (H':Hp),ao H H'->H' y=some (.tup [.ref X,.ref Z])->H X=none->H' X=some (.lst (rG ps))->AllP H' ps n->ps.length<=990->Em es β bJ (parts j6 es es.length).length (ps.map (·.2))->Q (.ref y) H')->rO vs H Q E_
inductive vz (bJ:Bool) (vs:List V) (H:Hp) (Q:VK) (E_:XK):Prop where
 | mk (l pb:ah):vs=[.ref l,.ref pb]->rO [.ref l,.ref pb,.bl bJ] H Q E0->vz bJ vs H Q E_
def mF:dR 3 [cz,aJ,"tied","telling","paper","run","told"] yy:=0#t
def NZ (F:fU K "tied_row" yy f fd) (T:Txt mg) (r6:0#c 1 "runs" [cz] GL) (xH:0#c 6 "tied_run" ["run",aJ,"tied"] BZ):0#b 7 f fd [cz,aJ,"tied"] rO:=by
 refine F.fq mF 0#a
 obtain ⟨l,pb,es,n,nb,β,bJ,rfl,hl,hR,jJ,h30,h33,aj,hb,ap,hn,ar,k⟩:=h
 apply bI ⟨_,(aq (aV 3 mF.nd (fM gT)) (aq (aV 4 mF.nd (fM gT)) (aq (iV j9 rfl (gQ K (Jd.c1 r6 hr 0#A)) (cG (i:=5) mF.nd rfl 0#D) (aq (aV 6 mF.nd (Jd.c3 xH hr (aa 5) 0#H 0#P)) (aq (dB (Jd.MY K 0#X (aO K (aa 6))) (hs:=cU)) (aA (dB (d9 K (aa 4) (aO K (aa 6))) (hs:=cU)))))) (aA (aW (b9 (bN 0#X (aa 4)))))))),?_⟩
 apply aG (mk:=.lst) 0#w λX H1 s1 n1 e1=>?_
 refine aG (mk:=.lst) 0#w λZ H2 s2 n2 e2=>?_
 have fV:=s1.trans s2
 have ag:X≠Z:=λz=>by rw [<- z,e1] at n2;cases n2
 rw?
 apply jy (lJ ?_)
 refine ⟨l,es,n,rfl,fV _ _ hl,hR.up fV,by try?,λTT ls H3 s3 Hq ae _ _=>?_⟩
 have hpl:=Br (s:=j6) (es:=es) es.length
 have an:ls.length=(parts j6 es es.length).length:=by rw [<- ae,iI]
 refine ⟨TT,rfl,⟨_,bS.of Hq.at_⟩,gX (xs:=lrefs ls) (λi σ J=>Xs4 λ(ps:List Pc) (O:0#n) (v5 v6:Option V)=>σ=[some (.ref l),some (.ref pb),some (.bl bJ),some (.ref X),some (.ref Z),v5,v6]/\ao H J/\LL H2 J TT ls/\J X=some (.lst (rG ps))/\J Z=some (.lst O)/\O.length<=i/\AllP J ps n/\ps.length<=30*i/\Em es β bJ i (ps.map (·.2))) ?_ ?_ ?_ ?_⟩
 ·exact ⟨[],[],none,none,rfl,fV.trans s3,Hq,(s2.trans s3) _ _ e1,s3 _ _ e2,gI _,λx hx=>absurd hx 0#w,gI _,[],trivial,rfl⟩
 ·rintro i σ J _ ⟨ps,O,v5,v6,rfl,S,U,_⟩
  exact bS.of U.at_
 ·rintro i x σ J hx ⟨ps,O,v5,v6,rfl,S,U,eX,eZ,hz,N,ad,v⟩
  refine fP λM B R hM _ _=>?_
  obtain ⟨x,gx,rfl⟩:=rB hx
  have hi:i<ls.length:=(tP.mp gx).1
  have V9:=g8 gx
  have hp:(parts j6 es es.length)[i]?=some x.2:=by rw [<- ae,gF,gx];rfl
  obtain ⟨o1,o2,o3⟩:=rD es.length x.2 (g8 hp)
  rw [qN] at o3
  obtain ⟨_,ex,_⟩:=U.each x V9
  have af:1<=x.2.length:=JJ.mpr o1
  have akY:=aj _ (g8 hp)
  rw?
  refine ⟨x.1,pb,x.2,n,nb,β,bJ,rfl,ex,λz hz=>hR.up S z (o3.subset hz),o2,jJ.sublist o3,af,by try?,hb.up S,ap,hn,ar,λy X' Z' XW Y I ey nX' ak as ac=>?_⟩
  have ai:=ac.len af
  rw [iI] at ai
  have G:=I _ _ eX
  have al:=I _ _ eZ
  have am:=U.up I
  obtain ⟨a1,a2⟩:=Hq.own (s2 _ _ e1)
  obtain ⟨b1,b2⟩:=Hq.own e2
  rw?
  apply ⟨.inl ⟨rfl,_,bS.of G⟩,?_⟩
  refine Jz G ak (by rw [Bu,Bu];exact wG (bg 0#u)) ?_
  have L:upd Y X (.lst (rG ps++rG XW)) Z=some (.lst O):=by rw [aF (jx ag)];exact al
  have ey6:upd Y X (.lst (rG ps++rG XW)) y=some (.tup [.ref X',.ref Z']):=Ct X Y _ _ _ (lK G ey)
  rw?
  apply ⟨.inl ⟨rfl,_,bS.of L⟩,?_⟩
  refine gB L (bg 0#u) ?_
  refine hM _ _ ⟨ps++XW,O++[.ref Z'],_,_,rfl,bP (bP (S.trans I) (n1)) (s1.free n2),(am.other a1 a2).other b1 b2,?_,au,by simp;try?,((N.up I).append as).app G |>.app L,by simp;try?,?_⟩
  ·rw [aF ag,au,rG,rG,rG,jM]
  ·rw [jM]
   exact v.snoc hp ac
 ·rintro σ J ⟨ps,O,v5,v6,rfl,S,U,eX,eZ,hz,N,ad,v⟩
  rw [gn] at ad v
  rw?
  refine aG (mk:=.tup) 0#w λy Y I n5 e5=>?_
  rw [an] at v
  exact k y X Z ps Y (S.trans I) e5 n1 (I _ _ eX) (N.up I) 0#u v
def Yw:dR 2 [cz,aJ] LH:=0#t
def XN (F:fU K "spans" LH f fd) (T:Txt mg) (lE:0#c 7 "tied_row" [cz,aJ,"tied"] rO):0#b 8 f fd [cz,aJ] (vz false):=by
 refine F.fq Yw 0#a
 obtain ⟨l,pb,rfl,h⟩:=h
 apply bI ⟨_,(aA (aW (Jd.c3 lE hr 0#A 0#H j0))),?_⟩
 exact h
def Yt:dR 2 [cz,aJ] LB:=0#t
def XE (F:fU K "chain" LB f fd) (T:Txt mg) (lE:0#c 7 "tied_row" [cz,aJ,"tied"] rO):0#b 8 f fd [cz,aJ] (vz true):=by
 refine F.fq Yt 0#a
 obtain ⟨l,pb,rfl,h⟩:=h
 apply bI ⟨_,(aA (aW (Jd.c3 lE hr 0#A 0#H j0))),?_⟩
 exact h
def rH:∀{fs:List (Str×V)} {x:V},fs.lookup f=some x->(aD f v fs).length=fs.length
 | [],_,h=>by cases h
 | (g,y)::r,x,h=>by
   unfold aD
   by_cases e:g=f
   ·rw [if_pos e];rfl
   ·rw [if_neg e]
    have e':(f==g)=false:=by
     have:¬f=g:=λz=>e z.symm
     simpa using this
    rw [OI,e'] at h
    show (aD f v r).length+1=r.length+1
    rw [rH h]
def AH (fs:List (Str×V)) (a b:ah) (u v:V):Prop:=fs=[(("twice":Str),.ref a),(("samples":Str),.ref b),(("gentlest":Str),u),(("steepest":Str),v)]
def AH.len (h:AH fs a b u v):fs.length<=10:=by cases h;exact (by decide:4<=10)
def AH.tw (h:AH fs a b u v):fs.lookup ("twice":Str)=some (.ref a):=by cases h;kernel_rfl
def AH.sl (h:AH fs a b u v):fs.lookup ("samples":Str)=some (.ref b):=by cases h;kernel_rfl
def AH.g (h:AH fs a b u v):fs.lookup ("gentlest":Str)=some u:=by cases h;kernel_rfl
def AH.s (h:AH fs a b u v):fs.lookup ("steepest":Str)=some v:=by cases h;kernel_rfl
def AH.init (a b:ah) (u v:V):AH (aD "steepest" v (aD "gentlest" u (aD "samples" (.ref b) (aD "twice" (.ref a) [])))) a b u v:=by unfold AH;kernel_rfl
def AH.setG (h:AH fs a b u v):AH (aD "gentlest" y fs) a b y v:=by cases h;unfold AH;kernel_rfl
def AH.ags (h:AH fs a b u v):AH (aD "steepest" y fs) a b u y:=by cases h;unfold AH;kernel_rfl
def AH.AV (h:AH fs a b u v) (m:Str) (e:([("twice":Str),("samples":Str),("gentlest":Str),("steepest":Str)]).all (λn=>! (m==n))=true:=by decide +kernel):fs.lookup m=none:=by
 cases h
 simp only [JQ,ue,ZA,ad9] at e
 simp only [OI,e,adE]
def qP (p L:ah) (H:Hp):Hp:=rm p (rm L H)
def iR (h1:b≠p) (h2:b≠L):qP p L H b=H b:=by unfold qP;rw [kQ h1,kQ h2]
def zX:ao (qP p L H) H:=λb o e=>jt _ _ (jt _ _ e)
def Lx (s:ao H H'):ao (qP p L H) (qP p L H'):=rK (rK s)
def Ly (h:b=p\/b=L):ao (qP p L H) (qP p L (upd H b o)):=λc u e=>by
 unfold qP rm at e ⊢
 by_cases h1:c=p
 ·rw [if_pos h1] at e;cases e
 ·rw [if_neg h1] at e ⊢
  by_cases h2:c=L
  ·rw [if_pos h2] at e;cases e
  ·rw [if_neg h2] at e ⊢
   rw [aF (λz=>by rcases h with q | q;exact h1 (z.trans q);exact h2 (z.trans q))]
   exact e
def D3 (hp:H p=some (.ins C dx fs)) (hL:H L=some (.lst ys)) (h:H b=some 0#Z):qP p L H b=some 0#Z:=by
 rw [iR (λe=>by rw [e,hp] at h;cases h) (λe=>by rw [e,hL] at h;cases h)]
 exact h
def ck.out (hp:H p=some (.ins C dx fs)) (hL:H L=some (.lst ys)) (f:ck H b q n):ck (qP p L H) b q n:=let ⟨t,d,e,f⟩:=f;⟨t,d,D3 hp hL e,f⟩
def c8.out (hp:H p=some (.ins C dx fs)) (hL:H L=some (.lst ys)) (f:c8 H b q n):c8 (qP p L H) b q n:=let ⟨t,d,e,f⟩:=f;⟨t,d,D3 hp hL e,f⟩
def oU.out (hp:H p=some (.ins C dx fs)) (hL:H L=some (.lst ys)) (f:oU H x n):oU (qP p L H) x n:=by
 obtain ⟨a,m,v⟩:=x
 cases v with
 | none=>exact ⟨f.1,D3 hp hL f.2⟩
 | some q=>
   obtain ⟨z,r,e,g⟩:=f
   exact ⟨z,r,D3 hp hL e,g.out hp hL⟩
def Row.out (hp:H p=some (.ins C dx fs)) (hL:H L=some (.lst ys)) (f:Row H es n):Row (qP p L H) es n:=λx hx=>(f x hx).out hp hL
def jl.en (f:jl H b t q n):oU H (b,t,some q) n:=let ⟨v,e,f,z⟩:=f;⟨z,v,e,f⟩
def oU.sa (f:oU H (b,t,some q) n):jl H b t q n:=let ⟨z,v,e,f⟩:=f;⟨v,e,f,z⟩
def O6 (es:0#h) (B:Rat):Prop:=∀i j k l,i<j->j<es.length->k<l->l<es.length->kL es B i j<=iU es B k l
def IsG (es:0#h) (B G:Rat):Prop:=(∀i j,i<j->j<es.length->kL es B i j<=G)/\∃i j,i<j/\j<es.length/\kL es B i j=G
def IsS (es:0#h) (B S:Rat):Prop:=(∀i j,i<j->j<es.length->S<=iU es B i j)/\∃i j,i<j/\j<es.length/\iU es B i j=S
def SN (g:IsG es B G) (s:IsS es B S):O6 es B↔G<=S:=by
 constructor
 ·intro h
  obtain ⟨i,j,a1,a2,a3⟩:=g.2
  obtain ⟨k,l,u,v,z⟩:=s.2
  rw [<- a3,<- z]
  exact h i j k l a1 a2 u v
 ·intro h i j k l a1 a2 u v
  have:=g.1 i j a1 a2
  have:=s.1 k l u v
  grind
def xK (C:ah) (H:Hp) (p L:ah) (es:0#h) (B:Rat) (n nb:Nat):Prop:=∃(dx tw:ah) (fs:List (Str×V)) (g s:V),H p=some (.ins C dx fs)/\AH fs tw L g s/\H L=some 0#R/\Row H es n/\nU es/\rising es/\ck H tw B nb /\
 ((es.length<2/\g=.bM/\s=.bM)\/(2<=es.length/\∃(pg ps:ah) (G S:Rat),g=.ref pg/\s=.ref ps/\ck H pg G (3*n+nb+3)/\ck H ps S (3*n+nb+3)/\IsG es B G/\IsS es B S/\G<=S))
def xK.up (h:xK C H p L es B n nb) (s:ao H H'):xK C H' p L es B n nb:=by
 obtain ⟨u,tw,fs,g,s',v,A,D,E,I,J,M,N⟩:=h
 refine ⟨u,tw,fs,g,s',s _ _ v,A,s _ _ D,E.up s,I,J,M.up s,?_⟩
 rcases N with z | ⟨z,O,ps,G,S,e1,e2,Q,R,r⟩
 ·exact .inl z
 ·exact .inr ⟨z,O,ps,G,S,e1,e2,Q.up s,R.up s,r⟩
inductive GA (C:ah) (vs:List V) (H:Hp) (Q:VK) (E_:XK):Prop where
 | mk (p dx pb:ah) (β:Rat) (n:Nat):vs=[.ref p,.ref pb]->H p=some (.ins C dx [])->ck H pb β n->n<=1000->(∀(L:ah) (H':Hp) (k:Nat),ao (rm p H) H'->H L=none->xK C H' p L [] (2*β) k (2*n+1)->Q .bM H')->GA C vs H Q E_
noncomputable def fj (es:0#h) (B:Rat) (m:Int) (q:Rat) (i:Nat):Rat:=(q+B-wo es i)/((m:Rat)-(mo es i:Rat))
inductive Af (vs:List V) (H:Hp) (Q:VK) (E_:XK):Prop where
 | mk (kv:V) (l x tw:ah) (es:0#h) (m:Int) (q B:Rat) (n nb:Nat):vs=[kv,.ref l,.ref x,.ref tw]->H l=some 0#R->Row H es n->nU es->jl H x m q n->ck H tw B nb->es.length<=900->n<=1500->nb<=3000->(∀i,i<es.length->mo es i<m)->(kv=.bM\/(0<es.length/\∃pk Kq,kv=.ref pk/\ck H pk Kq (3*n+nb+3)))->(es.length=0->kv=.bM->∀H',ao H H'->Q .bM H')->(0<es.length->∀(pg:ah) (G:Rat) (H':Hp),ao H H'->ck H' pg G (3*n+nb+3)->(∀pk Kq,kv=.ref pk->ck H pk Kq (3*n+nb+3)->Kq<=G)->(∀i,i<es.length->fj es (-B) m q i<=G)->((∃i,i<es.length/\fj es (-B) m q i=G)\/∃pk,kv=.ref pk/\ck H pk G (3*n+nb+3))->Q (.ref pg) H')->Af vs H Q E_
inductive Eb (vs:List V) (H:Hp) (Q:VK) (E_:XK):Prop where
 | mk (kv:V) (l x tw:ah) (es:0#h) (m:Int) (q B:Rat) (n nb:Nat):vs=[kv,.ref l,.ref x,.ref tw]->H l=some 0#R->Row H es n->nU es->jl H x m q n->ck H tw B nb->es.length<=900->n<=1500->nb<=3000->(∀i,i<es.length->mo es i<m)->(kv=.bM\/(0<es.length/\∃pk Kq,kv=.ref pk/\ck H pk Kq (3*n+nb+3)))->(es.length=0->kv=.bM->∀H',ao H H'->Q .bM H')->(0<es.length->∀(pg:ah) (G:Rat) (H':Hp),ao H H'->ck H' pg G (3*n+nb+3)->(∀pk Kq,kv=.ref pk->ck H pk Kq (3*n+nb+3)->G<=Kq)->(∀i,i<es.length->G<=fj es B m q i)->((∃i,i<es.length/\fj es B m q i=G)\/∃pk,kv=.ref pk/\ck H pk G (3*n+nb+3))->Q (.ref pg) H')->Eb vs H Q E_
inductive Mf (C:ah) (vs:List V) (H:Hp) (Q:VK) (E_:XK):Prop where
 | mk (p L x:ah) (es:0#h) (m:Int) (q B:Rat) (n nb:Nat):vs=[.ref p,.ref x]->xK C H p L es B n nb->jl H x m q n->(∀i,i<es.length->mo es i<m)->es.length<=900->n<=1000->nb<=3000->0<=B->(∀(r:Bool) (H':Hp),ao (qP p L H) H'->(r=true↔O6 (es++[(x,m,some q)]) B)->xK C H' p L (if r=true then es++[(x,m,some q)] else es) B n nb->Q (.bl r) H')->Mf C vs H Q E_
inductive RB (C:ah) (vs:List V) (H:Hp) (Q:VK) (E_:XK):Prop where
 | mk (p L:ah) (es:0#h) (B:Rat) (n nb:Nat):vs=[.ref p]->xK C H p L es B n nb->(∀(R:ah) (H':Hp),ao H H'->H R=none->H' R=some 0#R->Q (.ref R) H')->RB C vs H Q E_
def Jx (a:ck H p q n) (b:ck H p r m):q=r:=by
 obtain ⟨t,d,e,f,_⟩:=a
 obtain ⟨t',d',u,v,_⟩:=b
 rw [e] at u
 cases u
 have h1:=f.eq
 have h2:=v.eq
 have hd:=gU (b:=d) (by have:=f.pos;try?)
 grind
def Dz:dR 2 [aB,aJ] o8:=0#t
abbrev nV K mg c:=Cl K mg "Stretch" c ["twice",br,jh,ji]
def Dp (F:i9 K "__init__" "Stretch.__init__" o8 f fd) (bC:nV K mg aR) (rY:0#c 5 "plus" [aT,aI] (tF (·+·) 1)):0#b 6 f fd [aB,aJ] (GA aR):=by
 refine F.fq Dz 0#a
 obtain ⟨p,G,pb,β,n,rfl,hp,B,hn,k⟩:=h
 apply bI ⟨_,(aq (gA K 0#A (cg rY hr 0#H 0#H)) (aq (gA K 0#A (fM gT)) (aq (gA K 0#A eF) (aA (gA K 0#A eF))))),?_⟩
 apply ⟨pb,pb,β,β,n,n,rfl,B,B,by try?,λtw J S f1=>?_⟩
 have D:=S _ _ hp
 apply yd bC D (by show 0<1000;decide) ?_
 refine aG (mk:=.lst) 0#w λL Z U I e2=>?_
 have XA:L≠p:=λz=>by
  rw [z,au] at I
  cases I
 have O:=U _ _ (au (H:=J) (a:=p) (o:=.ins aR G (aD "twice" (.ref tw) [])))
 rw?
 apply yd bC O (by have:(aD "twice" (.ref tw) ([]:List (Str×V))).length=1:=rfl;try?) ?_
 refine yd bC au (by
  have h3:=(AH.init tw L .bM .bM).len
  have l:∀(f:Str) (v:V) (fs:List (Str×V)),fs.length<=(aD f v fs).length:=by
   intro f v fs
   induction fs with
   | nil=>exact jV _
   | cons x r ih=>
     obtain ⟨g,y⟩:=x
     unfold aD
     split
     ·exact gI _
     ·exact GY ih
  have l1:=l "steepest" .bM (aD "gentlest" .bM (aD "samples" (.ref L) (aD "twice" (.ref tw) [])))
  have l2:=l "gentlest" .bM (aD "samples" (.ref L) (aD "twice" (.ref tw) []))
  try?) ?_
 rw?
 refine yd bC au (by
  have h3:=(AH.init tw L .bM .bM).len
  have l:∀(f:Str) (v:V) (fs:List (Str×V)),fs.length<=(aD f v fs).length:=by
   intro f v fs
   induction fs with
   | nil=>exact jV _
   | cons x r ih=>
     obtain ⟨g,y⟩:=x
     unfold aD
     split
     ·exact gI _
     ·exact GY ih
  have l1:=l "steepest" .bM (aD "gentlest" .bM (aD "samples" (.ref L) (aD "twice" (.ref tw) [])))
  try?) ?_
 rw?
 rw [tL,tL]
 have n0:H L=none:=by
  cases g:H L with
  | none=>rfl
  | some o=>
    have:=S _ _ g
    rw [aF XA,this] at I
    cases I
 have sH:ao (rm p H) (upd Z p (.ins aR G (aD "steepest" .bM (aD "gentlest" .bM (aD "samples" (.ref L) (aD "twice" (.ref tw) [])))))):=λb o e=>by
  by_cases B:b=p
  ·rw [B] at e
   unfold rm at e
   rw [if_pos rfl] at e
   cases e
  ·rw [kQ B] at e
   rw [aF B]
   refine U _ _ ?_
   rw [aF B]
   exact S _ _ e
 have Y:ao (rm p J) (upd Z p (.ins aR G (aD "steepest" .bM (aD "gentlest" .bM (aD "samples" (.ref L) (aD "twice" (.ref tw) [])))))):=λb o e=>by
  by_cases B:b=p
  ·rw [B] at e
   unfold rm at e
   rw [if_pos rfl] at e
   cases e
  ·rw [kQ B] at e
   rw [aF B]
   refine U _ _ ?_
   rw [aF B]
   exact e
 refine k L _ 0 sH n0 ⟨G,tw,_,.bM,.bM,au,AH.init tw L .bM .bM,by rw [aF XA];exact e2,λx R=>absurd R 0#w,λx R=>absurd R 0#w,List.Pairwise.nil,?_,.inl ⟨by decide,rfl,rfl⟩⟩
 obtain ⟨t,d,e,ff,z1,z2⟩:=f1
 have N:rm p J tw=some (.tup [.int t,.int d]):=by
  rw [kQ (λz=>by rw [z,D] at e;cases e)]
  exact e
 refine ck.mono (n:=2*n+1) ⟨t,d,Y _ _ N,?_,z1,z2⟩ 0#u
 have M:(2*β:Rat)=β+β:=by grind
 rw [M]
 exact ff.qt
def lT:dR 4 ["known","earlier",bF,"twice","lowered",dQ] ny:=0#t
def Bh (F:fU K "gentlest_with" ny f fd) (T:Txt mg) (bh:0#c 1 "loose_minus" [aT,aI] (j7 (·-·) 1)) (cM:aex P w K mg base) (iw:aey P w K mg base) :
 bf P w K mg base dw 4 f fd ["known","earlier",bF,"twice"] Af:=by
 refine F.fq lT 0#a
 obtain ⟨kv,l,x,tw,es,m,q,B,n,U,rfl,hl,hR,hS,hx,ak,m5,hn,hnb,hm,aj,k0,k1⟩:=h
 obtain ⟨vx,ex,fx,zm⟩:=hx
 apply bI ⟨_,(aq (nK (i:=4) lT.nd rfl (Or.inr rfl) (b9 (bN (aO K 0#P) (cg bh hr (aO K 0#P) 0#X))) (hs:=aiv)) (aq (Jd.oh (O:=[aT]) (N':=["lowered"]) (cap:=[4]) (i:=5) lT.nd rfl 0#D rfl (gQ K 0#H) (λ_ _ _ _ _=>(cG (i:=0) (show mL [("one":Str),("lowered":Str)] by decide +kernel) rfl 0#D)) (λ_ _ _ _ _=>oX) (λ_ _ _ _ _=>(ko cM 0#G rfl (eV 0#A (eV 0#H gT bH) bH) (he:=bH) (hpl:=(cO bH bZ)))) rfl ⟨0#T,trivial⟩ rfl 0#x rfl 0#x (by rfl)) (aq (bK (bx jr 0#A eF 1#a) (aA (dB (d9 K (aa 5) 0#A) (hs:=cU))) bL) (aA (aW (wM (bx iF (ir K T.kK (aa 5)) aH 1#a) (Jd.c1 iw hr (aa 5)) eF)))))),?_⟩
 apply ⟨vx,tw,q,B,n,U,rfl,fx.qt,ak,by try?,λy1 H1 s1 f1=>?_⟩
 refine aG (mk:=.tup) 0#w λlo H2 s2 n2 e2=>?_
 have fV:=s1.trans s2
 have ag:SaQ H2 lo m (q-B) (n+U+1) n:=⟨y1,e2,f1.up s2,zm⟩
 rw?
 apply lJ ?_
 refine ⟨l,rfl,⟨_,bS.of (fV _ _ hl)⟩,?_⟩
 refine d8 (xs:=vals es) dm (λH3 s3=>bS.of (s3 _ _ (fV _ _ hl))) (by rw [aY];try?) (λi ys G=>∃I:Qs,ys=fh I/\JW G I (3*n+U+3)/\I.map (·.2)=(jg i).map (λj=>fj es (-B) m q j)) ⟨[],rfl,λz hz=>absurd hz 0#w,rfl⟩ ?_ ?_
 ·rintro D i v ys H3 nQ N N0 h0 hD Z s3 hv hy ⟨I,rfl,ac,J⟩ kY kN
  obtain ⟨e,he,rfl⟩:=jw hv
  have S:i<es.length:=(tP.mp he).1
  obtain ⟨xi,gi,fi⟩:=dM (hR.up (fV.trans s3)) hS S
  rw [he] at gi
  cases gi
  apply jB h0 ?_
  apply cD ?_
  refine ⟨e.1,lo,_,_,_,_,n,n+U+1,n,rfl,fi.saq,ag.up s3,hm i S,by try?,λz H4 s4 f4=>?_⟩
  refine kY _ H4 s4 ⟨I++[(z,fj es (-B) m q i)],by simp [fh],λu L=>?_,?_⟩
  ·rcases i8.mp L with w | w
   ·exact (ac u w).up (rK s4)
   ·obtain rfl:u=(z,fj es (-B) m q i):=by simpa using w
    obtain ⟨t,d,e',ff⟩:=f4.mono (show n+(n+U+1)+n+2<=3*n+U+3 by try?)
    refine ⟨t,d,lK (s4 _ _ Z) e',?_⟩
    have eq:(q-B-wo es i)/((m:Rat)-(mo es i:Rat))=fj es (-B) m q i:=by
     unfold fj
     rw [show q+-B-wo es i=q-B-wo es i by grind]
    rw [<- eq]
    exact ff
  ·rw [jM,J,G2,jM]
   rfl
 ·rintro D ys H3 hD Z s3 hy ⟨I,rfl,ac,J⟩
  rw [aY] at J
  have P5:JW H3 I (3*n+U+3):=λu L=>(ac u L).up jt
  have lZ:=fV.trans s3
  have hlen:I.length=es.length:=by
   have:=congrArg CJ J
   simpa using this
  have ae:∀i,i<es.length->∃u∈I,u.2=fj es (-B) m q i:=λi S=>by
   have:fj es (-B) m q i∈I.map (·.2):=by rw [J];exact kc.mpr ⟨i,wD.mpr S,rfl⟩
   obtain ⟨u,L,e⟩:=kc.mp this
   exact ⟨u,L,e⟩
  have af:∀u∈I,∃i,i<es.length/\fj es (-B) m q i=u.2:=λu L=>by
   have:u.2∈I.map (·.2):=kc.mpr ⟨u,L,rfl⟩
   rw [J] at this
   obtain ⟨i,S,e⟩:=kc.mp this
   exact ⟨i,wD.mp S,e⟩
  rw?
  rcases aj with rfl | ⟨M,R,Y,rfl,hK⟩
  ·apply ⟨rfl,?_⟩
   apply bO ?_
   apply gR (.inl (bS.of Z)) ?_
   refine cJ 0#K 0#K
   ·have c':=kO c
    have M:0<I.length:=by
     have e:(fh I).length=I.length:=iI ..
     rw [e] at c'
     try?
    rw?
    apply ⟨D,I,3*n+U+3,rfl,Z,P5,by try?,M,λu L yU=>?_⟩
    refine k1 0#u u.1 u.2 H3 lZ (P5 u L) (λR Y e=>by cases e) (λi S=>?_) (.inl (af u L))
    obtain ⟨z,hz,e⟩:=ae i S
    rw [<- e]
    exact yU z hz
   ·have c':=jF (gH.mpr c)
    rw?
    refine k0 ?_ rfl H3 lZ
    have e:(fh I).length=I.length:=iI ..
    rw [e] at c'
    try?
  ·apply ⟨rfl,?_⟩
   apply cD ?_
   apply ⟨.inl ⟨rfl,_,bS.of Z⟩,?_⟩
   have e:(fh I).length=I.length:=iI ..
   refine gB Z (by rw [e];exact bg 0#u) ?_
   have e4:upd H3 D (.lst (fh I++[.ref R])) D=some (.lst (fh (I++[(R,Y)]))):=by rw [au];simp [fh]
   have ai:=hK.up lZ
   generalize hG:upd H3 D (.lst (fh I++[.ref R]))=H4 at *
   have Hs:ao H2 H4:=by rw [<- hG];exact bP s3 hD
   have ad:JW H4 (I++[(R,Y)]) (3*n+U+3):=λu L=>by
    rcases i8.mp L with w | w
    ·rw [<- hG];exact (P5 u w).app Z
    ·obtain rfl:u=(R,Y):=by simpa using w
     rw [<- hG];exact ai.app Z
   rw?
   apply gR (.inl (bS.of e4)) ?_
   have e':(fh (I++[(R,Y)])).length=I.length+1:=by simp [fh]
   rw [e',show decide ((((I.length+1:Nat):Int))>0)=true from jN 0#u]
   apply cD ?_
   apply ⟨D,I++[(R,Y)],3*n+U+3,rfl,e4,ad,by try?,by simp,λu L yU=>?_⟩
   refine k1 M u.1 u.2 H4 (fV.trans Hs) (ad u L) (λpk' Kq' e1 q1=>?_) (λi S=>?_) ?_
   ·cases e1
    rw [Jx q1 hK]
    exact yU (R,Y) 0#w
   ·obtain ⟨z,hz,e1⟩:=ae i S
    rw [<- e1]
    exact yU z (Hh _ hz)
   ·rcases i8.mp L with w | w
    ·exact .inl (af u w)
    ·obtain rfl:u=(R,Y):=by simpa using w
     exact .inr ⟨R,rfl,hK⟩
def lV:dR 4 ["known","earlier",bF,"twice","raised",dQ] nE:=0#t
def Bp (F:fU K "steepest_with" nE f fd) (T:Txt mg) (cE:0#c 1 "loose_plus" [aT,aI] (j7 (·+·) 1)) (cM:aex P w K mg base) (lC:0#c 2 "smallest" [iA] Ea) :
 bf P w K mg base dw 4 f fd ["known","earlier",bF,"twice"] Eb:=by
 refine F.fq lV 0#a
 obtain ⟨kv,l,x,tw,es,m,q,B,n,U,rfl,hl,hR,hS,hx,ak,m5,hn,hnb,hm,aj,k0,k1⟩:=h
 obtain ⟨vx,ex,fx,zm⟩:=hx
 apply bI ⟨_,(aq (nK (i:=4) lV.nd rfl (Or.inr rfl) (b9 (bN (aO K 0#P) (cg cE hr (aO K 0#P) 0#X))) (hs:=aiv)) (aq (Jd.oh (O:=[aT]) (N':=["raised"]) (cap:=[4]) (i:=5) lV.nd rfl 0#D rfl (gQ K 0#H) (λ_ _ _ _ _=>(cG (i:=0) (show mL [("one":Str),("raised":Str)] by decide +kernel) rfl 0#D)) (λ_ _ _ _ _=>oX) (λ_ _ _ _ _=>(ko cM 0#G rfl (eV 0#A (eV 0#H gT bH) bH) (he:=bH) (hpl:=(cO bH bZ)))) rfl ⟨0#T,trivial⟩ rfl 0#x rfl 0#x (by rfl)) (aq (bK (bx jr 0#A eF 1#a) (aA (dB (d9 K (aa 5) 0#A) (hs:=cU))) bL) (aA (aW (wM (bx iF (ir K T.kK (aa 5)) aH 1#a) (Jd.c1 lC hr (aa 5)) eF)))))),?_⟩
 apply ⟨vx,tw,q,B,n,U,rfl,fx.qt,ak,by try?,λy1 H1 s1 f1=>?_⟩
 refine aG (mk:=.tup) 0#w λlo H2 s2 n2 e2=>?_
 have fV:=s1.trans s2
 have ag:SaQ H2 lo m (q+B) (n+U+1) n:=⟨y1,e2,f1.up s2,zm⟩
 rw?
 apply lJ ?_
 refine ⟨l,rfl,⟨_,bS.of (fV _ _ hl)⟩,?_⟩
 refine d8 (xs:=vals es) dm (λH3 s3=>bS.of (s3 _ _ (fV _ _ hl))) (by rw [aY];try?) (λi ys G=>∃I:Qs,ys=fh I/\JW G I (3*n+U+3)/\I.map (·.2)=(jg i).map (λj=>fj es B m q j)) ⟨[],rfl,λz hz=>absurd hz 0#w,rfl⟩ ?_ ?_
 ·rintro D i v ys H3 nQ N N0 h0 hD Z s3 hv hy ⟨I,rfl,ac,J⟩ kY kN
  obtain ⟨e,he,rfl⟩:=jw hv
  have S:i<es.length:=(tP.mp he).1
  obtain ⟨xi,gi,fi⟩:=dM (hR.up (fV.trans s3)) hS S
  rw [he] at gi
  cases gi
  apply jB h0 ?_
  apply cD ?_
  refine ⟨e.1,lo,_,_,_,_,n,n+U+1,n,rfl,fi.saq,ag.up s3,hm i S,by try?,λz H4 s4 f4=>?_⟩
  refine kY _ H4 s4 ⟨I++[(z,fj es B m q i)],by simp [fh],λu L=>?_,?_⟩
  ·rcases i8.mp L with w | w
   ·exact (ac u w).up (rK s4)
   ·obtain rfl:u=(z,fj es B m q i):=by simpa using w
    obtain ⟨t,d,e',ff⟩:=f4.mono (show n+(n+U+1)+n+2<=3*n+U+3 by try?)
    refine ⟨t,d,lK (s4 _ _ Z) e',?_⟩
    have eq:(q+B-wo es i)/((m:Rat)-(mo es i:Rat))=fj es B m q i:=by
     rfl
    rw [<- eq]
    exact ff
  ·rw [jM,J,G2,jM]
   rfl
 ·rintro D ys H3 hD Z s3 hy ⟨I,rfl,ac,J⟩
  rw [aY] at J
  have P5:JW H3 I (3*n+U+3):=λu L=>(ac u L).up jt
  have lZ:=fV.trans s3
  have hlen:I.length=es.length:=by
   have:=congrArg CJ J
   simpa using this
  have ae:∀i,i<es.length->∃u∈I,u.2=fj es B m q i:=λi S=>by
   have:fj es B m q i∈I.map (·.2):=by rw [J];exact kc.mpr ⟨i,wD.mpr S,rfl⟩
   obtain ⟨u,L,e⟩:=kc.mp this
   exact ⟨u,L,e⟩
  have af:∀u∈I,∃i,i<es.length/\fj es B m q i=u.2:=λu L=>by
   have:u.2∈I.map (·.2):=kc.mpr ⟨u,L,rfl⟩
   rw [J] at this
   obtain ⟨i,S,e⟩:=kc.mp this
   exact ⟨i,wD.mp S,e⟩
  rw?
  rcases aj with rfl | ⟨M,R,Y,rfl,hK⟩
  ·apply ⟨rfl,?_⟩
   apply bO ?_
   apply gR (.inl (bS.of Z)) ?_
   refine cJ 0#K 0#K
   ·have c':=kO c
    have M:0<I.length:=by
     have e:(fh I).length=I.length:=iI ..
     rw [e] at c'
     try?
    rw?
    apply ⟨D,I,3*n+U+3,rfl,Z,P5,by try?,M,λu L yU=>?_⟩
    refine k1 0#u u.1 u.2 H3 lZ (P5 u L) (λR Y e=>by cases e) (λi S=>?_) (.inl (af u L))
    obtain ⟨z,hz,e⟩:=ae i S
    rw [<- e]
    exact yU z hz
   ·have c':=jF (gH.mpr c)
    rw?
    refine k0 ?_ rfl H3 lZ
    have e:(fh I).length=I.length:=iI ..
    rw [e] at c'
    try?
  ·apply ⟨rfl,?_⟩
   apply cD ?_
   apply ⟨.inl ⟨rfl,_,bS.of Z⟩,?_⟩
   have e:(fh I).length=I.length:=iI ..
   refine gB Z (by rw [e];exact bg 0#u) ?_
   have e4:upd H3 D (.lst (fh I++[.ref R])) D=some (.lst (fh (I++[(R,Y)]))):=by rw [au];simp [fh]
   have ai:=hK.up lZ
   generalize hG:upd H3 D (.lst (fh I++[.ref R]))=H4 at *
   have Hs:ao H2 H4:=by rw [<- hG];exact bP s3 hD
   have ad:JW H4 (I++[(R,Y)]) (3*n+U+3):=λu L=>by
    rcases i8.mp L with w | w
    ·rw [<- hG];exact (P5 u w).app Z
    ·obtain rfl:u=(R,Y):=by simpa using w
     rw [<- hG];exact ai.app Z
   rw?
   apply gR (.inl (bS.of e4)) ?_
   have e':(fh (I++[(R,Y)])).length=I.length+1:=by simp [fh]
   rw [e',show decide ((((I.length+1:Nat):Int))>0)=true from jN 0#u]
   apply cD ?_
   apply ⟨D,I++[(R,Y)],3*n+U+3,rfl,e4,ad,by try?,by simp,λu L yU=>?_⟩
   refine k1 M u.1 u.2 H4 (fV.trans Hs) (ad u L) (λpk' Kq' e1 q1=>?_) (λi S=>?_) ?_
   ·cases e1
    rw [Jx q1 hK]
    exact yU (R,Y) 0#w
   ·obtain ⟨z,hz,e1⟩:=ae i S
    rw [<- e1]
    exact yU z (Hh _ hz)
   ·rcases i8.mp L with w | w
    ·exact .inl (af u w)
    ·obtain rfl:u=(R,Y):=by simpa using w
     exact .inr ⟨R,rfl,hK⟩
def sF (h:i<es.length):mo (es++fs) i=mo es i:=by unfold mo;rw [Mr h]
def tO (h:i<es.length):wo (es++fs) i=wo es i:=by unfold wo;rw [Mr h]
def KI {es:0#h}:mo (es++[(a,m,some q)]) es.length=m:=by unfold mo;simp
def Mm {es:0#h}:wo (es++[(a,m,some q)]) es.length=q:=by unfold wo;simp
def rA (hij:i<j) (hj:j<es.length):kL (es++[(a,m,some q)]) B i j=kL es B i j:=by
 unfold kL
 rw [sF hj,tO hj,sF 0#u,tO 0#u]
def oF (hij:i<j) (hj:j<es.length):iU (es++[(a,m,some q)]) B i j=iU es B i j:=by
 unfold iU
 rw [sF hj,tO hj,sF 0#u,tO 0#u]
def DR (hi:i<es.length):kL (es++[(a,m,some q)]) B i es.length=fj es (-B) m q i:=by
 unfold kL fj
 rw [KI,Mm,sF hi,tO hi,show q+-B=q-B by grind]
def yT (hi:i<es.length):iU (es++[(a,m,some q)]) B i es.length=fj es B m q i:=by
 unfold iU fj
 rw [KI,Mm,sF hi,tO hi]
def aaU (h0:0<es.length) (h1:2<=es.length->∃G0,IsG es B G0/\G0<=G) (hall:∀i,i<es.length->fj es (-B) m q i<=G) (hex:(∃i,i<es.length/\fj es (-B) m q i=G)\/(2<=es.length/\IsG es B G)):IsG (es++[(a,m,some q)]) B G:=by
 refine ⟨λi j v A=>?_,?_⟩
 ·rw [jf] at A
  have hj':j<es.length+1:=A
  by_cases e:j=es.length
  ·subst e
   rw [DR v]
   exact hall i v
  ·rw [rA v 0#u]
   obtain ⟨G0,g,le⟩:=h1 0#u
   have:=g.1 i j v 0#u
   grind
 ·rcases hex with ⟨i,z,e⟩ | ⟨h2,g⟩
  ·exact ⟨i,es.length,z,by rw [jf];show _<es.length+1;try?,by rw [DR z];exact e⟩
  ·obtain ⟨i,j,a1,a2,a3⟩:=g.2
   exact ⟨i,j,a1,by rw [jf];show _<es.length+1;try?,by rw [rA a1 a2];exact a3⟩
def aaW (h0:0<es.length) (h1:2<=es.length->∃S0,IsS es B S0/\S<=S0) (hall:∀i,i<es.length->S<=fj es B m q i) (hex:(∃i,i<es.length/\fj es B m q i=S)\/(2<=es.length/\IsS es B S)):IsS (es++[(a,m,some q)]) B S:=by
 refine ⟨λi j v A=>?_,?_⟩
 ·rw [jf] at A
  have hj':j<es.length+1:=A
  by_cases e:j=es.length
  ·subst e
   rw [yT v]
   exact hall i v
  ·rw [oF v 0#u]
   obtain ⟨S0,g,le⟩:=h1 0#u
   have:=g.1 i j v 0#u
   grind
 ·rcases hex with ⟨i,z,e⟩ | ⟨h2,g⟩
  ·exact ⟨i,es.length,z,by rw [jf];show _<es.length+1;try?,by rw [yT z];exact e⟩
  ·obtain ⟨i,j,a1,a2,a3⟩:=g.2
   exact ⟨i,j,a1,by rw [jf];show _<es.length+1;try?,by rw [oF a1 a2];exact a3⟩
def F9 (h:rising es) (hm:∀i,i<es.length->mo es i<m):rising (es++[(a,m,some q)]):=by
 refine List.pairwise_append.mpr ⟨h,acy _ _,λx v y z=>?_⟩
 obtain rfl:y=(a,m,some q):=by simpa using z
 obtain ⟨i,u,rfl⟩:=List.getElem_of_mem v
 have:=hm i u
 unfold mo at this
 rw [jE u] at this
 exact this
def qT (h:nU es):nU (es++[(a,m,some q)]):=λx hx=>by
 rcases i8.mp hx with z | z
 ·exact h x z
 ·obtain rfl:x=(a,m,some q):=by simpa using z
  rfl
def ab3 (s:ao H H2):ao (qP p L H) (upd (upd (upd H2 p o1) p o2) L o3):=λb o e=>by
 unfold qP rm at e
 by_cases h1:b=p
 ·rw [if_pos h1] at e;cases e
 ·rw [if_neg h1] at e
  by_cases h2:b=L
  ·rw [if_pos h2] at e;cases e
  ·rw [if_neg h2] at e
   rw [aF h2,aF h1,aF h1]
   exact s _ _ e
def lR:dR 2 [aB,bF,jh,ji] nu:=0#t
abbrev aez P w K mg base:=Dn P w K mg base 4 "gentlest_with" ["known","earlier",bF,"twice"] Af
abbrev aeA P w K mg base:=Dn P w K mg base 4 "steepest_with" ["known","earlier",bF,"twice"] Eb
def Be (F:i9 K "takes" "Stretch.takes" nu f fd) (T:Txt mg) (bC:nV K mg aR) (c6:aez P w K mg base) (c7:aeA P w K mg base)
 (dP:O5 P w K mg base):0#b 5 f fd [aB,bF] (Mf aR):=by
 refine F.fq lR 0#a
 obtain ⟨p,L,x,es,m,q,B,n,nb,rfl,ag,hx,hm,m5,hn,af,hB,k⟩:=h
 obtain ⟨dx,tw,fs,g,s',ep,v,eL,hR,hS,jJ,ac,hI⟩:=id ag
 have XA:L≠p:=λz=>by rw [z,ep] at eL;cases eL
 have fl:=v.len
  -- the sample is taken: the two slopes stand at gv, sv
 have take:∀(gv sv:V) (M:Hp),ao H M->O6 (es++[(x,m,some q)]) B ->
  ((es.length=0/\gv=.bM/\sv=.bM)\/(0<es.length/\∃(N ps:ah) (G S:Rat),gv=.ref N/\sv=.ref ps/\ck M N G (3*n+nb+3)/\ck M ps S (3*n+nb+3)/\IsG (es++[(x,m,some q)]) B G/\IsS (es++[(x,m,some q)]) B S/\G<=S)) ->
  Q (.bl true) (upd (upd (upd M p (.ins aR dx (aD "gentlest" gv fs))) p (.ins aR dx (aD "steepest" sv (aD "gentlest" gv fs)))) L (.lst (vals es++[.ref x]))):=by
  intro gv sv M O ak am
  have U:=O _ _ ep
  have Y:=O _ _ eL
  have k3:=ab3 (p:=p) (L:=L) (o1:=.ins aR dx (aD "gentlest" gv fs)) (o2:=.ins aR dx (aD "steepest" sv (aD "gentlest" gv fs))) (o3:=.lst (vals es++[.ref x])) (ao.refl M)
  refine k true _ (ab3 O) ⟨λ_=>ak,λ_=>rfl⟩ ?_
  rw [if_pos rfl]
  refine ⟨dx,tw,_,gv,sv,by rw [aF (jx XA),au],v.setG.ags,by rw [au];exact congrArg (λz=>some (HO.lst z)) (gr es (x,m,some q)),?_,qT hS,F9 jJ hm,((ac.up O).out U Y).up k3,?_⟩
  ·exact Row.up ((Row.out U Y (hR.up O)).snoc (oU.out U Y (hx.up O).en)) k3
  ·rw [jf]
   rcases am with ⟨h0,e1,e2⟩ | ⟨h0,N,ps,G,S,e1,e2,q1,q2,g1,g2,g3⟩
   ·exact .inl ⟨by show es.length+1<2;try?,e1,e2⟩
   ·exact .inr ⟨by show 2<=es.length+1;try?,N,ps,G,S,e1,e2,(q1.out U Y).up k3,(q2.out U Y).up k3,g1,g2,g3⟩
 apply bI ⟨_,(aq (aV 2 lR.nd (ko c6 0#G rfl (Jd.a4 0#S 0#S 0#H 0#S) (he:=(by rfl)) (hpl:=(cO (by rfl) (cO bH (cO (by rfl) bZ)))))) (aq (aV 3 lR.nd (ko c7 0#G rfl (Jd.a4 0#S 0#S 0#H 0#S) (he:=(by rfl)) (hpl:=(cO (by rfl) (cO bH (cO (by rfl) bZ)))))) (aq (bK (iW (mw (bx iF (ir K T.kK 0#S) aH 1#a) (mz (bx iF (cg dP hr 0#P 0#X) aH 1#a)))) (aA (aW j0)) bL) (aq (gA K 0#A 0#P) (aq (gA K 0#A 0#X) (aq (dB (d9 K 0#S 0#H) (hs:=cU)) (aA (aW j0)))))))),?_⟩
 apply i7 bC ep v.g ?_
 apply i7 bC ep v.sl ?_
 apply i7 bC ep v.tw ?_
 refine ⟨g,L,x,tw,es,m,q,B,n,nb,rfl,eL,hR,hS,hx,ac,m5,g9 hn 0#y,g9 af 0#y,hm,?_,λh0 hg H1 I=>?_,λD N G H1 I f1 hK ai ap=>?_⟩
 ·rcases hI with ⟨_,z,_⟩ | ⟨z,N,ps,G,S,e1,_,q1,_⟩
  ·exact .inl z
  ·exact .inr ⟨by try?,N,G,e1,q1⟩
 ·have J:=I _ _ ep
  have ar:s'=.bM:=by
   rcases hI with ⟨_,_,z⟩ | ⟨z,_⟩
   ·exact z
   ·try?
  rw?
  apply i7 bC J v.s ?_
  apply i7 bC J v.sl ?_
  apply i7 bC J v.tw ?_
  refine ⟨s',L,x,tw,es,m,q,B,n,nb,rfl,I _ _ eL,hR.up I,hS,hx.up I,ac.up I,m5,g9 hn 0#y,g9 af 0#y,hm,.inl ar,λ_ _ M O=>?_,λD=>absurd D 0#u⟩
  have Z:=I.trans O
  have U:=Z _ _ ep
  rw?
  apply i7 bC U v.sl ?_
  refine gR (.inl (bS.of (Z _ _ eL))) ?_
  rw [aY]
  rw?
  rw [show decide (((es.length:Nat):Int)>0)=false from mJ 0#u]
  refine bO ?_
  apply bO ?_
  apply yd bC U 0#u ?_
  apply yd bC au (by rw [rH v.g];try?) ?_
  apply i7 bC au v.setG.ags.sl ?_
  have SJ:upd (upd M p (.ins aR dx (aD "gentlest" .bM fs))) p (.ins aR dx (aD "steepest" .bM (aD "gentlest" .bM fs))) L=some 0#R:=by
   rw [aF XA,aF XA]
   exact Z _ _ eL
  apply ⟨.inl ⟨rfl,_,bS.of SJ⟩,?_⟩
  apply gB SJ (by rw [aY];exact bg 0#u) ?_
  refine take .bM .bM M Z (λi j k l a1 a2 b1 b2=>?_) (.inl ⟨h0,rfl,rfl⟩)
  rw [jf,h0] at a2
  have a2':j<0+1:=a2
  try?
 ·have J:=I _ _ ep
  rw?
  apply i7 bC J v.s ?_
  apply i7 bC J v.sl ?_
  apply i7 bC J v.tw ?_
  refine ⟨s',L,x,tw,es,m,q,B,n,nb,rfl,I _ _ eL,hR.up I,hS,hx.up I,ac.up I,m5,g9 hn 0#y,g9 af 0#y,hm,?_,λh0=>absurd h0 0#u,λ_ ps S M O f2 an al aj=>?_⟩
  ·rcases hI with ⟨_,_,z⟩ | ⟨z,N,ps,G,S,_,e1,_,q1,_⟩
   ·exact .inl z
   ·exact .inr ⟨by try?,ps,S,e1,q1.up I⟩
  have Z:=I.trans O
  have U:=Z _ _ ep
  have gG:IsG (es++[(x,m,some q)]) B G:=by
   refine aaU D (λh2=>?_) ai ?_
   ·rcases hI with ⟨z,_⟩ | ⟨_,ad,ae,G0,S0,e1,e2,q1,q2,g1,g2,g3⟩
    ·try?
    ·exact ⟨G0,g1,hK ad G0 e1 q1⟩
   ·rcases ap with z | ⟨pk,e,qk⟩
    ·exact .inl z
    ·rcases hI with ⟨_,z,_⟩ | ⟨z,ad,ae,G0,S0,e1,e2,q1,q2,g1,g2,g3⟩
     ·rw [z] at e;cases e
     ·rw [e1] at e
      cases e
      rw [Jx qk q1]
      exact .inr ⟨z,g1⟩
  have gS:IsS (es++[(x,m,some q)]) B S:=by
   refine aaW D (λh2=>?_) al ?_
   ·rcases hI with ⟨z,_⟩ | ⟨_,ad,ae,G0,S0,e1,e2,q1,q2,g1,g2,g3⟩
    ·try?
    ·exact ⟨S0,g2,an ae S0 e2 (q2.up I)⟩
   ·rcases aj with z | ⟨pk,e,qk⟩
    ·exact .inl z
    ·rcases hI with ⟨_,_,z⟩ | ⟨z,ad,ae,G0,S0,e1,e2,q1,q2,g1,g2,g3⟩
     ·rw [z] at e;cases e
     ·rw [e2] at e
      cases e
      rw [Jx qk (q2.up I)]
      exact .inr ⟨z,g2⟩
  have fit:=SN gG gS
  rw?
  apply i7 bC U v.sl ?_
  refine gR (.inl (bS.of (Z _ _ eL))) ?_
  rw [aY]
  rw?
  rw [show decide (((es.length:Nat):Int)>0)=true from jN 0#u]
  apply cD ?_
  apply ⟨N,ps,G,S,_,_,rfl,f1.up O,f2,by try?,λo C7 ho2=>?_⟩
  refine cJ 0#K 0#K
  ·have c':S<G:=C7.mp (kO c)
   rw?
   refine k false M (λb o e=>Z _ _ (zX _ _ e)) ⟨λz=>absurd z 0#y,λz=>?_⟩ ?_
   ·have:=fit.mp z
    grind
   ·rw [if_neg pJ]
    exact ag.up Z
  ·have c':G<=S:=kH.mp λz=>jF (gH.mpr c) (C7.mpr z)
   rw?
   apply yd bC U 0#u ?_
   apply yd bC au (by rw [rH v.g];try?) ?_
   apply i7 bC au v.setG.ags.sl ?_
   have SJ:upd (upd M p (.ins aR dx (aD "gentlest" (.ref N) fs))) p (.ins aR dx (aD "steepest" (.ref ps) (aD "gentlest" (.ref N) fs))) L=some 0#R:=by
    rw [aF XA,aF XA]
    exact Z _ _ eL
   apply ⟨.inl ⟨rfl,_,bS.of SJ⟩,?_⟩
   apply gB SJ (by rw [aY];exact bg 0#u) ?_
   exact take (.ref N) (.ref ps) M Z (fit.mpr c') (.inr ⟨D,N,ps,G,S,rfl,rfl,f1.up O,f2,gG,gS,c'⟩)
def DA:dR 1 [aB] o9:=0#t
def Dq (F:i9 K "kept" "Stretch.kept" o9 f fd) (T:Txt mg) (bC:nV K mg aR):0#b 1 f fd [aB] (RB aR):=by
 refine F.fq DA 0#a
 obtain ⟨p,L,es,B,n,nb,rfl,⟨dx,tw,fs,g,s',z,D,v,_⟩,k⟩:=h
 apply bI ⟨_,(aA (aW (Jd.rE yQ rfl T.Td Ua (cP 0#S)))),?_⟩
 apply i7 bC z D.sl ?_
 exact ⟨L,_,rfl,.inl (bS.of v),λR u=>k R _ (iG u _) u au⟩
def xK.fresh (h:xK C H p L [] B n nb) (hn:nb<=nb'):xK C H p L [] B n' nb':=by
 obtain ⟨u,tw,fs,g,s',v,A,D,h4,E,G,I,J⟩:=h
 refine ⟨u,tw,fs,g,s',v,A,D,λx M=>absurd M 0#w,E,G,I.mono hn,?_⟩
 rcases J with z | ⟨z,_⟩
 ·exact .inl z
 ·exact absurd z 0#y
def xK.fit (h:xK C H p L es B n nb):O6 es B:=by
 obtain ⟨dx,tw,fs,g,s',h1,h2,h3,h4,h5,h6,h7,D⟩:=h
 rcases D with ⟨z,_⟩ | ⟨z,pg,ps,G,S,e1,e2,q1,q2,u,v,A⟩
 ·intro i j k l a1 a2 b1 b2
  try?
 ·exact (SN u v).mpr A
noncomputable def piece (es:0#h) (n m:Nat):List En:=(es.drop n).take (m-n)
def Cut (es:0#h) (B:Rat) (qs:List (List En)) (n:Nat):Prop:=∃pos:Nat->Nat,pos 0=0/\pos qs.length=n/\∀i q,qs[i]?=some q->pos i<pos (i+1)/\pos (i+1)<=es.length/\q=piece es (pos i) (pos (i+1))/\O6 q B/\(pos (i+1)<es.length->¬O6 (piece es (pos i) (pos (i+1)+1)) B)
def Cut.nil:Cut es B [] 0:=⟨λ_=>0,rfl,rfl,λi q h=>by simp at h⟩
def Cut.snoc (h:Cut es B qs n) (h1:n<n') (h2:n'<=es.length) (hf:O6 (piece es n n') B) (hn:n'<es.length->¬O6 (piece es n (n'+1)) B):Cut es B (qs++[piece es n n']) n':=by
 obtain ⟨pos,z,A,h⟩:=h
 refine ⟨λj=>if j<=qs.length then pos j else n',?_,?_,λi q u=>?_⟩
 ·show (if 0<=qs.length then pos 0 else n')=0
  rw [if_pos (jV _)]
  exact z
 ·show (if (qs++[piece es n n']).length<=qs.length then pos (qs++[piece es n n']).length else n')=n'
  rw [if_neg (by rw [jf];show ¬qs.length+1<=qs.length;try?)]
 ·by_cases hi':i<qs.length
  ·rw [Mr hi'] at u
   simp only [if_pos (show i<=qs.length by try?),if_pos (show i+1<=qs.length by try?)]
   exact h i q u
  ·have v:=(tP.mp u).1
   rw [jf] at v
   have hi3:i<qs.length+1:=v
   obtain rfl:i=qs.length:=by try?
   rw [Sg (gI _),aea] at u
   obtain rfl:piece es n n'=q:=by simpa using u
   simp only [if_pos (gI _),if_neg (show ¬qs.length+1<=qs.length by try?),A]
   exact ⟨h1,h2,trivial,hf,hn⟩
def Jw (h:j<m-n):(piece es n m)[j]?=es[n+j]?:=by
 unfold piece
 rw [Uk,if_pos h,yH]
def Bt (h:m<=es.length):(piece es n m).length=m-n:=by
 unfold piece
 rw [IM,mH]
 try?
def sM (h:n<=i) (he:es[i]?=some e):piece es n (i+1)=piece es n i++[e]:=by
 unfold piece
 rw [show i+1-n=(i-n)+1 by try?,yI,yH,show n+(i-n)=i by try?,he]
 rfl
def piece_nil:piece es n n=[]:=by unfold piece;simp
def Xy (h:j<m-n):mo (piece es n m) j=mo es (n+j):=by unfold mo;rw [Jw h]
def SQ (h:es.length<=1):O6 es B:=λi j k l a1 a2 b1 b2=>by try?
def LL.mv (h:LL H H2 T ls) (ep:H2 p=some (.ins C dx fs)) (nT:T≠L) (nl:∀x∈ls,x.1≠L) (s:ao (qP p L H2) H3):LL H H3 T ls:=by
 have e:=h.at_
 refine ⟨h.new,s _ _ (by rw [iR (λq=>by rw [q,ep] at e;cases e) nT];exact e),λx u=>?_,h.nd⟩
 obtain ⟨a,b,c⟩:=h.each x u
 exact ⟨a,s _ _ (by rw [iR (λq=>by rw [q,ep] at b;cases b) (nl x u)];exact b),c⟩
inductive vv (C:ah) (vs:List V) (H:Hp) (Q:VK) (E_:XK):Prop where
 | mk (l pb:ah) (es:0#h) (β:Rat) (N n:Nat):vs=[.ref l,.ref pb]->H l=some 0#R->Row H es N->nU es->rising es->ck H pb β n->0<=β->N<=1000->n<=1000->es.length<=40->(∀(T:ah) (ls:Ls) (H':Hp),ao H H'->LL H H' T ls->Cut es (2*β) (ls.map (·.2)) es.length->ls.length<=40->Q (.ref T) H')->vv C vs H Q E_
def kF:dR 2 [br,aJ,"told",iB,bF] vd:=0#t
def K3 (F:fU K "stretches" vd f fd) (T:Txt mg) (bC:nV K mg aR) (vJ:Dk P w K mg base 6 "Stretch" aR [aB,aJ] (GA aR)) (jO:Dm P w K mg base 5 aR "takes" [aB,bF] (Mf aR)) (kg:Dm P w K mg base 1 aR "kept" [aB] (RB aR)) :
 bf P w K mg base dw 8 f fd [br,aJ] (vv aR):=by
 refine F.fq kF 0#a
 obtain ⟨l,pb,es,β,N,n,rfl,hl,aL,hS,jJ,bc,lI,hN,hn,HE,k⟩:=h
 have ay:(0:Rat)<=2*β:=by grind
  -- a new Stretch
 have fresh:∀{G:Hp} {QQ:Hp->Prop} {p dx:ah},ao H G->G p=none->G dx=none->(∀(L:ah) (G':Hp),ao G G'->G L=none->xK aR G' p L [] (2*β) N (2*n+1)->QQ G') ->
  GA aR [.ref p,.ref pb] (upd (upd G dx (.own p)) p (.ins aR dx [])) (λv G'=>v=.bM/\QQ G') E0:=λ{G QQ p dx} s Z al kk=>by
  have s1:ao G (upd (upd G dx (.own p)) p (.ins aR dx [])):=λb' o e=>by
   rw [aF (bT e Z),aF (bT e al)]
   exact e
  refine ⟨p,dx,pb,β,n,rfl,au,bc.up (s.trans s1),hn,λL G' kn s2 U z=>⟨rfl,?_⟩⟩
  exact kk L G' (λb' o e=>s2 _ _ (by rw [kQ (bT e Z)];exact s1 _ _ e)) (s1.free U) (xK.fresh z (gI _))
 apply bI ⟨_,(aq (aV 2 kF.nd (fM gT)) (aq (aV 3 kF.nd (Jd.Tn vJ 0#G rfl (cP 0#H) (he:=bH) (hpl:=bZ))) (aq (iV j9 rfl (gQ K 0#A) (cG (i:=4) kF.nd rfl 0#D) (aA (bK (Jd.sN (gw (Jd.wQ jO bC.cl 0#G 0#X (cP (aa 4)) (he:=bH) (hpl:=bZ)))) (aq (dB (d9 K 0#P (rq kg bC.cl 0#G 0#X)) (hs:=cU)) (aq (aV 3 kF.nd (Jd.Tn vJ 0#G rfl (cP 0#H) (he:=bH) (hpl:=bZ))) (aA (dB (Jd.wQ jO bC.cl 0#G 0#X (cP (aa 4)) (he:=bH) (hpl:=bZ)) (hs:=cU))))) bL))) (aq (bK (bx iF (ir K T.kK 0#A) aH 1#a) (aA (dB (d9 K 0#P (rq kg bC.cl 0#G 0#X)) (hs:=cU))) bL) (aA (aW 0#P)))))),?_⟩
 apply aG (mk:=.lst) 0#w λTT H1 s1 n1 e1=>?_
 refine λp dx Z al _=>fresh s1 Z al λL H2 s2 U z=>?_
 have fV:=s1.trans s2
 rw?
 apply jy (lJ ?_)
 refine ⟨l,rfl,⟨_,bS.of (fV _ _ hl)⟩,gX (xs:=vals es) (λi σ H3=>Xs5 λ(p L:ah) (I:Ls) (B:Nat) (v:Option V)=>σ=[some (.ref l),some (.ref pb),some (.ref TT),some (.ref p),v]/\ao H H3/\LL H H3 TT I/\Cut es (2*β) (I.map (·.2)) B/\B<=i/\(0<i->B<i)/\I.length<=B/\xK aR H3 p L (piece es B i) (2*β) N (2*n+1)/\H p=none/\H L=none/\TT≠L/\∀x∈I,x.1≠L) ?_ ?_ ?_ ?_⟩
 ·refine ⟨p,L,[],0,none,rfl,fV,⟨n1,s2 _ _ e1,λx O=>absurd O 0#w,by simp⟩,Cut.nil,gI _,λh=>absurd h 0#y,gI _,?_,s1.free Z,s1.free U,λq=>?_,λx O=>absurd O 0#w⟩
  ·rw [piece_nil];exact z
  ·rw [<- q,e1] at U;cases U
 ·rintro i σ H3 _ ⟨p,L,I,B,v,rfl,s3,_⟩
  exact bS.of (s3 _ _ hl)
 ·rintro i x σ H3 O ⟨p,L,I,B,v,rfl,s3,Hq,hC,af,ad,as,z,Z,U,ak,am⟩
  refine fP λM Bk RR hM _ _=>?_
  obtain ⟨e,he,rfl⟩:=jw O
  have hi:i<es.length:=(tP.mp he).1
  obtain ⟨e',aE,bh⟩:=dM (aL.up s3) hS hi
  rw [he] at aE
  cases aE
  have ee:e=(e.1,mo es i,some (wo es i)):=by
   have hs:=hS e (g8 he)
   obtain ⟨a,m,v⟩:=e
   cases v with
   | none=>cases hs
   | some q=>
     unfold mo wo
     rw [he]
     rfl
  have aN:(piece es B i).length=i-B:=Bt 0#u
  have hm:∀j,j<(piece es B i).length->mo (piece es B i) j<mo es i:=λj hj=>by
   rw [aN] at hj
   rw [Xy hj]
   exact jK jJ 0#u hi
  have J:=sM af he
  rw [ee] at J
  obtain ⟨dx3,tw,fs,g,s',ep,hF,eL,_⟩:=id z
  rw?
  apply F3 ep (hF.AV "takes") ?_
  refine ⟨p,L,e.1,piece es B i,mo es i,wo es i,_,N,2*n+1,rfl,z,bh,hm,by try?,hN,by try?,ay,λr H4 s4 ac Vk=>?_⟩
  rw [<- J] at ac Vk
  have Hs:ao H H4:=λb' o q=>s4 _ _ (by rw [iR (bT q Z) (bT q U)];exact s3 _ _ q)
  have WY:=Hq.mv ep ak am s4
  cases r with
  | true=>
    rw [if_pos rfl] at Vk
    rw?
    apply bO ?_
    exact hM _ _ ⟨p,L,I,B,_,rfl,Hs,WY,hC,by try?,λ_=>by try?,as,Vk,Z,U,ak,am⟩
  | false=>
    rw [if_neg pJ] at Vk
    have nf:¬O6 (piece es B (i+1)) (2*β):=λq=>absurd (ac.mpr q) 0#y
    have a5:B<i:=by
     first|exact Zf|refine Zf ?_|refine Zf ?_ ?_
     intro q
     exact nf (SQ (by rw [Bt 0#u];try?))
    have a':Cut es (2*β) (I.map (·.2)++[piece es B i]) i:=hC.snoc a5 0#u z.fit λ_=>nf
    obtain ⟨a8,bj,a9,g4,bi,ae,ag,SJ,_⟩:=id Vk
    rw?
    apply cD ?_
    apply ⟨.inl ⟨rfl,_,bS.of WY.at_⟩,?_⟩
    apply F3 ae (ag.AV "kept") ?_
    refine ⟨p,L,_,_,_,_,rfl,Vk,λR H5 s5 Y eR=>?_⟩
    have WZ:=WY.up s5
    have ai:R≠TT:=λq=>by rw [q,WY.at_] at Y;cases Y
    have aj:∀x∈I,x.1≠R:=λx O q=>by
     have:=(WY.each x O).2.1
     rw [q,Y] at this
     cases this
    rw?
    refine gB WZ.at_ (by rw [gn];exact bg 0#u) ?_
    have U5:=WZ.push (Hs.free Y) eR ai aj
    have Ht:ao H (upd H5 TT (.lst (lrefs I++[.ref R]))):=bP (Hs.trans s5) n1
    generalize upd H5 TT (.lst (lrefs I++[.ref R]))=H6 at U5 Ht ⊢
    rw?
    refine λp' dx' an a7 _=>fresh Ht an a7 λL' H7 s7 S av=>?_
    have aQ:=Ht.trans s7
    have Pw:=U5.up s7
    obtain ⟨dx7,tw7,fs7,g7,s7',ax,ba,eL7,_⟩:=id av
    rw?
    apply F3 ax (ba.AV "takes") ?_
    refine ⟨p',L',e.1,[],mo es i,wo es i,_,N,2*n+1,rfl,av,?_,λj hj=>absurd hj (ON _),jV _,hN,by try?,ay,λr2 H8 s8 aU aw=>?_⟩
    ·obtain ⟨e2,aK,aZ⟩:=dM (aL.up aQ) hS hi
     rw [he] at aK
     cases aK
     exact aZ
    have be:r2=true:=aU.mpr (SQ 0#w)
    rw [if_pos be,adz,<- ee] at aw
    have ap:TT≠L':=λq=>by rw [<- q,U5.at_] at S;cases S
    have ar:∀x∈I++[(R,piece es B i)],x.1≠L':=λx O q=>by
     have:=(U5.each x O).2.1
     rw [q,S] at this
     cases this
    have a6:=Pw.mv ax ap ar s8
    rw?
    refine hM _ _ ⟨p',L',I++[(R,piece es B i)],i,_,rfl,λb' o q=>s8 _ _ (by rw [iR (bT q (Ht.free an)) (bT q (Ht.free S))];exact aQ _ _ q),a6,?_,by try?,λ_=>by try?,by rw [jf];show I.length+1<=i;try?,?_,Ht.free an,Ht.free S,ap,ar⟩
    ·rw [jM]
     exact a'
    ·rw [sM (gI _) he,piece_nil]
     exact aw
 ·rintro σ H3 ⟨p,L,I,B,v,rfl,s3,Hq,hC,af,ad,as,z,Z,U,ak,am⟩
  rw [aY] at af ad z
  rw?
  refine gR (.inl (bS.of (s3 _ _ hl))) ?_
  rw [aY]
  rw?
  refine cJ 0#K 0#K
  ·have c':=kO c
   obtain ⟨a8,bj,a9,g4,bi,ae,ag,SJ,_⟩:=id z
   rw?
   apply ⟨.inl ⟨rfl,_,bS.of Hq.at_⟩,?_⟩
   apply F3 ae (ag.AV "kept") ?_
   refine ⟨p,L,_,_,_,_,rfl,z,λR H5 s5 Y eR=>?_⟩
   have WZ:=Hq.up s5
   have ai:R≠TT:=λq=>by rw [q,Hq.at_] at Y;cases Y
   have aj:∀x∈I,x.1≠R:=λx O q=>by
    have:=(Hq.each x O).2.1
    rw [q,Y] at this
    cases this
   have bb:B<es.length:=ad 0#u
   rw?
   refine gB WZ.at_ (by rw [gn];exact bg 0#u) ?_
   have U5:=WZ.push (s3.free Y) eR ai aj
   rw?
   refine k TT _ _ (bP (s3.trans s5) n1) U5 ?_ (by rw [jf];show I.length+1<=40;try?)
   rw [jM]
   exact hC.snoc bb (gI _) z.fit λq=>absurd q (wY _)
  ·have c':=jF (gH.mpr c)
   rw?
   refine k TT I H3 s3 Hq ?_ 0#u
   rw [show es.length=B by try?]
   exact hC
section
variable (t y:Nat->Int)
noncomputable def ab (i k p:Nat):Int:=y p*(t k-t i)-y i*(t k-t p)-y k*(t p-t i)
noncomputable def rC (i j k p:Nat):Int:=2*ab t y i k p-ab t y i k j
noncomputable def EC (i j k:Nat):Rat:=((ab t y i k j).natAbs:Int)/((t k-t i:Int):Rat)
end
def aeJ:2*(t k-t i)*ab t y a c b=rC t y i j k b*(t c-t a)-rC t y i j k a*(t c-t b)-rC t y i j k c*(t b-t a):=by
 unfold rC ab
 grind
def VA:rC t y i j k i=- ab t y i k j:=by
 unfold rC ab
 grind
def XD:rC t y i j k k=- ab t y i k j:=by
 unfold rC ab
 grind
def DU:rC t y i j k j=ab t y i k j:=by
 unfold rC
 try?
def Wn {m:Int} (hx:m<=x) (hu:m<=u) (hz:m<=z) (h:m<x\/m<u\/m<z) (hq:0<q) (hr:0<r):2*m*(q+r)<u*(q+r)+x*q+z*r:=by
 have e:u*(q+r)+x*q+z*r-2*m*(q+r)=(u-m)*(q+r)+(x-m)*q+(z-m)*r:=by grind
 have h1:0<=(u-m)*(q+r):=wX 0#u 0#u
 have h2:0<=(x-m)*q:=wX 0#u 0#u
 have h3:0<=(z-m)*r:=wX 0#u 0#u
 rcases h with h | h | h
 ·have:0<(x-m)*q:=JU 0#u hq
  try?
 ·have:0<(u-m)*(q+r):=JU 0#u 0#u
  try?
 ·have:0<(z-m)*r:=JU 0#u hr
  try?
def Alt (O:Nat->Int) (m:Int) (a b c:Nat):Prop:=((m<=O b/\m<=- O a/\m<=- O c)\/(m<=- O b/\m<=O a/\m<=O c))/\((m<O a\/m < - O a)\/(m<O b\/m < - O b)\/(m<O c\/m < - O c))
def aeP (hik:t i<t k) (hab:t a<t b) (hbc:t b<t c) (h:Alt (rC t y i j k) ((ab t y i k j).natAbs:Int) a b c):EC t y i j k<EC t y a b c:=by
 have A:((ab t y i k j).natAbs:Int)*(t c-t a)<((ab t y a c b).natAbs:Int)*(t k-t i):=by
  have id:=aeJ (t:=t) (y:=y) (i:=i) (j:=j) (k:=k) (a:=a) (b:=b) (c:=c)
  generalize rC t y i j k=O at *
  generalize J:((ab t y i k j).natAbs:Int)=m at *
  have hm0:0<=m:=J▸Oz _
  obtain ⟨G,h2⟩:=h
  rcases G with ⟨B,D,E⟩ | ⟨B,D,E⟩
  ·have g:=Wn (x:=- O a) (u:=O b) (z:=- O c) (q:=t c-t b) (r:=t b-t a) D B E 0#u (Up hbc) (Up hab)
   have e1:O b*(t c-t b+(t b-t a))+- O a*(t c-t b)+- O c*(t b-t a)=O b*(t c-t a)-O a*(t c-t b)-O c*(t b-t a):=by grind
   rw [e1,<- id] at g
   have e2:2*m*(t c-t b+(t b-t a))=2*(m*(t c-t a)):=by grind
   rw [e2] at g
   have e3:2*(t k-t i)*ab t y a c b=2*(ab t y a c b*(t k-t i)):=by grind
   rw [e3] at g
   have v:m*(t c-t a)<ab t y a c b*(t k-t i):=acp g 0#y
   exact Zu v (OX adZ (acQ (vF hik)))
  ·have g:=Wn (x:=O a) (u:=- O b) (z:=O c) (q:=t c-t b) (r:=t b-t a) D B E 0#u (Up hbc) (Up hab)
   have e1:- O b*(t c-t b+(t b-t a))+O a*(t c-t b)+O c*(t b-t a)=- (O b*(t c-t a)-O a*(t c-t b)-O c*(t b-t a)):=by grind
   rw [e1,<- id] at g
   have e2:2*m*(t c-t b+(t b-t a))=2*(m*(t c-t a)):=by grind
   rw [e2] at g
   have e3:- (2*(t k-t i)*ab t y a c b)=2*(- ab t y a c b*(t k-t i)):=by grind
   rw [e3] at g
   have v:m*(t c-t a) < - ab t y a c b*(t k-t i):=acp g 0#y
   exact Zu v (OX (G3 (ab t y a c b)▸adZ) (acQ (vF hik)))
 unfold EC
 have I:=cast_pos (b:=t k-t i) 0#u
 have L:=cast_pos (b:=t c-t a) 0#u
 rw [adL I]
 have e:(((ab t y a c b).natAbs:Int):Rat)/((t c-t a:Int):Rat)*((t k-t i:Int):Rat)=((((ab t y a c b).natAbs:Int)*(t k-t i):Int):Rat)/((t c-t a:Int):Rat):=by
  rw [yJ]
  grind
 rw [e,adM L,<- yJ]
 exact B3.mpr A
noncomputable def agH (n:Nat):List (Nat×Nat×Nat):=(jg n).flatMap λa=>(jg n).flatMap λb=>(jg n).map λc=>(a,b,c)
def Xu (ha:a<n) (hb:b<n) (hc:c<n):(a,b,c)∈agH n:=by
 unfold agH
 exact adw.mpr ⟨a,wD.mpr ha,adw.mpr ⟨b,wD.mpr hb,kc.mpr ⟨c,wD.mpr hc,rfl⟩⟩⟩
open Classical in
noncomputable def beyond (t y:Nat->Int) (n:Nat) (d:Rat):Nat:=((agH n).filter λx=>decide (d<EC t y x.1 x.2.1 x.2.2)).length
def filter_lt {α:Type} {p q:α->Bool}:∀{l:List α},(∀x,q x=true->p x=true)->(∃x,x∈l/\p x=true/\q x=false)->(l.filter q).length<(l.filter p).length
 | [],_,h=>by obtain ⟨x,hx,_⟩:=h;exact absurd hx 0#w
 | a::l,hq,h=>by
   have le:∀l:List α,(l.filter q).length<=(l.filter p).length:=λl=>by
    induction l with
    | nil=>exact gI _
    | cons b l ih=>
      rw [CD,CD]
      cases hb:q b with
      | true=>rw [hq b hb,if_pos rfl,if_pos rfl];exact GY ih
      | false=>
        rw [if_neg pJ]
        split
        ·exact Uo ih
        ·exact ih
   obtain ⟨x,hx,hp,hqx⟩:=h
   rw [CD,CD]
   rcases kM.mp hx with rfl | hx
   ·rw [hqx,hp,if_neg pJ,if_pos rfl]
    exact Nat.lt_succ_of_le (le l)
   ·have ih:=filter_lt (l:=l) hq ⟨x,hx,hp,hqx⟩
    cases hb:q a with
    | true=>rw [hq a hb,if_pos rfl,if_pos rfl];exact Nat.succ_lt_succ ih
    | false=>
      rw [if_neg pJ]
      split
      ·exact adg ih
      ·exact ih
open Classical in
def US (ha:a<n) (hb:b<n) (hc:c<n) (h:d<EC t y a b c):beyond t y n (EC t y a b c)<beyond t y n d:=by
 unfold beyond
 refine filter_lt (λx u=>jN (by have:=kO u;grind)) ⟨(a,b,c),Xu ha hb hc,jN h,mJ (ZT)⟩
def Xm {C:Int} (hC:1<=C) (hb:1<=b):1<=C.fdiv (cL C b:Nat)*b/\C.fdiv (cL C b:Nat)*b<=C*b/\C∣C.fdiv (cL C b:Nat)*b/\b∣C.fdiv (cL C b:Nat)*b:=by
 have gp:0<cL C b:=Sf C 0#u
 obtain ⟨c,v⟩:=OH (a:=C) (b:=b)
 obtain ⟨d,D⟩:=OG (a:=C) (b:=b)
 generalize hg:((cL C b:Nat):Int)=g at *
 have g1:0<g:=by try?
 have e:C.fdiv g=c:=by
  conv=>lhs;rw [v]
  exact acr c 0#u
 rw [e]
 have A:1<=c:=by
  rcases ad4 c 1 with z | z
  ·have:g*c<=0:=Int.mul_nonpos_of_nonneg_of_nonpos 0#u 0#u
   try?
  ·exact z
 have B:c<=C:=by
  rw [v]
  have:=OX (show 1<=g by try?) (show 0<=c by try?)
  try?
 refine ⟨?_,OX B 0#u,⟨d,?_⟩,⟨c,xh _ _⟩⟩
 ·have:=OS A hb 0#u 0#u
  try?
 ·rw [v]
  conv=>lhs;rw [D]
  grind
structure Pts (H:Hp) (L:ah) (ps:List ah) (t y:Nat->Int):Prop where
 at_:H L=some (.lst (ps.map V.ref))
 each:∀i a,ps[i]?=some a->H a=some (.tup [.int (t i),.int (y i)])
def Pts.up (h:Pts H L ps t y) (s:ao H H'):Pts H' L ps t y:=⟨s _ _ h.at_,λi a e=>s _ _ (h.each i a e)⟩
def Q4 {ps:List ah} (h:i<ps.length) (hj:j=(i:Int)):∃a,ps[i]?=some a/\uD (ps.map V.ref) j=some (.ref a):=⟨ps[i],jE h,by
 subst hj
 exact iS (by rw [gF,jE h];rfl)⟩
inductive GJ (vs:List V) (H:Hp) (Q:VK) (E_:XK):Prop where
 | mk (l:ah) (es:0#h) (n:Nat):vs=[.ref l]->H l=some 0#R->Row H es n->nU es->1<=n->es.length*n+n<=7000->es.length<=40->(∀(L:ah) (ps:List ah) (y:Nat->Int) (C:Int) (H':Hp),ao H H'->H L=none->Pts H' L ps (mo es) y->ps.length=es.length->1<=C->(∀i,i<es.length->(y i:Rat)=wo es i*(C:Rat)/\Sz 8000 (y i))->Q (.ref L) H')->GJ vs H Q E_
inductive LO (vs:List V) (H:Hp) (Q:VK) (E_:XK):Prop where
 | mk (p1 p2 p3:ah) (m1 n1 m2 n2 m3 n3:Int):vs=[.ref p1,.ref p2,.ref p3]->H p1=some (.tup [.int m1,.int n1])->H p2=some (.tup [.int m2,.int n2])->H p3=some (.tup [.int m3,.int n3])->Sz 8000 m1->Sz 8000 m2->Sz 8000 m3->Sz 8000 n1->Sz 8000 n2->Sz 8000 n3->Q (.int (n3*(m2-m1)-n1*(m2-m3)-n2*(m3-m1))) H->LO vs H Q E_
inductive RH (vs:List V) (H:Hp) (Q:VK) (E_:XK):Prop where
 | mk (L r:ah) (ps:List ah) (t y:Nat->Int) (i j k:Nat):vs=[.ref L,.ref r]->Pts H L ps t y->ps.length<=40->H r=some (.tup [.int (i:Int),.int (j:Int),.int (k:Int)])->i<ps.length->j<ps.length->k<ps.length->(∀q,q<ps.length->Sz 8000 (t q)/\Sz 8000 (y q))->(∀(D:ah) (H':Hp),ao H H'->H D=none->H' D=some (.lst (((jg ps.length).map (rC t y i j k)).map V.int))->Q (.ref D) H')->RH vs H Q E_
inductive Ry (vs:List V) (H:Hp) (Q:VK) (E_:XK):Prop where
 | mk (r D:ah) (i j k p n:Nat) (O:Nat->Int) (m:Int):vs=[.ref r,.int (p:Int),.ref D]->H r=some (.tup [.int (i:Int),.int (j:Int),.int (k:Int)])->H D=some (.lst (((jg n).map O).map V.int))->i<j->j<k->k<n->p<n->0<=m->((m=O j/\O i=- O j/\O k=- O j)\/(m=- O j/\O i=- O j/\O k=- O j))->(m<O p\/m < - O p)->(∀(r':ah) (a b c:Nat) (H':Hp),ao H H'->H' r'=some (.tup [.int (a:Int),.int (b:Int),.int (c:Int)])->a<b->b<c->c<n->Alt O m a b c->Q (.ref r') H')->Ry vs H Q E_
def Flat (t y:Nat->Int) (n i j k:Nat):Prop:=i<j/\j<k/\k<n/\∀p,p<n->(rC t y i j k p).natAbs<=(ab t y i k j).natAbs
inductive BP (vs:List V) (H:Hp) (Q:VK) (E_:XK):Prop where
 | mk (l:ah) (es:0#h) (n:Nat):vs=[.ref l]->H l=some 0#R->Row H es n->nU es->rising es->1<=n->es.length*n+n<=7000->3<=es.length->es.length<=40->(∀(r:ah) (i j k:Nat) (y:Nat->Int) (C:Int) (H':Hp),ao H H'->H' r=some (.tup [.int (i:Int),.int (j:Int),.int (k:Int)])->1<=C->(∀i,i<es.length->(y i:Rat)=wo es i*(C:Rat))->Flat (mo es) y es.length i j k->Q (.ref r) H')->BP vs H Q E_
def iH:dR 1 [br,"common",bF,cK] pC:=0#t
def Dy (F:fU K "whole_points" pC f fd) (gh:aai P w K mg base):0#b 3 f fd [br] GJ:=by
 refine F.fq iH 0#a
 obtain ⟨l,es,n,rfl,hl,hR,hS,hn1,hn,HE,k⟩:=h
 have ac:∀i,i<es.length->i*n+n<=es.length*n:=λi R=>by
  have:=Nat.mul_le_mul_right n (show i+1<=es.length by try?)
  rw [aem,aen] at this
  exact this
 have cd:∀{x d:Int},1<=d->Sz 8000 d->Ed x d:=λhd hz=>⟨by try?,Sz.log (m:=8000) hz 0#y 0#y⟩
 apply bI ⟨_,(aq (nK (i:=1) iH.nd rfl (Or.inr rfl) aH (hs:=akI)) (aq (iV j9 rfl (gQ K 0#A) (cG (i:=2) iH.nd rfl 0#D) (aq (aV 3 iH.nd (aO K (aO K 0#P))) (aA (nK (i:=1) iH.nd rfl (Or.inr rfl) (aX bE (aX fQ 0#H (cg gh hr 0#H 0#X)) 0#X) (hs:=agx))))) (aA (aW (pR (O:=[bF]) (N':=["common"]) (cap:=[1]) rfl (gQ K 0#A) (λ_ _ _ _ _=>(cG (i:=0) (show mL [("sample":Str),("common":Str)] by decide +kernel) rfl 0#D)) (λ_ _ _ _ _=>oX) (λ_ _ _ _ _=>(b9 (eV (cY (Vo K) 0#A aH 0#B) (eV (aX bE (cY (Vo K) (cY (Vo K) 0#A aH 0#B) aH 0#B) (aX fQ 0#H (cY (Vo K) (cY (Vo K) 0#A aH 0#B) aH 0#B))) gT YL) An))) rfl ⟨0#T,trivial⟩ rfl 0#x rfl 0#x))))),?_⟩
 apply jy (lJ ?_)
 refine ⟨l,rfl,⟨_,bS.of hl⟩,gX (xs:=vals es) (λi σ H3=>Xs3 λ(C:Int) (v2 v3:Option V)=>σ=[some (.ref l),some (.int C),v2,v3]/\ao H H3/\1<=C/\Sz (i*n+1) C/\∀j,j<i->((wo es j).den:Int)∣C) ?_ ?_ ?_ ?_⟩
 ·exact ⟨1,none,none,rfl,ao.refl _,aef _,by rw [Nat.zero_mul];exact xY 0#u,λj hj=>by try?⟩
 ·rintro i σ H3 _ ⟨C,v2,v3,rfl,U,_⟩
  exact bS.of (U _ _ hl)
 ·rintro i x σ H3 hx ⟨C,v2,v3,rfl,U,hC,zC,N⟩
  refine fP λM B RR hM _ _=>?_
  obtain ⟨e,he,rfl⟩:=jw hx
  have R:i<es.length:=(tP.mp he).1
  obtain ⟨e',J,v,ev,⟨tp,b,eb,z,zt,zb⟩,zm⟩:=dM (hR.up U) hS R
  rw [he] at J
  cases J
  have hb:=z.pos
  obtain ⟨_,I⟩:=z.DT
  have ae:=ac i R
  rw?
  refine ⟨C,b,rfl,zC.mono 0#u,zb.mono 0#u,λH4 Z=>?_⟩
  obtain ⟨u1,u2,u3,u4⟩:=Xm hC hb
  have zg:Sz 8000 ((cL C b:Nat):Int):=by
   have:cL C b<=b.natAbs:=ZS 0#u (ZC _ _)
   exact Sz.of_le (zb.mono 0#u) 0#u
  have gp:0<cL C b:=Sf C 0#u
  have ag:Sz ((i+1)*n+1) (C.fdiv (cL C b:Nat)*b):=by
   have e1:(i+1)*n+1=i*n+1+n:=by rw [aem,aen];try?
   rw [e1]
   refine Sz.of_le (zC.mul zb) ?_
   generalize C.fdiv (cL C b:Nat)*b=A at *
   generalize C*b=B at *
   try?
  have zq:Sz 8000 (C.fdiv (cL C b:Nat)):=by
   refine Sz.of_le (zC.mono (show i*n+1<=8000 by try?)) ?_
   have h0:0<=C.fdiv (cL C b:Nat):=ZK 0#u 0#u
   have:C.fdiv (cL C b:Nat)<=C:=by
    rw [Hg _ 0#u]
    exact Ur _ 0#u
   try?
  rw?
  apply jP (cd 0#u zg) ?_
  apply jP (dG zq (zb.mono (show n<=8000 by try?)) 0#y) ?_
  refine hM _ _ ⟨_,_,_,rfl,U.trans Z,u1,ag,λj hj=>?_⟩
  by_cases e:j=i
  ·rw [e,<- I];exact u4
  ·exact Int.dvd_trans (N j 0#u) u3
 ·rintro σ H3 ⟨C,v2,v3,rfl,U,hC,zC,N⟩
  rw [aY] at zC N
  have ad:=U _ _ hl
  rw?
  apply lJ ?_
  refine ⟨l,rfl,⟨_,bS.of ad⟩,?_⟩
  refine d8 (xs:=vals es) dm (λH4 Z=>bS.of (Z _ _ ad)) (by rw [aY];try?) (λi ys G=>∃(ps:List ah),ys=ps.map V.ref/\ps.length=i/\∀q a,ps[q]?=some a->G a=some (.tup [.int (mo es q),.int ((wo es q).num*(C.fdiv ((wo es q).den:Int)))])) ⟨[],rfl,rfl,λq a h=>by simp at h⟩ ?_ ?_
  ·rintro D i x ys H4 nQ NN N0 h0 hD eD Z hx hy ⟨ps,rfl,L,Y⟩ kY kN
   obtain ⟨e,he,rfl⟩:=jw hx
   have R:i<es.length:=(tP.mp he).1
   obtain ⟨e',J,v,ev,⟨tp,b,eb,z,zt,zb⟩,zm⟩:=dM (hR.up (U.trans Z)) hS R
   rw [he] at J
   cases J
   have hb:=z.pos
   obtain ⟨S,I⟩:=z.DT
   apply jB h0 ?_
   apply cD ?_
   apply jP (cd hb (zb.mono 0#u)) ?_
   have zq:Sz 8000 (C.fdiv b):=by
    refine Sz.of_le (zC.mono (show es.length*n+1<=8000 by try?)) ?_
    have h0:0<=C.fdiv b:=ZK 0#u 0#u
    have:C.fdiv b<=C:=by
     rw [Hg _ 0#u]
     exact Ur _ 0#u
    try?
   apply jP (dG (zt.mono (show n<=8000 by try?)) zq 0#y) ?_
   refine aG (mk:=.tup) 0#w λp H5 s5 n5 e5=>?_
   refine kY _ H5 s5 ⟨ps++[p],by simp,by simp [L],λq a hq=>?_⟩
   by_cases hqi:q<ps.length
   ·rw [Mr hqi] at hq
    exact (rK s5) _ _ (Y q a hq)
   ·rw [Sg 0#u] at hq
    have af:q=i:=by
     have:=(tP.mp hq).1
     simp at this
     try?
    subst af
    rw [L,aea] at hq
    obtain rfl:p=a:=by simpa using hq
    rw [<- S,<- I]
    exact lK (s5 _ _ eD) e5
  ·rintro D ys H4 hD eD Z hy ⟨ps,rfl,L,Y⟩
   rw [aY] at L
   refine k D ps (λq=>(wo es q).num*(C.fdiv ((wo es q).den:Int))) C H4 (U.trans Z) (U.free hD) ⟨eD,λq a h=>jt _ _ (Y q a h)⟩ L hC (λi R=>?_)
   obtain ⟨e',J,v,ev,⟨tp,b,eb,z,zt,zb⟩,zm⟩:=dM hR hS R
   obtain ⟨S,I⟩:=z.DT
   have hb:=z.pos
   obtain ⟨c,hc⟩:=N i R
   rw [<- I] at hc
   have e1:C.fdiv b=c:=by
    conv=>lhs;rw [hc]
    exact acr c 0#u
   have ahk:=gU (b:=b) 0#u
   have ae:=ac i R
   refine ⟨?_,?_⟩
   ·show (((wo es i).num*(C.fdiv ((wo es i).den:Int)):Int):Rat)=_
    rw [<- I,<- S,e1,hc,yJ,yJ]
    have:=z.eq
    grind
   ·show Sz 8000 ((wo es i).num*(C.fdiv ((wo es i).den:Int)))
    rw [<- I,<- S]
    have zq:Sz (es.length*n+1) (C.fdiv b):=by
     refine Sz.of_le zC ?_
     have h0:0<=C.fdiv b:=ZK 0#u 0#u
     have:C.fdiv b<=C:=by
      rw [Hg _ 0#u]
      exact Ur _ 0#u
     try?
    exact (zt.mul zq).mono 0#u
def pF:dR 3 [aT,dh,"point","ahead","behind"] qD:=0#t
def Fj (F:fU K "above_chord" qD f fd):0#b 1 f fd [aT,dh,"point"] LO:=by
 refine F.fq pF 0#a
 obtain ⟨p1,p2,p3,m1,n1,m2,n2,m3,n3,rfl,e1,e2,e3,a1,a2,a3,u,v,z,k⟩:=h
 apply bI ⟨_,(aq (aV 3 pF.nd (aX bE 1#d (aX dF (aO K 0#H) (aO K 0#P)))) (aq (aV 4 pF.nd (aX bE (aO K 0#H) (aX dF (aO K 0#P) 1#d))) (aA (aW (aX dF (aX dF (aX bE (aO K 0#P) (aX dF (aO K 0#H) 1#d)) 0#X) (aa 4)))))),?_⟩
 apply jP (dG u (a2.sub a3) 0#y) ?_
 apply jP (dG v (a3.sub a1) 0#y) ?_
 apply jP (dG z (a2.sub a1) 0#y) ?_
 exact k
def kE:dR 2 ["points","three",aT,dh,"lift"] qL:=0#t
def FH (F:fU K "scaled_offs" qL f fd) (lW:0#c 1 "above_chord" [aT,dh,"point"] LO):0#b 2 f fd ["points","three"] RH:=by
 refine F.fq kE 0#a
 obtain ⟨L,r,ps,t,y,i,j,I,rfl,v,HE,er,J,S,M,u,k⟩:=h
 obtain ⟨Y,gi,ti⟩:=Q4 J (j:=(i:Int)) rfl
 obtain ⟨aj,gj,tj⟩:=Q4 S (j:=(j:Int)) rfl
 obtain ⟨Z,gk,tk⟩:=Q4 M (j:=(I:Int)) rfl
 have ei:=v.each _ _ gi
 have ej:=v.each _ _ gj
 have ek:=v.each _ _ gk
 apply bI ⟨_,(aq (nK (i:=2) kE.nd rfl (Or.inr rfl) (cY (lX K) 0#A (aO K 0#H) 0#B) (hs:=YM)) (aq (nK (i:=3) kE.nd rfl (Or.inr rfl) (cY (lX K) 0#A (aO K 0#H) 0#B) (hs:=YM)) (aq (nK (i:=4) kE.nd rfl (Or.inr rfl) (Jd.c3 lW hr 0#P 0#X (cY (lX K) 0#A (aO K 0#H) 0#B)) (hs:=cU)) (aA (aW (pR (O:=["point"]) (N':=["lift","one" ,"last" ]) (cap:=[4,2,3]) rfl (gQ K 0#A) (λ_ _ _ _ _=>(cG (i:=0) (show mL [("point":Str),("lift":Str),("one":Str),("last":Str)] by decide +kernel) rfl 0#D)) (λ_ _ _ _ _=>oX) (λ_ _ _ _ _=>(aX dF (aX bE aH (ko lW 0#G rfl (eV 0#P (eV 0#X (eV 0#A gT bH) bH) bH) (he:=bH) (hpl:=(cO bH (cO bH bZ))))) 0#H)) rfl ⟨0#T,⟨0#T,⟨0#T,trivial⟩⟩⟩ rfl 0#x rfl 0#x)))))),?_⟩
 apply ie v.at_ ti ?_
 apply ie v.at_ tk ?_
 apply ie v.at_ tj ?_
 apply ⟨Y,Z,aj,_,_,_,_,_,_,rfl,ei,ek,ej,(u i J).1,(u I M).1,(u j S).1,(u i J).2,(u I M).2,(u j S).2,?_⟩
 apply lJ ?_
 refine ⟨L,rfl,⟨_,bS.of v.at_⟩,?_⟩
 refine d8 (xs:=ps.map V.ref) dm (λN z=>bS.of (z _ _ v.at_)) (by rw [iI];try?) (λq U G=>U=((jg q).map (rC t y i j I)).map V.int) rfl ?_ ?_
 ·rintro D q x U N nQ NN N0 h0 hD R z hx hy rfl kY kN
  rw [gF] at hx
  obtain ⟨a,ga,rfl⟩:=Sh.mp hx
  have hq:q<ps.length:=(tP.mp ga).1
  apply jB h0 ?_
  apply cD ?_
  apply ⟨Y,Z,a,_,_,_,_,_,_,rfl,z _ _ ei,z _ _ ek,z _ _ (v.each _ _ ga),(u i J).1,(u I M).1,(u q hq).1,(u i J).2,(u I M).2,(u q hq).2,?_⟩
  refine kY _ N 0#V ?_
  rw [G2,jM,jM]
  rfl
 ·rintro D U N hD R z hy rfl
  rw [iI] at R
  exact k D N z hD R
def SM (h0:0<=m) (hm:m=oj\/m=-oj) (hi:oi=-oj) (hp:m<op\/m < -op) (hs:0<op↔0<oi):(m<=oj/\m<=-op)\/(m<=-oj/\m<=op):=by
 have:(0<op/\0<oi)\/(op<=0/\oi<=0):=by
  by_cases z:0<op
  ·exact .inl ⟨z,hs.mp z⟩
  ·exact .inr ⟨CK.mp z,CK.mp λq=>z (hs.mpr q)⟩
 lia
def Kc (h0:0<=m) (hm:m=oj\/m=-oj) (hi:oi=-oj) (hp:m<op\/m < -op) (hs:(0<op/\oi<=0)\/(op<=0/\0<oi)):(m<=op/\m<=oj)\/(m<=-op/\m<=-oj):=by
 lia
def yP (h:q<n):uD (((jg n).map O).map V.int) (q:Int)=some (.int (O q)):=iS (by rw [gF,gF,OY h];rfl)
def ou:dR 3 ["three","far","offs",c5,"mid",dh] uX:=0#t
def KU (F:fU K "exchanged" uX f fd):0#b 1 f fd ["three","far","offs"] Ry:=by
 refine F.fq ou 0#a
 obtain ⟨r,D,i,j,kk,p,n,O,m,rfl,er,eD,ag,ai,ac,Y,J,hm,U,k⟩:=h
 have I:∀{a b c:Nat} {Z:Hp} {r':ah},ao H Z->Z r'=some (.tup [.int (a:Int),.int (b:Int),.int (c:Int)])->a<b->b<c->c<n->((m<=O b/\m<=- O a/\m<=- O c)\/(m<=- O b/\m<=O a/\m<=O c))->(a=p\/b=p\/c=p)->Q (.ref r') Z:=λR e1 h1 h2 h3 h4 h5=>k _ _ _ _ _ R e1 h1 h2 h3 ⟨h4,by
  rcases h5 with rfl | rfl | rfl
  ·exact .inl U
  ·exact .inr (.inl U)
  ·exact .inr (.inr U)⟩
 obtain ⟨L,oi,ok⟩:(m=O j\/m=-O j)/\O i=-O j/\O kk=-O j:=by
  rcases hm with ⟨m1,m2,m3⟩ | ⟨m1,m2,m3⟩
  ·exact ⟨.inl m1,m2,m3⟩
  ·exact ⟨.inr m1,m2,m3⟩
 have ad:-O i=O j:=by rw [oi,Z7]
 have ae:-O kk=O j:=by rw [ok,Z7]
 have hpi:p≠i:=λz=>by subst z;lia
 have hpj:p≠j:=λz=>by subst z;lia
 have hpk:p≠kk:=λz=>by subst z;lia
 refine bI ⟨_,(aq (aV 3 ou.nd 1#d) (aq (aV 4 ou.nd 1#d) (aq (aV 5 ou.nd 1#d) (aq (bK (iW (mw (bx oZ 0#H (aa 4) 1#a) (mz (bx cN (pS iF (cY (lX K) 0#P 0#H 0#B) aH 1#a) (pS iF (cY (lX K) 0#P 0#X 0#B) aH 1#a) 1#a)))) (aA (aW (b9 (Jd.a3 0#H (aa 4) (aa 5))))) bL) (aq (bK (iW (mw (bx iF 0#H (aa 4) 1#a) (mz (bx cN (pS iF (cY (lX K) 0#P 0#H 0#B) aH 1#a) (pS iF (cY (lX K) 0#P (aa 5) 0#B) aH 1#a) 1#a)))) (aA (aW (b9 (Jd.a3 0#X (aa 4) 0#H)))) bL) (aq (bK (bx oZ 0#H 0#X 1#a) (aA (aW (b9 (Jd.a3 0#H 0#X (aa 4))))) bL) (aq (bK (bx iF 0#H (aa 5) 1#a) (aA (aW (b9 (Jd.a3 (aa 4) (aa 5) 0#H)))) bL) (aA (aW (b9 (Jd.a3 0#X 0#H (aa 5)))))))))))),?_⟩
 refine YB (λS H'=>H'=H/\S=[some (.ref r),some (.int (p:Int)),some (.ref D),some (.int (i:Int)),some (.int (j:Int)),some (.int (kk:Int))]/\(p<j->¬(0<O p↔0<O i))) (λS H' hP=>?_) (λN G=>?_)
 rotate_left
 ·rw?
  refine cJ (λc1=>?_) (λc1=>?_)
  ·have Eu:=kO c1
   rw?
   apply ie eD (yP Y) ?_
   apply ie eD (yP (show i<n by lia)) ?_
   apply ach ?_
   refine cJ (λc2=>?_) (λc2=>?_)
   ·have M:(0<O p↔0<O i):=by
     have:=tR.mp c2
     exact JN.mp this
    rw?
    refine aG (mk:=.tup) 0#w λr' Z R n1 e1=>?_
    refine I R e1 (by lia) ai ac ?_ (.inl rfl)
    rcases SM J L oi U M with ⟨u,v⟩ | ⟨u,v⟩
    ·exact .inl ⟨u,v,by rw [ae];exact u⟩
    ·exact .inr ⟨u,v,by rw [ok];exact u⟩
   ·rw?
    refine G _ _ ⟨rfl,rfl,λ_ z=>c2 (tR.mpr (JN.mpr z))⟩
  ·have Eu:¬(p:Int)<(j:Int):=λz=>c1 (jN z)
   apply bO ?_
   exact G _ _ ⟨rfl,rfl,λz=>absurd (by lia) Eu⟩
 obtain ⟨rfl,rfl,h1⟩:=hP
 refine iY (λS af=>af=H'/\S=[some (.ref r),some (.int (p:Int)),some (.ref D),some (.int (i:Int)),some (.int (j:Int)),some (.int (kk:Int))]/\(j<p->¬(0<O p↔0<O kk))) (λS af hP=>?_) (λN G=>?_)
 rotate_left
 ·rw?
  refine cJ (λc1=>?_) (λc1=>?_)
  ·have Eu:=kO c1
   rw?
   apply ie eD (yP Y) ?_
   apply ie eD (yP ac) ?_
   apply ach ?_
   refine cJ (λc2=>?_) (λc2=>?_)
   ·have M:(0<O p↔0<O kk):=JN.mp (tR.mp c2)
    rw?
    refine aG (mk:=.tup) 0#w λr' Z R n1 e1=>?_
    refine I R e1 ag (by lia) Y ?_ (.inr (.inr rfl))
    rcases SM J L ok U M with ⟨u,v⟩ | ⟨u,v⟩
    ·exact .inl ⟨u,by rw [ad];exact u,v⟩
    ·exact .inr ⟨u,by rw [oi];exact u,v⟩
   ·rw?
    refine G _ _ ⟨rfl,rfl,λ_ z=>c2 (tR.mpr (JN.mpr z))⟩
  ·have Eu:¬(j:Int)<(p:Int):=λz=>c1 (jN z)
   apply bO ?_
   exact G _ _ ⟨rfl,rfl,λz=>absurd (by lia) Eu⟩
 obtain ⟨rfl,rfl,h2⟩:=hP
 have far:∀{q:Nat},¬(0<O p↔0<O q)->(0<O p/\O q<=0)\/(O p<=0/\0<O q):=λ{q} z=>by
  by_cases a1:0<O p
  ·exact .inl ⟨a1,CK.mp λb1=>z ⟨λ_=>b1,λ_=>a1⟩⟩
  ·exact .inr ⟨CK.mp a1,Zf λb1=>z ⟨λc=>absurd c a1,λc=>absurd c b1⟩⟩
 rw?
 refine cJ (λc1=>?_) (λc1=>?_)
 ·have Eu:=kO c1
  have hf:=far (h1 (by lia))
  rw?
  refine aG (mk:=.tup) 0#w λr' Z R n1 e1=>?_
  refine I R e1 (by lia) ag (by lia) ?_ (.inl rfl)
  rcases Kc J L oi U hf with ⟨u,v⟩ | ⟨u,v⟩
  ·exact .inr ⟨by rw [ad];exact v,u,v⟩
  ·exact .inl ⟨by rw [oi];exact v,u,v⟩
 ·have Eu:¬(p:Int)<(i:Int):=λz=>c1 (jN z)
  rw?
  refine cJ (λc2=>?_) (λc2=>?_)
  ·have M:=kO c2
   have hf:=far (h2 (by lia))
   rw?
   refine aG (mk:=.tup) 0#w λr' Z R n1 e1=>?_
   refine I R e1 ai (by lia) Y ?_ (.inr (.inr rfl))
   rcases Kc J L ok U hf with ⟨u,v⟩ | ⟨u,v⟩
   ·exact .inr ⟨by rw [ae];exact v,v,u⟩
   ·exact .inl ⟨by rw [ok];exact v,v,u⟩
  ·have M:¬(kk:Int)<(p:Int):=λz=>c2 (jN z)
   rw?
   refine aG (mk:=.tup) 0#w λr' Z R n1 e1=>?_
   refine I R e1 (by lia) (by lia) ac ?_ (.inr (.inl rfl))
   have hf:(m<=O p/\m<=O j)\/(m<=-O p/\m<=-O j):=by
    rcases ad5 p j with z | z
    ·exact Kc J L oi U (far (h1 z))
    ·exact Kc J L ok U (far (h2 (by lia)))
   rcases hf with ⟨u,v⟩ | ⟨u,v⟩
   ·exact .inl ⟨u,by rw [ad];exact v,by rw [ae];exact v⟩
   ·exact .inr ⟨u,by rw [oi];exact v,by rw [ok];exact v⟩
def VX (W:Nat->St->Hp->Prop) (h0:∃m,W m σ H)
 (hs:∀m σ H,W m σ H->∀R:Bool->Hp->Prop,(∀H1,(∀M:St->Hp->Prop,(∀σ' H' m',W m' σ' H'->m'<m->M σ' H')->tb { D with nx:=M,ct:=M,bk:=D.nx } σ H1)->R true H1)->(∀H1,D.nx σ H1->R false H1)->c σ H R):GQ c tb D σ H:=by
 refine ⟨W,h0,?_⟩
 intro m σ H p
 refine hs m σ H p _ (λH1 q=>?_) (λH1 q=>?_)
 ·rw [if_pos rfl]
  exact ⟨λσ' H'=>∃m',m'<m/\W m' σ' H',λσ' H' ⟨m',l,z⟩=>⟨m',l,z⟩,q _ λ_ _ m' a b=>⟨m',b,a⟩⟩
 ·rw [if_neg pJ]
  exact q
def dS:dR 1 [br,"points","three","offs","misses","worst"] nv:=0#t
def Bg (F:fU K "forcing_three" nv f fd) (T:Txt mg) (oS:0#c 3 "whole_points" [br] GJ) (qu:0#c 2 "scaled_offs" ["points","three"] RH) (uu:0#c 1 "exchanged" ["three","far","offs"] Ry):0#b 4 f fd [br] BP:=by
 refine F.fq dS 0#a
 obtain ⟨l,es,n,rfl,hl,hR,hS,jJ,ap,hn,h3,HE,k⟩:=h
 apply bI ⟨_,(aq (aV 1 dS.nd (Jd.c1 oS hr 0#A)) (aq (aV 2 dS.nd (b9 (Jd.a3 aH (aX fQ (ir K T.kK 0#H) aH) (aX dF (ir K T.kK 0#H) aH)))) (aA (Jd.mC j9 (gw j0) (aq (aV 3 dS.nd (cg qu hr 0#H 0#P)) (aq (Jd.oh (O:=["scaled"]) (N':=[]) (cap:=[]) (i:=4) dS.nd rfl 0#D rfl (gQ K 0#X) (λ_ _ _ _ _=>(cG (i:=0) (show mL [("scaled":Str)] by decide +kernel) rfl 0#D)) (λ_ _ _ _ _=>oX) (λ_ _ _ _ _=>(eE Hy rfl T.Hz II (eV 0#A gT bH) (he:=bH) (hpl:=bZ))) rfl trivial rfl 0#x rfl 0#x (by rfl)) (aq (aV 5 dS.nd (eE (akc K rfl) rfl T.aa7 Ud (cP (aa 4)) (he:=bH) (hpl:=bZ))) (aq (bK (bx cN (aa 5) (cY (lX K) (aa 4) (aO K 0#P) 0#B) 1#a) (aA (aW 0#P)) bL) (aA (aV 2 dS.nd (Jd.c3 uu hr 0#P (Jd.afv K (aa 4) (aa 5)) 0#X))))))))))),?_⟩
 refine ⟨l,es,n,rfl,hl,hR,hS,ap,hn,HE,λL ps y C H1 s1 nL hP hpl hC hy=>?_⟩
 have hz:∀q,q<ps.length->Sz 8000 (mo es q)/\Sz 8000 (y q):=λq hq=>by
  obtain ⟨_,_,_,_,_,zm⟩:=dM hR hS (show q<es.length by try?)
  exact ⟨zm.mono 0#u,(hy q 0#u).2⟩
 have N:∀{a b:Nat},a<b->b<ps.length->mo es a<mo es b:=λh1 h2=>jK jJ h1 0#u
 rw [<- hpl] at h3 HE
 rw?
 refine gR (.inl (bS.of hP.at_)) ?_
 rw [iI]
 rw?
 apply jP ⟨by decide,by decide⟩ ?_
 refine gR (.inl (bS.of hP.at_)) ?_
 rw [iI]
 rw?
 refine aG (mk:=.tup) 0#w λr0 H2 s2 n2 e2=>?_
 have aj:H2 r0=some (.tup [.int ((0:Nat):Int),.int ((ps.length/2:Nat):Int),.int ((ps.length-1:Nat):Int)]):=by
  rw [e2]
  have a1:(ps.length:Int).fdiv 2=((ps.length/2:Nat):Int):=by
   rw [Hg _ 0#u]
   rfl
  have a2:(ps.length:Int)-1=((ps.length-1:Nat):Int):=by try?
  rw [a1,a2]
  rfl
 rw?
 refine VX (λm σ H3=>Xs7 λ(i j v:Nat) (r:ah) (v3 v4 v5:Option V)=>σ=[some (.ref l),some (.ref L),some (.ref r),v3,v4,v5]/\ao H1 H3/\H3 r=some (.tup [.int (i:Int),.int (j:Int),.int (v:Int)])/\i<j/\j<v/\v<ps.length/\m=beyond (mo es) y ps.length (EC (mo es) y i j v)) ⟨_,0,ps.length/2,ps.length-1,r0,none,none,none,rfl,s2,aj,by try?,by try?,by try?,rfl⟩ ?_
 rintro m σ H3 ⟨i,j,v,r,v3,v4,v5,rfl,s3,er,af,ag,J,rfl⟩ RR ai hno
 rw?
 apply ai _ λM hM=>?_
 refine ⟨L,r,ps,mo es,y,i,j,v,rfl,hP.up s3,HE,er,by try?,by try?,J,hz,λD H4 s4 nD eD=>?_⟩
 have ak:=s4 _ _ er
 generalize Z:rC (mo es) y i j v=O at *
 have o1:O i=- O j:=by rw [<- Z,VA,DU]
 have o2:O v=- O j:=by rw [<- Z,XD,DU]
 have o3:O j=ab (mo es) y i v j:=by rw [<- Z,DU]
 rw?
 apply lJ ?_
 refine ⟨D,rfl,⟨_,bS.of eD⟩,?_⟩
 refine d8 (xs:=((jg ps.length).map O).map V.int) dm (λH5 R=>bS.of (R _ _ eD)) (by simp;try?) (λq ys G=>ys=((jg q).map λq=>((O q).natAbs:Int)).map V.int) rfl ?_ ?_
 ·rintro D' q x ys H5 nQ NN N0 h0 am S R hx ax rfl kY kN
  rw [gF,gF] at hx
  obtain ⟨z,gz,rfl⟩:=Sh.mp hx
  obtain ⟨q',gq,rfl⟩:=Sh.mp gz
  obtain ⟨hq1,aw⟩:=tP.mp gq
  obtain rfl:q=q':=by simpa using aw
  apply jB h0 ?_
  apply cD ?_
  refine kY _ H5 0#V ?_
  rw [G2,jM,jM,mq]
  rfl
 ·rintro D' ys H5 am S R ax rfl
  rw [iI,iI,adj] at S
  have U:=R _ _ ak
  rw?
  apply agh (bS.of S) (by simp;try?) λM' an Y=>?_
  apply ie S (yP (O:=λq=>((O q).natAbs:Int)) (show j<ps.length by try?)) ?_
  refine cJ (λc1=>?_) (λc1=>?_)
  ·have Eu:M'=((O j).natAbs:Int):=kO c1
   rw?
   refine k r i j v y C H5 (s1.trans (s3.trans (s4.trans R))) U hC (λi hi=>(hy i hi).1) ⟨af,ag,by try?,λp hp=>?_⟩
   have:=Y ((O p).natAbs:Int) (kc.mpr ⟨p,wD.mpr 0#u,rfl⟩)
   rw [Z,<- o3]
   try?
  ·have Eu:¬M'=((O j).natAbs:Int):=λz=>c1 (jN z)
   have akS:=Y ((O j).natAbs:Int) (kc.mpr ⟨j,wD.mpr 0#u,rfl⟩)
   rw?
   apply ⟨.inl ⟨rfl,_,bS.of S⟩,?_⟩
   refine ah7 S (by simp;try?) an λp gp=>?_
   rw [gF] at gp
   obtain ⟨p',al,hpe⟩:=Sh.mp gp
   obtain ⟨ar,as⟩:=tP.mp al
   obtain rfl:p=p':=by simpa using as
   have av:p<ps.length:=by simpa using ar
   rw?
   apply ⟨r,D,i,j,v,p,ps.length,O,((O j).natAbs:Int),rfl,U,R _ _ eD,af,ag,J,av,by try?,by try?,by try?,λr' a b c H6 s6 e6 ac ae I ad=>?_⟩
   refine hM _ _ _ ⟨a,b,c,r',_,_,_,rfl,s3.trans (s4.trans (R.trans s6)),e6,ac,ae,I,rfl⟩ ?_
   refine US 0#u 0#u I (aeP (j:=j) (N 0#u J) (N ac 0#u) (N ae I) ?_)
   rw [Z,<- o3]
   exact ad
noncomputable def oY (es:0#h) (s h:Rat) (p:Nat):Rat:=wo es p-(s*(mo es p:Rat)+h)
structure aag (es:0#h) (s h w:Rat) (F:Option (Nat×Nat×Nat)):Prop where
 nn:0<=w
 le:∀p,p<es.length->gO (oY es s h p)<=w
 none_:F=none->w=0
 acj:∀i j k,F=some (i,j,k)->w≠0/\i<j/\j<k/\k<es.length/\((oY es s h i=-w/\oY es s h j=w/\oY es s h k=-w)\/(oY es s h i=w/\oY es s h j=-w/\oY es s h k=w))
def Lin (es:0#h) (s h:Rat):Prop:=(es.length=1/\s=0/\h=wo es 0)\/∃i j k,i<k/\k<es.length/\j<es.length/\s=(wo es k-wo es i)/((mo es k-mo es i:Int):Rat)/\(h=wo es i-s*(mo es i:Rat)\/h=wo es i-s*(mo es i:Rat)+sd es i j k*(1/2))
def agS (H:Hp) (F:Option (Nat×Nat×Nat)) (v:V):Prop:=match F with
 | none=>v=.bM
 | some (i,j,k)=>∃r,v=.ref r/\H r=some (.tup [.int (i:Int),.int (j:Int),.int (k:Int)])
def WL {C:Int} (hC:1<=C) (ht:mo es i<mo es k) (hy:∀q,q<es.length->(y q:Rat)=wo es q*(C:Rat)) (hi:i<es.length) (hj:j<es.length) (hk:k<es.length) (hp:p<es.length) :
 (rC (mo es) y i j k p:Rat)=2*(C:Rat)*((mo es k:Rat)-(mo es i:Rat))*(oY es ((wo es k-wo es i)/((mo es k:Rat)-(mo es i:Rat))) (wo es i-(wo es k-wo es i)/((mo es k:Rat)-(mo es i:Rat))*(mo es i:Rat)+(wo es j-fz (mo es i) (wo es i) (mo es j) (mo es k) (wo es k))/2) p):=by
 have hT:((mo es k:Rat)-(mo es i:Rat))≠0:=by
  have:=gU (b:=mo es k-mo es i) 0#u
  rw [yK] at this
  exact this
 unfold rC ab oY fz
 simp only [yJ,yK,hy i hi,hy j hj,hy k hk,hy p hp]
 generalize (mo es k:Rat)=tk at *
 generalize (mo es i:Rat)=ti at *
 generalize (mo es j:Rat)=tj at *
 generalize (mo es p:Rat)=tp at *
 generalize (C:Rat)=c at *
 have e2:((2:Int):Rat)=2:=rfl
 rw [e2]
 grind
def U0 {C:Int} (hC:1<=C) (jJ:rising es) (hy:∀q,q<es.length->(y q:Rat)=wo es q*(C:Rat)) (hf:Flat (mo es) y es.length i j k)  (hs:s=(wo es k-wo es i)/((mo es k:Rat)-(mo es i:Rat))) (hd:d=(wo es j-fz (mo es i) (wo es i) (mo es j) (mo es k) (wo es k))/2) (hh:h=wo es i-s*(mo es i:Rat)+d) :
 aag es s h (gO d) (if d=0 then none else some (i,j,k)):=by
 obtain ⟨E,G,A,I⟩:=hf
 have O:mo es i<mo es k:=jK jJ 0#u A
 have v:(0:Rat)<2*(C:Rat)*((mo es k:Rat)-(mo es i:Rat)):=by
  have a:=cast_pos (b:=C) 0#u
  have b:=cast_pos (b:=mo es k-mo es i) 0#u
  rw [yK] at b
  exact aej (by grind) b
 generalize N:2*(C:Rat)*((mo es k:Rat)-(mo es i:Rat))=S at v
 have B:∀p,p<es.length->(rC (mo es) y i j k p:Rat)=S*oY es s h p:=λp D=>by
  rw [WL hC O hy 0#u 0#u A D,N,hh,hd,hs]
 have M:oY es s h j=d/\oY es s h i=-d/\oY es s h k=-d:=by
  have hT:((mo es k:Rat)-(mo es i:Rat))≠0:=by
   have:=gU (b:=mo es k-mo es i) 0#u
   rw [yK] at this
   exact this
  unfold oY
  rw [hh]
  unfold fz at hd
  generalize (mo es k:Rat)=tk at *
  generalize (mo es i:Rat)=ti at *
  generalize (mo es j:Rat)=tj at *
  refine ⟨?_,?_,?_⟩
  ·rw [hs,hd]
   grind
  ·rw [hs,hd]
   grind
  ·rw [hs,hd]
   grind
 have J:∀x:Int,(((x.natAbs:Nat):Int):Rat)=gO (x:Rat):=λx=>by
  unfold gO
  by_cases e:x<0
  ·rw [if_pos (by have:=B3.mpr e;simpa using this),show ((x.natAbs:Nat):Int)=-x by try?,OM]
  ·rw [if_neg (by have:=Ot.mpr (CK.mp e);grind),show ((x.natAbs:Nat):Int)=x by try?]
 have Q:∀p,p<es.length->gO (oY es s h p)<=gO d:=λp D=>by
  have h1:=I p D
  have L:((((rC (mo es) y i j k p).natAbs:Nat):Int):Rat)<=((((ab (mo es) y i k j).natAbs:Nat):Int):Rat):=Ot.mpr 0#u
  rw [J,J,<- DU (t:=mo es) (y:=y) (i:=i) (j:=j) (k:=k),B p D,B j 0#u,M.1,aeb S,aeb S,F5 v,F5 v] at L
  exact Ze L v
 refine ⟨abB d,Q,λe=>?_,λi' j' k' e=>?_⟩
 ·by_cases z:d=0
  ·rw [z];rfl
  ·rw [if_neg z] at e;cases e
 ·by_cases z:d=0
  ·rw [if_pos z] at e;cases e
  ·rw [if_neg z] at e
   cases e
   obtain ⟨R,U,Y⟩:=M
   refine ⟨λq=>z ?_,E,G,A,?_⟩
   ·unfold gO at q
    split at q <;> grind
   ·rw [R,U,Y]
    unfold gO
    split
    ·exact .inr ⟨rfl,by grind,rfl⟩
    ·exact .inl ⟨rfl,rfl,rfl⟩
inductive LR (vs:List V) (H:Hp) (Q:VK) (E_:XK):Prop where
 | mk (l:ah) (es:0#h) (n:Nat):vs=[.ref l]->H l=some 0#R->Row H es n->nU es->rising es->1<=n->n<=600->es.length*n+n<=7000->1<=es.length->es.length<=40->(∀(z zl zw:ah) (F:V) (s h w:Rat) (Fo:Option (Nat×Nat×Nat)) (H':Hp),ao H H'->H' z=some (.tup [.ref zl,.ref zw,F])->j8 H' zl s h (13*n+15)->c8 H' zw w (7*n+9)->agS H' Fo F->aag es s h w Fo->Lin es s h->Q (.ref z) H')->LR vs H Q E_
inductive GN (vs:List V) (H:Hp) (Q:VK) (E_:XK):Prop where
 | mk (p1 p2 p3:ah) (t1 t2 t3:Int) (q1 q2 q3:Rat) (n:Nat):vs=[.ref p1,.ref p2,.ref p3]->jl H p1 t1 q1 n->jl H p2 t2 q2 n->jl H p3 t3 q3 n->t1<t3->7*n+7<=8000->(∀(z:ah) (H':Hp),ao H H'->c8 H' z (q2-fz t1 q1 t2 t3 q3) (7*n+7)->Q (.ref z) H')->GN vs H Q E_
def Yx:dR 3 [aT,"mid",dh] LI:=0#t
def XO (F:fU K "stand" LI f fd) (b8:MC P w K mg base) (qq:0#c 4 "loose_stand" [aT,"mid",dh] GD):0#b 5 f fd [aT,"mid",dh] GN:=by
 refine F.fq Yx 0#a
 obtain ⟨J,L,M,S,U,Y,N,O,R,n,rfl,v,B,D,I,G,k⟩:=h
 apply bI ⟨_,(aA (aW (Jd.c1 b8 hr (Jd.c3 qq hr 0#A 0#H 0#P)))),?_⟩
 apply ⟨J,L,M,S,U,Y,N,O,R,n,rfl,v,B,D,I,by try?,λx H1 s1 e1=>?_⟩
 refine ⟨x,_,_,rfl,e1,G,λz u s2 e2=>?_⟩
 exact k z u 1#h e2
def Yy:dR 2 [aT,aI] LJ:=0#t
def XQ (F:fU K "times" LJ f fd) (dW:0#c 1 "loose_times" [aT,aI] (j7 (·*·) 0)) (b8:MC P w K mg base):0#b 5 f fd [aT,aI] (tF (·*·) 0):=by
 refine F.fq Yy 0#a
 obtain ⟨p,r,q,D,m,n,rfl,B,u,z,k⟩:=h
 apply bI ⟨_,(aA (aW (Jd.c1 b8 hr (cg dW hr 0#A 0#H)))),?_⟩
 apply ⟨p,r,q,D,m,n,rfl,B,u,by try?,λx H1 s1 e1=>?_⟩
 refine ⟨x,_,_,rfl,e1,z,λy v s2 e2=>?_⟩
 exact k y v 1#h e2
def XJ (F:fU K "size" Rl f fd) (T:Txt mg):0#b 1 f fd [aT] Ma:=by
 refine F.fq abH 0#a
 obtain ⟨p,q,n,rfl,⟨a,b,hp,v,G,I⟩,k⟩:=h
 apply bI ⟨_,(aA (aW (b9 (bN (eE Hy rfl T.Hz II (cP 1#d) (he:=An) (hpl:=bZ)) 1#d)))),?_⟩
 rw [mq]
 refine aG (mk:=.tup) 0#w λB z D n1 e1=>?_
 refine k B z D ⟨_,_,e1,?_,G.of_le 0#u,I⟩
 have:=v.qt.abs
 exact ⟨v.pos,by show OW ((a.natAbs:Int).natAbs) b.natAbs=1;rw [Zt];exact v.co,this.eq⟩
def pX:dR 1 [br,c5,"three",aT,dh,"half","chord","forced"] Rg:=0#t
def abd (F:fU K "best" Rg f fd) (T:Txt mg) (DI:0#c 5 "slope" [aT,aI] Mb) (lz:0#c 5 "line_by" [gK,bF] Ah) (mU:0#c 4 "forcing_three" [br] BP) (J2:0#c 5 "times" [aT,aI] (tF (·*·) 0)) (J1:0#c 5 "stand" [aT,"mid",dh] GN) (rY:0#c 5 "plus" [aT,aI] (tF (·+·) 1)) (JZ:0#c 1 "size" [aT] Ma):0#b 6 f fd [br] LR:=by
 refine F.fq pX 0#a
 obtain ⟨l,es,n,rfl,hl,hR,hS,jJ,ac,hn6,hn,h1,HE,k⟩:=h
 obtain ⟨x0,g0,ad⟩:=dM hR hS (show 0<es.length by try?)
 obtain ⟨v0,al,am,zm0⟩:=id ad
 have z1:∀{m:Nat},1<=m->Sz m 1:=λh=>xY h
 have zero:∀{G:Hp} {p:ah} {m:Nat},G p=some (.tup [.int 0,.int 1])->1<=m->c8 G p 0 m:=λe h=>⟨0,1,e,by have:=Fr.whole 0;simpa using this,Sz.of_le (z1 h) 0#y,z1 h⟩
 refine bI ⟨_,(aq (aV 1 pX.nd (Jd.iL K 0#A)) (aq (bK (bx cN (ir K T.kK 0#A) aH 1#a) (aA (aW (b9 (Jd.a3 (b9 (bN (b9 (bN aH aH)) (aO K 0#H))) (b9 (bN aH aH)) eF)))) bL) (aq (bK (bx cN (ir K T.kK 0#A) aH 1#a) (aA (aW (b9 (Jd.a3 (cg lz hr (cg DI hr 0#H (Jd.iL K 0#A)) 0#H) (b9 (bN aH aH)) eF)))) bL) (aq (aV 2 pX.nd (Jd.c1 mU hr 0#A)) (aq (aV 3 pX.nd (cY (lX K) 0#A (aO K 0#P) 0#B)) (aq (aV 4 pX.nd (cY (lX K) 0#A (aO K 0#P) 0#B)) (aq (aV 5 pX.nd (cg J2 hr (Jd.c3 J1 hr 0#X (cY (lX K) 0#A (aO K 0#P) 0#B) (aa 4)) (b9 (bN aH aH)))) (aq (aV 6 pX.nd (cg lz hr (cg DI hr 0#X (aa 4)) 0#X)) (aq (aV 7 pX.nd (wM (bx cN (aO K (aa 5)) aH 1#a) eF 0#P)) (aA (aW (b9 (Jd.a3 (b9 (bN (aO K (aa 6)) (cg rY hr (aO K (aa 6)) (aa 5)))) (Jd.c1 JZ hr (aa 5)) (aa 7)))))))))))))),?_⟩
 refine iY (λI H'=>H'=H/\I=[some (.ref l),some (.ref x0.1),none,none,none,none,none,none]) (λI H' U=>?_) (λN D=>?_)
 rotate_left
 ·rw?
  apply ie hl (fE (i:=0) g0 rfl) ?_
  exact D _ _ ⟨rfl,rfl⟩
 obtain ⟨rfl,rfl⟩:=U
 refine iY (λI O=>O=H'/\I=[some (.ref l),some (.ref x0.1),none,none,none,none,none,none]/\es.length≠1) (λI O U=>?_) (λN D=>?_)
 rotate_left
 ·rw?
  refine gR (.inl (bS.of hl)) ?_
  rw [aY]
  rw?
  refine cJ (λc1=>?_) (λc1=>?_)
  ·have Eu:(es.length:Int)=1:=kO c1
   rw?
   refine aG (mk:=.tup) 0#w λp1 H1 M n1 e1=>?_
   have ev1:=M _ _ al
   rw?
   apply aG (mk:=.tup) 0#w λp2 H2 s2 n2 e2=>?_
   apply aG (mk:=.tup) 0#w λp3 H3 s3 n3 e3=>?_
   refine aG (mk:=.tup) 0#w λp4 H4 s4 n4 e4=>?_
   have L:=s3.trans s4
   have J:=s2.trans L
   refine k p4 p2 p3 .bM 0 (wo es 0) 0 none H4 (M.trans J) e4 ⟨p1,v0,L _ _ e2,zero (J _ _ e1) 0#u,(am.up (M.trans J)).mono 0#u⟩ (zero (s4 _ _ e3) 0#u) rfl ⟨rQ,λp hp=>?_,λ_=>rfl,λ_ _ _ e=>nomatch e⟩ (.inl ⟨by try?,rfl,rfl⟩)
   obtain rfl:p=0:=by try?
   unfold oY
   rw [show wo es 0-(0*(mo es 0:Rat)+wo es 0)=0 by grind]
   exact rQ
  ·rw?
   exact D _ _ ⟨rfl,rfl,λz=>c1 (jN 0#u)⟩
 obtain ⟨rfl,rfl,akV⟩:=U
 refine iY (λI H'=>H'=O/\I=[some (.ref l),some (.ref x0.1),none,none,none,none,none,none]/\3<=es.length) (λI H' U=>?_) (λN D=>?_)
 rotate_left
 ·rw?
  refine gR (.inl (bS.of hl)) ?_
  rw [aY]
  rw?
  refine cJ (λc1=>?_) (λc1=>?_)
  ·have Eu:(es.length:Int)=2:=kO c1
   obtain ⟨x1,g1,ap⟩:=dM hR hS (show 1<es.length by try?)
   have af:=jK jJ (show 0<1 by decide) (show 1<es.length by try?)
   rw?
   apply ie hl (fE (i:=1) g1 rfl) ?_
   apply ⟨x0.1,x1.1,_,_,_,_,n,rfl,ad,ap,by try?,by try?,λp1 H1 M f1=>?_⟩
   apply ⟨p1,x0.1,_,_,_,_,n,rfl,f1,ad.up M,ac,by try?,λzl r' H2 s2 ez fr=>?_⟩
   apply aG (mk:=.tup) 0#w λp3 H3 s3 n3 e3=>?_
   refine aG (mk:=.tup) 0#w λp4 H4 s4 n4 e4=>?_
   have L:=s3.trans s4
   refine k p4 zl p3 .bM _ _ 0 none H4 (M.trans (s2.trans L)) e4 ⟨p1,r',L _ _ ez,(f1.up (s2.trans L)).mono 0#u,(fr.up L).mono 0#u⟩ (zero (s4 _ _ e3) 0#u) rfl ⟨rQ,λp hp=>?_,λ_=>rfl,λ_ _ _ e=>nomatch e⟩ (.inr ⟨0,0,1,by decide,by try?,by try?,rfl,.inl rfl⟩)
   have hT:=gU (b:=mo es 1-mo es 0) 0#u
   rw [yK] at hT
   have:oY es ((wo es 1-wo es 0)/((mo es 1-mo es 0:Int):Rat)) (wo es 0-(wo es 1-wo es 0)/((mo es 1-mo es 0:Int):Rat)*(mo es 0:Rat)) p=0:=by
    unfold oY
    rw [yK]
    rcases (show p=0\/p=1 by try?) with rfl | rfl
    ·grind
    ·grind
   rw [this]
   exact rQ
  ·rw?
   exact D _ _ ⟨rfl,rfl,by
    have:¬(es.length:Int)=2:=λz=>c1 (jN z)
    try?⟩
 obtain ⟨rfl,rfl,h3⟩:=U
 rw?
 refine ⟨l,es,n,rfl,hl,hR,hS,jJ,ac,hn,h3,HE,λr i j kk y C H1 M er hC hy Nj=>?_⟩
 obtain ⟨hij,hjk,Y,_⟩:=id Nj
 have af:=jK jJ (show i<kk by try?) Y
 have Z:=M _ _ hl
 obtain ⟨xi,gi,si⟩:=dM (hR.up M) hS (show i<es.length by try?)
 obtain ⟨xj,gj,sj⟩:=dM (hR.up M) hS (show j<es.length by try?)
 obtain ⟨xk,gk,sk⟩:=dM (hR.up M) hS Y
 rw?
 apply ie Z (fE gi rfl) ?_
 apply ie Z (fE gk rfl) ?_
 apply ie Z (fE gj rfl) ?_
 apply ⟨xi.1,xj.1,xk.1,_,_,_,_,_,_,n,rfl,si,sj,sk,af,by try?,λp2 H2 s2 f2=>?_⟩
 apply aG (mk:=.tup) 0#w λp3 H3 s3 n3 e3=>?_
 refine ⟨p2,p3,_,1/2,_,2,rfl,(f2.up s3).qt,⟨1,2,e3,⟨by decide,by decide +kernel⟩,by decide,by decide⟩,by try?,λp4 H4 s4 f4=>?_⟩
 have J:=s2.trans (s3.trans s4)
 rw?
 apply ⟨xi.1,xk.1,_,_,_,_,n,rfl,si.up J,sk.up J,by try?,by try?,λp5 H5 s5 f5=>?_⟩
 refine ⟨p5,xi.1,_,_,_,_,n,rfl,f5,si.up (J.trans s5),ac,by try?,λzc rc H6 s6 ec fc=>?_⟩
 have Mz:=s5.trans s6
 try dsimp only at f4
 generalize hd:(wo es j-fz (mo es i) (wo es i) (mo es j) (mo es kk) (wo es kk))*(1/2)=d at f4
 generalize hs:(wo es kk-wo es i)/((mo es kk-mo es i:Int):Rat)=sl at f5 fc
 have hB:=U0 hC jJ hy Nj (s:=sl) (d:=d) (h:=wo es i-sl*(mo es i:Rat)+d) (by rw [<- hs,yK]) (by rw [<- hd];grind) rfl
 have S:=f4.up Mz
 obtain ⟨tp,bt,e6,ae,zt6,zb6⟩:=id S
 have ak:=(J.trans Mz) _ _ er
 have ag:tp=0↔d=0:=by
  have aj:=gU (b:=bt) (by have:=ae.pos;try?)
  have he:=ae.eq
  constructor
  ·intro z
   rw [z] at he
   have:((0:Int):Rat)=0:=rfl
   rw [this] at he
   rcases adD.mp he.symm with q | q
   ·exact q
   ·exact absurd q aj
  ·intro z
   rw [z,Rat.zero_mul] at he
   exact OL.mp he
 refine ab7 ?_
 refine iY (λI H'=>H'=H6/\∃v,I=[some (.ref l),some (.ref x0.1),some (.ref r),some (.ref xi.1),some (.ref xk.1),some (.ref p4),some (.ref zc),some v]/\agS H6 (if d=0 then none else some (i,j,kk)) v) (λI H' U=>?_) (λN D=>?_)
 rotate_left
 ·rw?
  refine cJ (λc1=>?_) (λc1=>?_)
  ·have Eu:=ag.mp (kO c1)
   rw?
   exact D _ _ ⟨rfl,.bM,rfl,by rw [if_pos Eu];rfl⟩
  ·have Eu:¬d=0:=λz=>c1 (jN (ag.mpr z))
   rw?
   exact D _ _ ⟨rfl,.ref r,rfl,by rw [if_neg Eu];exact ⟨r,rfl,ak⟩⟩
 obtain ⟨rfl,v,rfl,hv⟩:=U
 rw?
 apply ⟨rc,p4,_,_,_,_,rfl,fc.qt,S.qt,by try?,λp7 H7 s7 f7=>?_⟩
 refine aG (mk:=.tup) 0#w λp8 H8 s8 n8 e8=>?_
 have ai:=s7.trans s8
 rw?
 apply ⟨p4,_,_,rfl,S.up ai,λp9 H9 s9 f9=>?_⟩
 refine aG (mk:=.tup) 0#w λan um uU AX Ho=>?_
 have Iu:=s9.trans uU
 have R:=ai.trans Iu
 refine k an p8 p9 v sl _ _ _ um (M.trans (J.trans (Mz.trans R))) Ho ⟨p5,p7,Iu _ _ e8,(f5.up (s6.trans R)).mono 0#u,(f7.up (s8.trans Iu)).mono 0#u⟩ ((f9.up uU).mono 0#u) ?_ hB (.inr ⟨i,j,kk,by try?,Y,by try?,hs.symm,.inr (by rw [<- hd];rfl)⟩)
 by_cases z:d=0
 ·rw [if_pos z] at hv ⊢
  exact hv
 ·rw [if_neg z] at hv ⊢
  obtain ⟨r',e1,e2⟩:=hv
  exact ⟨r',e1,R _ _ e2⟩
noncomputable def Je (es:0#h) (a b c:Nat):Rat:=gO (sd es a b c)/2
def Yz (hac:mo es a<mo es c):sd es a b c=oY es s h b-fz (mo es a) (oY es s h a) (mo es b) (mo es c) (oY es s h c):=by
 have hT:((mo es c:Rat)-(mo es a:Rat))≠0:=by
  have:=gU (b:=mo es c-mo es a) 0#u
  rw [yK] at this
  exact this
 unfold sd oY fz
 generalize (mo es a:Rat)=ta at *
 generalize (mo es b:Rat)=tb at *
 generalize (mo es c:Rat)=tc at *
 grind
def Wv (h1:ta<tb) (h2:tb<tc) (hx:x<=M) (hy:y<=M):fz ta x tb tc y<=M:=by
 have a:=V2 hx (show 0<=tc-tb by grind)
 have b:=V2 hy (show 0<=tb-ta by grind)
 refine kH.mp λz=>?_
 unfold fz at z
 rw [adM (by grind)] at z
 grind
def Wu (h1:ta<tb) (h2:tb<tc) (hx:M<=x) (hy:M<=y):M<=fz ta x tb tc y:=by
 have a:=V2 hx (show 0<=tc-tb by grind)
 have b:=V2 hy (show 0<=tb-ta by grind)
 refine kH.mp λz=>?_
 unfold fz at z
 rw [adL (by grind)] at z
 grind
def aaK (jJ:rising es) (hle:∀p,p<es.length->gO (oY es s h p)<=w)  (hab:a<b) (hbc:b<c) (hc:c<es.length):Je es a b c<=w:=by
 have v:(mo es a:Rat)<(mo es b:Rat):=B3.mpr (jK jJ hab 0#u)
 have z:(mo es b:Rat)<(mo es c:Rat):=B3.mpr (jK jJ hbc hc)
 have e:=Yz (es:=es) (s:=s) (h:=h) (a:=a) (b:=b) (c:=c) (jK jJ 0#u hc)
 obtain ⟨a1,a2⟩:=vX.mp (hle a 0#u)
 obtain ⟨b1,b2⟩:=vX.mp (hle b 0#u)
 obtain ⟨c1,c2⟩:=vX.mp (hle c hc)
 have u1:=Wv v z a2 c2
 have u2:=Wu v z a1 c1
 have:gO (sd es a b c)<=2*w:=vX.mpr (by rw [e];constructor <;> grind)
 unfold Je
 grind
def Pd (jJ:rising es) (hB:aag es s h w (some (i,j,k))):i<j/\j<k/\k<es.length/\Je es i j k=w/\w≠0:=by
 obtain ⟨I,v,z,A,G⟩:=hB.acj i j k rfl
 have t1:(mo es i:Rat)<(mo es j:Rat):=B3.mpr (jK jJ v 0#u)
 have t2:(mo es j:Rat)<(mo es k:Rat):=B3.mpr (jK jJ z A)
 have e:=Yz (es:=es) (s:=s) (h:=h) (a:=i) (b:=j) (c:=k) (jK jJ 0#u A)
 have hn:=hB.nn
 refine ⟨v,z,A,?_,I⟩
 unfold Je
 have one:∀x:Rat,fz (mo es i) x (mo es j) (mo es k) x=x:=λx=>by
  unfold fz
  generalize (mo es i:Rat)=ta at *
  generalize (mo es j:Rat)=tb at *
  generalize (mo es k:Rat)=tc at *
  grind
 rcases G with ⟨B,D,E⟩ | ⟨B,D,E⟩
 ·rw [e,B,D,E,one]
  unfold gO
  split <;> grind
 ·rw [e,B,D,E,one]
  unfold gO
  split <;> grind
def Pj (jJ:rising es) (hB:0<=B):O6 es B↔∀i j k,i<j->j<k->k<es.length->gO (sd es i j k)<=B:=by
 have I:agT (λi=>(mo es i:Rat)) es.length:=λi j u A=>B3.mpr (jK jJ u A)
 constructor
 ·intro E i j k u z D
  have A:j<es.length:=Z0 z D
  have J:=I i j u A
  have L:=I j k z D
  have S:=E i j i j u A u A
  have U:=E i j j k u A z D
  have Y:=E j k i j z D u A
  have Z:=E j k j k z D z D
  by_cases hc:kL es B i j<=kL es B j k
  ·exact Oi (s:=kL es B j k) (t:=λi=>(mo es i:Rat)) (v:=wo es) J L hc Y rQ Z
  ·exact Oi (s:=kL es B i j) (t:=λi=>(mo es i:Rat)) (v:=wo es) J L rQ S (Rat.le_of_lt (CL.mp hc)) U
 ·intro R i j k l u A G Q
  exact ahn (t:=λi=>(mo es i:Rat)) (v:=wo es) I (λa b c M N O=>R a b c M N O) hB u A G Q
def Wq (jJ:rising es) (hB:aag es s h w F) (lI:0<=β):O6 es (2*β)↔w<=β:=by
 rw [Pj jJ (by grind)]
 constructor
 ·intro A
  cases F with
  | none=>rw [hB.none_ rfl];exact lI
  | some x=>
    obtain ⟨i,j,k⟩:=x
    obtain ⟨B,D,E,G,_⟩:=Pd jJ hB
    have:=A i j k B D E
    unfold Je at G
    grind
 ·intro hw i j k u v z
  have:=aaK jJ hB.le u v z
  unfold Je at this
  grind
def ajG (xs:0#n):lF xs (some 1) none=xs.drop 1:=by
 unfold lF HT.JD
 cases xs with
 | nil=>rfl
 | cons x xs=>simp
def Cut.ahW (h:Cut es B qs n) {i:Nat} (hq:qs[i]?=some q):1<=q.length/\q.length<=es.length:=by
 obtain ⟨pos,_,_,h⟩:=h
 obtain ⟨h1,u,rfl,_⟩:=h i q hq
 rw [Bt u]
 try?
def Cut.len (h:Cut es B qs n):qs.length<=n:=by
 obtain ⟨pos,p0,pn,h⟩:=h
 have st:∀i,i<=qs.length->i<=pos i:=by
  intro i
  induction i with
  | zero=>intro _;exact jV _
  | succ i ih=>
    intro hi
    have a:=ih 0#u
    obtain ⟨h1,_⟩:=h i _ (jE (show i<qs.length by try?))
    try?
 have:=st qs.length (gI _)
 try?
def sL:∀i:Nat,(parts s es i).flatten=(es.take i).filter s
 | 0=>by simp [parts]
 | i+1=>by
   have ih:=sL (s:=s) (es:=es) i
   unfold parts
   cases e:es[i]? with
   | none=>
     rw [yI,e]
     simpa using ih
   | some y=>
     have tk:es.take (i+1)=es.take i++[y]:=by rw [yI,e];rfl
     rw [tk,OC]
     dsimp only
     split
     ·rename_i hs
      split
      ·rename_i hr
       obtain ⟨t,r',hp⟩:=FJ hr
       rw [hp] at ih ⊢
       rw [<- ih]
       simp [hs]
      ·rw [JK,ih]
       simp [hs]
     ·rename_i hs
      rw [ih]
      simp [hs]
def U1 {α:Type} {l:List (List α)} (i:Nat):(l.take i).flatten.length<=l.flatten.length:=by
 have e:l.flatten=(l.take i).flatten++(l.drop i).flatten:=by rw [<- JK,Zn]
 rw [e,jf]
 exact Us _ _
def Cut.sub (h:Cut es B qs n) {i:Nat} (hq:qs[i]?=some q):q.Sublist es/\O6 q B:=by
 obtain ⟨pos,_,_,h⟩:=h
 obtain ⟨h1,h2,rfl,u,_⟩:=h i q hq
 exact ⟨(Um _ _).trans (Uq _ _),u⟩
def Cut.next (h:Cut es B qs n)  (hq:qs[i]?=some q) (hq':qs[i+1]?=some q'):∃x,q'[0]?=some x/\(q++[x]).Sublist es/\¬O6 (q++[x]) B:=by
 obtain ⟨pos,_,_,h⟩:=h
 obtain ⟨h1,h2,rfl,hf,A⟩:=h i q hq
 obtain ⟨k1,k2,rfl,_,_⟩:=h (i+1) q' hq'
 have v:pos (i+1)<es.length:=by try?
 have z:es[pos (i+1)]?=some es[pos (i+1)]:=jE v
 refine ⟨es[pos (i+1)],by rw [Jw 0#u,aec];exact z,?_,?_⟩
 ·rw [<- sM 0#u z]
  exact (Um _ _).trans (Uq _ _)
 ·rw [<- sM 0#u z]
  exact A v
def Wo (h:es[es.length-1]?=some x):uD (vals es) (-1)=some (.ref x.1):=by
 have hl:=(tP.mp h).1
 unfold uD
 rw [aY,DP (m:=es.length-1) 0#u]
 exact Ao h
def Gr:dR 3 [cR,c5,dh] qK:=0#t
def IA:dR 1 [iB] sW:=0#t
def akt (h:te σ H λx H1=>∃a,x=.ref a/\(∃xs,qR K H1 a xs)/\R (Itt K a) H1):aaQ K te σ H R:=h
def tV:dR 2 [iB,"behind",br] pe:=0#t
def vf:dR 2 [cz,aJ,"telling","paper","run","parts"] LA:=0#t
def LoP (ss:0#h) (B:Rat) (fl ro:Nat) (G:Rat):Prop:=∀q p,ro<=q->q<p->fl<=p->p<ss.length->kL ss B q p<=G
def HiP (ss:0#h) (B:Rat) (fl ro:Nat) (S:Rat):Prop:=∀q p,fl<=q->q<p->ro<=p->p<ss.length->S<=iU ss B q p
def GF (ss:0#h) (B:Rat) (fl ro:Nat) (G:Rat):Prop:=LoP ss B fl ro G/\∃q p,ro<=q/\q<p/\fl<=p/\p<ss.length/\kL ss B q p=G
def SF (ss:0#h) (B:Rat) (fl ro:Nat) (S:Rat):Prop:=HiP ss B fl ro S/\∃q p,fl<=q/\q<p/\ro<=p/\p<ss.length/\iU ss B q p=S
noncomputable def fN (ss:0#h) (T:Rat) (i:Nat):Rat:=wo ss i-T*(mo ss i:Rat)
def uT {a:Rat} (h:a=b):a<=b:=h▸rQ
def AW (h:rising ss) (hij:i<j) (hj:j<ss.length):(0:Rat)<(mo ss j:Rat)-(mo ss i:Rat):=by
 have:=B3.mpr (jK h hij hj)
 grind
def vR (h:rising ss) (hij:i<j) (hj:j<ss.length):kL ss B i j<=G↔fN ss G j<=fN ss G i+B:=by
 unfold kL fN
 rw [zV (AW h hij hj)]
 constructor
 ·intro _;grind
 ·intro _;grind
def S9 (h:rising ss) (hij:i<j) (hj:j<ss.length):G<=kL ss B i j↔fN ss G i+B<=fN ss G j:=by
 unfold kL fN
 rw [vY (AW h hij hj)]
 constructor
 ·intro _;grind
 ·intro _;grind
def qX (h:rising ss) (hij:i<j) (hj:j<ss.length):S<=iU ss B i j↔fN ss S i<=fN ss S j+B:=by
 unfold iU fN
 rw [vY (AW h hij hj)]
 constructor
 ·intro _;grind
 ·intro _;grind
def Nx (h:rising ss) (hij:i<j) (hj:j<ss.length):iU ss B i j<=S↔fN ss S j+B<=fN ss S i:=by
 unfold iU fN
 rw [zV (AW h hij hj)]
 constructor
 ·intro _;grind
 ·intro _;grind
def Xr (h:rising ss) (hij:i<j) (hj:j<ss.length):kL ss B i j=G↔fN ss G j=fN ss G i+B:=
 ⟨λe=>OP ((vR h hij hj).mp (uT e)) ((S9 h hij hj).mp (uT e.symm)),λe=>OP ((vR h hij hj).mpr (uT e)) ((S9 h hij hj).mpr (uT e.symm))⟩
def SY (h:rising ss) (hij:i<j) (hj:j<ss.length):iU ss B i j=S↔fN ss S i=fN ss S j+B:=
 ⟨λe=>OP ((qX h hij hj).mp (uT e.symm)) ((Nx h hij hj).mp (uT e)),λe=>OP ((Nx h hij hj).mpr (uT e.symm)) ((qX h hij hj).mpr (uT e))⟩
def LoP.mono (h:LoP ss B fl ro G) (g:G<=T):LoP ss B fl ro T:=λq p a1 a2 a3 a4=>xo (h q p a1 a2 a3 a4) g
def HiP.mono (h:HiP ss B fl ro S) (g:T<=S):HiP ss B fl ro T:=λq p a1 a2 a3 a4=>xo g (h q p a1 a2 a3 a4)
def agX (hB:0<=B) (hr:rising ss) (hL:LoP ss B fl ro T) (hH:HiP ss B fl ro T) (ha:ro<=a) (hb:fl<=b) (la:a<ss.length) (lb:b<ss.length):fN ss T b<=fN ss T a+B:=by
 rcases ZD a b with z | z | z
 ·exact (vR hr z lb).mp (hL a b ha z hb lb)
 ·subst z;grind
 ·exact (qX hr z la).mp (hH b a hb z ha la)
def yZ (hi:i<ss.length):fN (ss++ys) T i=fN ss T i:=by
 unfold fN
 rw [sF hi,tO hi]
def yY {ss:0#h} {m:Int}:fN 0#W T ss.length=q-T*(m:Rat):=by
 unfold fN
 rw [KI,Mm]
def vS:mo (ss.drop j) i=mo ss (j+i):=by unfold mo;rw [yH]
def TZ:wo (ss.drop j) i=wo ss (j+i):=by unfold wo;rw [yH]
def Ce (h:rising ss):rising (ss.drop j):=h.sublist (Uq ..)
def Nv:fN (ss.drop j) T i=fN ss T (j+i):=by unfold fN;rw [vS,TZ]
def tG:fj (ss.drop j) B m q i=fj ss B m q (j+i):=by unfold fj;rw [vS,TZ]
def WV (h1:∀G0,g=some G0->GF ss B fl ro G0/\G0<=G) (hN:g=none->∀q p,ro<=q->q<p->fl<=p->¬p<ss.length) (hfl:fl<=ss.length) (hall:∀i,i<(ss.drop ro).length->fj (ss.drop ro) (-B) m q i<=G) (hex:(∃i,i<(ss.drop ro).length/\fj (ss.drop ro) (-B) m q i=G)\/g=some G):GF 0#W B fl ro G:=by
 have ld:(ss.drop ro).length=ss.length-ro:=mH ..
 rw [ld] at hall hex
 refine ⟨λi j A u v D=>?_,?_⟩
 ·rw [jf] at D
  have hj':j<ss.length+1:=D
  by_cases e:j=ss.length
  ·subst e
   rw [DR u]
   have:=hall (i-ro) 0#z
   rw [tG,show ro+(i-ro)=i by simp?] at this
   exact this
  ·rw [rA u 0#z]
   cases hg:g with
   | none=>exact absurd (show j<ss.length by simp?) (hN hg i j A u v)
   | some G0=>
     obtain ⟨I,J⟩:=h1 G0 hg
     exact xo (I.1 i j A u v 0#z) J
 ·rcases hex with ⟨i,A,e⟩ | e
  ·refine ⟨ro+i,ss.length,by simp?,by simp?,hfl,by rw [jf];show _<ss.length+1;simp?,?_⟩
   rw [DR 0#z,<- tG]
   exact e
  ·obtain ⟨i,j,E,a1,a2,a3,a4⟩:=(h1 G e).1.2
   exact ⟨i,j,E,a1,a2,by rw [jf];show _<ss.length+1;simp?,by rw [rA a1 a3];exact a4⟩
def YE (h1:∀S0,s=some S0->SF ss B fl ro S0/\S<=S0) (hN:s=none->∀q p,fl<=q->q<p->ro<=p->¬p<ss.length) (O0:ro<=ss.length) (hall:∀i,i<(ss.drop fl).length->S<=fj (ss.drop fl) B m q i) (hex:(∃i,i<(ss.drop fl).length/\fj (ss.drop fl) B m q i=S)\/s=some S):SF 0#W B fl ro S:=by
 have ld:(ss.drop fl).length=ss.length-fl:=mH ..
 rw [ld] at hall hex
 refine ⟨λi j A u v D=>?_,?_⟩
 ·rw [jf] at D
  have hj':j<ss.length+1:=D
  by_cases e:j=ss.length
  ·subst e
   rw [yT u]
   have:=hall (i-fl) 0#z
   rw [tG,show fl+(i-fl)=i by simp?] at this
   exact this
  ·rw [oF u 0#z]
   cases hg:s with
   | none=>exact absurd (show j<ss.length by simp?) (hN hg i j A u v)
   | some S0=>
     obtain ⟨G,I⟩:=h1 S0 hg
     exact xo I (G.1 i j A u v 0#z)
 ·rcases hex with ⟨i,A,e⟩ | e
  ·refine ⟨fl+i,ss.length,by simp?,by simp?,O0,by rw [jf];show _<ss.length+1;simp?,?_⟩
   rw [yT 0#z,<- tG]
   exact e
  ·obtain ⟨i,j,E,a1,a2,a3,a4⟩:=(h1 S e).1.2
   exact ⟨i,j,E,a1,a2,by rw [jf];show _<ss.length+1;simp?,by rw [oF a1 a3];exact a4⟩
def iZ {ss:0#h}:(ss++[(x,m,some q)]).length=ss.length+1:=by simp
def J8 {m:Int} (hr:rising 0#W) (s:SF 0#W B fl ro S) (hG:HiP ss B fl ro G) (O0:ro<=ss.length):S<G↔∃i,fl<=i/\i<ss.length/\q-G*(m:Rat)+B<fN ss G i:=by
 constructor
 ·intro h
  obtain ⟨i,j,u,a1,a2,a3,a4⟩:=s.2
  rw [iZ] at a3
  by_cases e:j=ss.length
  ·subst e
   refine ⟨i,u,a1,CL.mp λz=>?_⟩
   have:=(qX (B:=B) (S:=G) hr a1 (by rw [iZ];simp?)).mpr (by rw [yY,yZ a1];exact z)
   rw [a4] at this
   exact absurd h (kH.mpr this)
  ·have:=hG i j u a1 a2 0#z
   rw [oF a1 0#z] at a4
   rw [a4] at this
   exact absurd h (kH.mpr this)
 ·rintro ⟨i,u,a1,h⟩
  refine CL.mp λz=>?_
  have:=s.1 i ss.length u a1 O0 (by rw [iZ];simp?)
  have:=(qX hr a1 (by rw [iZ];simp?)).mp (xo z this)
  rw [yY,yZ a1] at this
  exact absurd h (kH.mpr this)
def Sy {m:Int} (hr:rising 0#W) (g:GF 0#W B fl ro G) (hS:LoP ss B fl ro S) (hfl:fl<=ss.length):S<G↔∃i,ro<=i/\i<ss.length/\fN ss S i+B<q-S*(m:Rat):=by
 constructor
 ·intro h
  obtain ⟨i,j,u,a1,a2,a3,a4⟩:=g.2
  rw [iZ] at a3
  by_cases e:j=ss.length
  ·subst e
   refine ⟨i,u,a1,CL.mp λz=>?_⟩
   have:=(vR (B:=B) (G:=S) hr a1 (by rw [iZ];simp?)).mpr (by rw [yY,yZ a1];exact z)
   rw [a4] at this
   exact absurd h (kH.mpr this)
  ·have:=hS i j u a1 a2 0#z
   rw [rA a1 0#z] at a4
   rw [a4] at this
   exact absurd h (kH.mpr this)
 ·rintro ⟨i,u,a1,h⟩
  refine CL.mp λz=>?_
  have:=g.1 i ss.length u a1 hfl (by rw [iZ];simp?)
  have:=(vR hr a1 (by rw [iZ];simp?)).mp (xo this z)
  rw [yY,yZ a1] at this
  exact absurd h (kH.mpr this)
def MR {B:Rat} (hB:0<=B) (hb:mb<m) (ea:v-G*m=va-G*ma+B) (eb:vb-S*mb=v-S*m+B) (h:vb-G*mb<=va-G*ma+B):G<=S:=by
 refine kH.mp λu=>?_
 have p:(0:Rat)<m-mb:=by grind
 have:=T3 u p
 grind
def Pf {B:Rat} (hB:0<=B) (ha:ma<m) (ea:v-G*m=va-G*ma+B) (eb:vb-S*mb=v-S*m+B) (h:vb-S*mb<=va-S*ma+B):G<=S:=by
 refine kH.mp λu=>?_
 have p:(0:Rat)<m-ma:=by grind
 have:=T3 u p
 grind
def aan (hB:0<=B) (hr:rising 0#W) (g:GF 0#W B fl ro G) (s:SF 0#W B fl ro S)
 (h1:∀i j,ro<=i->i<j->fl<=j->j<ss.length->kL ss B i j<=S) (h2:∀i j,fl<=i->i<j->ro<=j->j<ss.length->G<=iU ss B i j):G<=S:=by
 obtain ⟨i,j,E,a1,a2,a3,a4⟩:=g.2
 obtain ⟨k,l,I,u,J,L,D⟩:=s.2
 rw [iZ] at a3 L
 by_cases e:j=ss.length
 ·by_cases e':l=ss.length
  ·subst e
   subst e'
   have v:=(Xr hr a1 (by rw [iZ];simp?)).mp a4
   have A:=(SY hr u (by rw [iZ];simp?)).mp D
   have mi:=AW hr a1 (by rw [iZ];simp?)
   have mk:=AW hr u (by rw [iZ];simp?)
   unfold fN at v A
   rcases ZD i k with z | z | z
   ·have:=(vR hr z (by rw [iZ];simp?)).mp (g.1 i k E z 0#z (by rw [iZ];simp?))
    unfold fN at this
    exact MR hB (by grind) v A this
   ·subst z
    exact MR hB (by grind) v A (by grind)
   ·have:=(qX hr z (by rw [iZ];simp?)).mp (s.1 k i I z 0#z (by rw [iZ];simp?))
    unfold fN at this
    exact Pf hB (by grind) v A this
  ·rw [oF u 0#z] at D
   rw [<- D]
   exact h2 k l I u J 0#z
 ·rw [rA a1 0#z] at a4
  rw [<- a4]
  exact h1 i j E a1 a2 0#z
structure Ef (ss:0#h) (β:Rat) (fl ro:Nat) (m:Int) (q G f:Rat) (a b:Nat):Prop where
 gf:GF ss (2*β) fl ro G
 off:∃i,fl<=i/\i<ss.length/\q-G*(m:Rat)+2*β<fN ss G i
 lo:∀i,fl<=i->i<ss.length->fN ss G i-β<=f
 hi:∀i,ro<=i->i<ss.length->f<=fN ss G i+β
 ha:ro<=a
 ea:fN ss G a+β=f
 hb:fl<=b
 lb:b<ss.length
 eb:fN ss G b-β=f
 fb:∀i,b<i->i<ss.length->fN ss G i-β≠f
 hab:a<b
structure Eg (ss:0#h) (β:Rat) (fl ro:Nat) (m:Int) (q S f:Rat) (a b:Nat):Prop where
 sf:SF ss (2*β) fl ro S
 off:∃i,ro<=i/\i<ss.length/\fN ss S i+2*β<q-S*(m:Rat)
 lo:∀i,fl<=i->i<ss.length->fN ss S i-β<=f
 hi:∀i,ro<=i->i<ss.length->f<=fN ss S i+β
 ha:fl<=a
 ea:fN ss S a-β=f
 hb:ro<=b
 lb:b<ss.length
 eb:fN ss S b+β=f
 fb:∀i,b<i->i<ss.length->fN ss S i+β≠f
 hab:a<b
def MZ {α:Type} (P:α->Bool):∀(l:List α),(∃x∈l,P x=true)->∃(a:Nat) (x:α),l[a]?=some x/\P x=true/\(l.filter P)[0]?=some x/\∀(i:Nat) y,i<a->l[i]?=some y->P y=false
 | [],h=>by obtain ⟨x,hx,_⟩:=h;cases hx
 | y::r,h=>by
   by_cases hy:P y=true
   ·exact ⟨0,y,rfl,hy,by rw [Zh hy];rfl,λi _ hi=>absurd hi (ON _)⟩
   ·obtain ⟨x,hx,px⟩:=h
    have hr:x∈r:=by
     rcases kM.mp hx with e | e
     ·rw [e] at px;exact absurd px hy
     ·exact e
    obtain ⟨a,z,g,D,A,B⟩:=MZ P r ⟨x,hr,px⟩
    refine ⟨a+1,z,g,D,by rw [acz hy];exact A,λi u hi v=>?_⟩
    cases i with
    | zero=>cases v;exact gH.mpr hy
    | succ i=>exact B i u 0#z v
def S7 {α:Type} (P:α->Bool):∀(l:List α),(∃x∈l,P x=true)->∃(b:Nat) (x:α),l[b]?=some x/\P x=true/\(l.filter P)[(l.filter P).length-1]?=some x/\∀(i:Nat) y,b<i->l[i]?=some y->P y=false
 | [],h=>by obtain ⟨x,hx,_⟩:=h;cases hx
 | y::r,h=>by
   by_cases hr:∃x∈r,P x=true
   ·obtain ⟨b,z,g,pz,e0,hn⟩:=S7 P r hr
    refine ⟨b+1,z,g,pz,?_,λi u hi gu=>?_⟩
    ·by_cases hy:P y=true
     ·rw [Zh hy]
      have hl:0<(r.filter P).length:=by
       cases e:r.filter P with
       | nil=>rw [e] at e0;cases e0
       | cons c d=>exact Z5 _
      show (y::r.filter P)[(r.filter P).length+1-1]?=some z
      rw [show (r.filter P).length+1-1=((r.filter P).length-1)+1 by simp?,List.getElem?_cons_succ]
      exact e0
     ·rw [acz hy];exact e0
    ·cases i with
     | zero=>simp?
     | succ i=>exact hn i u 0#z gu
   ·have hy:P y=true:=by
     obtain ⟨x,hx,v⟩:=h
     rcases kM.mp hx with e | e
     ·rw [e] at v;exact v
     ·exact absurd ⟨x,e,v⟩ hr
    have e0:r.filter P=[]:=Zl.mpr λx hx v=>hr ⟨x,hx,v⟩
    refine ⟨0,y,rfl,hy,by rw [Zh hy,e0];rfl,λi u hi gu=>?_⟩
    cases i with
    | zero=>simp?
    | succ i=>exact gH.mpr λz=>hr ⟨u,g8 gu,z⟩
def SI (h:rising es)  (hk:es[k]?=some x):es.filter (λy=>decide (x.2.1<=y.2.1))=es.drop k:=by
 have D:k<es.length:=(tP.mp hk).1
 have mk:∀i y,es[i]?=some y->(k<=i↔x.2.1<=y.2.1):=λi y v=>by
  have u:i<es.length:=(tP.mp v).1
  have e1:mo es k=x.2.1:=by unfold mo;rw [hk];rfl
  have e2:mo es i=y.2.1:=by unfold mo;rw [v];rfl
  rcases ZD i k with z | z | z
  ·have:=jK h z D;simp?
  ·subst z;simp?
  ·have:=jK h z u;simp?
 conv=>lhs;rw [<- Zn k es]
 rw [OC]
 have A:(es.take k).filter (λy=>decide (x.2.1<=y.2.1))=[]:=Zl.mpr λy v=>by
  obtain ⟨i,u⟩:=acR v
  rw [Uk] at u
  split at u
  ·have:=mk i y u
   rw [Zv]
   simp?
  ·cases u
 have B:(es.drop k).filter (λy=>decide (x.2.1<=y.2.1))=es.drop k:=List.filter_eq_self.mpr λy v=>by
  obtain ⟨i,u⟩:=acR v
  rw [yH] at u
  exact jN ((mk _ y u).mp (Us _ _))
 rw [A,B]
 rfl
def Fb (fs:List (Str×V)) (a b c d:ah) (u v:V):Prop:=fs=[(("bound":Str),.ref a),(("twice":Str),.ref b),(("below":Str),.ref c),(("above":Str),.ref d),(("gentlest":Str),u),(("steepest":Str),v)]
def Fb.len (h:Fb fs a b c d u v):fs.length<=10:=by cases h;exact (by decide:6<=10)
def Fb.bd (h:Fb fs a b c d u v):fs.lookup ("bound":Str)=some (.ref a):=by cases h;kernel_rfl
def Fb.tw (h:Fb fs a b c d u v):fs.lookup ("twice":Str)=some (.ref b):=by cases h;kernel_rfl
def Fb.bl (h:Fb fs a b c d u v):fs.lookup ("below":Str)=some (.ref c):=by cases h;kernel_rfl
def Fb.ab (h:Fb fs a b c d u v):fs.lookup ("above":Str)=some (.ref d):=by cases h;kernel_rfl
def Fb.g (h:Fb fs a b c d u v):fs.lookup ("gentlest":Str)=some u:=by cases h;kernel_rfl
def Fb.s (h:Fb fs a b c d u v):fs.lookup ("steepest":Str)=some v:=by cases h;kernel_rfl
def Fb.init (a b c d:ah) (u v:V):Fb (aD "steepest" v (aD "gentlest" u (aD "above" (.ref d) (aD "below" (.ref c) (aD "twice" (.ref b) (aD "bound" (.ref a) [])))))) a b c d u v:=by unfold Fb;kernel_rfl
def Fb.YD (h:Fb fs a b c d u v):Fb (aD "below" (.ref y) fs) a b y d u v:=by cases h;unfold Fb;kernel_rfl
def Fb.YC (h:Fb fs a b c d u v):Fb (aD "above" (.ref y) fs) a b c y u v:=by cases h;unfold Fb;kernel_rfl
def Fb.Gs (h:Fb fs a b c d u v):Fb (aD "gentlest" y fs) a b c d y v:=by cases h;unfold Fb;kernel_rfl
def Fb.Gu (h:Fb fs a b c d u v):Fb (aD "steepest" y fs) a b c d u y:=by cases h;unfold Fb;kernel_rfl
def Fb.AV (h:Fb fs a b c d u v) (m:Str) (e:([("bound":Str),("twice":Str),("below":Str),("above":Str),("gentlest":Str),("steepest":Str)]).all (λn=>! (m==n))=true:=by decide +kernel):fs.lookup m=none:=by
 cases h
 simp only [JQ,ue,ZA,ad9] at e
 simp only [OI,e,adE]
noncomputable def Q9 (p L M:ah) (H:Hp):Hp:=rm p (rm L (rm M H))
def ye (h1:b≠p) (h2:b≠L) (h3:b≠M):Q9 p L M H b=H b:=by unfold Q9;rw [kQ h1,kQ h2,kQ h3]
def Ga (h:Q9 p L M H b=some o):b≠p/\b≠L/\b≠M/\H b=some o:=by
 have u:b≠p:=λq=>by rw [q] at h;unfold Q9 rm at h;simp at h
 have v:b≠L:=λq=>by rw [q] at h;unfold Q9 rm at h;simp at h
 have z:b≠M:=λq=>by rw [q] at h;unfold Q9 rm at h;simp at h
 rw [ye u v z] at h
 exact ⟨u,v,z,h⟩
def ck.tv (t:0#p) (f:ck H b q n):ck H' b q n:=let ⟨x,d,e,f⟩:=f;⟨x,d,t e,f⟩
def c8.tv (t:0#p) (f:c8 H b q n):c8 H' b q n:=let ⟨x,d,e,f⟩:=f;⟨x,d,t e,f⟩
def j8.tv (t:0#p) (f:j8 H b q h n):j8 H' b q h n:=let ⟨x,d,e,f1,f2⟩:=f;⟨x,d,t e,f1.tv t,f2.tv t⟩
def oU.tv (t:0#p) (f:oU H x n):oU H' x n:=by
 obtain ⟨a,m,v⟩:=x
 cases v with
 | none=>exact ⟨f.1,t f.2⟩
 | some q=>
   obtain ⟨z,r,e,x,d,g,f⟩:=f
   exact ⟨z,r,t e,x,d,t g,f⟩
def Row.tv (t:0#p) (f:Row H es n):Row H' es n:=λx hx=>(f x hx).tv t
def OQ (H:Hp) (v:V) (N:Nat):Option Rat->Prop
 | none=>v=.bM
 | some G=>∃p,v=.ref p/\ck H p G N
def OQ.tv (t:0#p) (f:OQ H v N g):OQ H' v N g:=by
 cases g with
 | none=>exact f
 | some G=>exact let ⟨p,e,f⟩:=f;⟨p,e,f.tv t⟩
def GO (ss:0#h) (B:Rat) (fl ro:Nat):Option Rat->Prop
 | none=>∀q p,ro<=q->q<p->fl<=p->¬p<ss.length
 | some G=>GF ss B fl ro G
def SO (ss:0#h) (B:Rat) (fl ro:Nat):Option Rat->Prop
 | none=>∀q p,fl<=q->q<p->ro<=p->¬p<ss.length
 | some S=>SF ss B fl ro S
structure Hj (ss:0#h) (fl ro:Nat) (β:Rat) (g s:Option Rat):Prop where
 all:nU ss
 TH:rising ss
 hfl:fl<=ss.length
 O0:ro<=ss.length
 lt:0<ss.length->fl<ss.length/\ro<ss.length
 go:GO ss (2*β) fl ro g
 so:SO ss (2*β) fl ro s
 le:∀G S,g=some G->s=some S->G<=S
 df:fl=ro->fl=0
structure Bd0 (C:ah) (H:Hp) (p Lb La:ah) (ss:0#h) (fl ro:Nat) (β:Rat) (n nb:Nat) (g s:Option Rat) (dx bd tw:ah) (fs:List (Str×V)) (gv sv:V):Prop where
 at_:H p=some (.ins C dx fs)
 F:Fb fs bd tw Lb La gv sv
 eb:H Lb=some (.lst (vals (ss.drop fl)))
 ea:H La=some (.lst (vals (ss.drop ro)))
 ne:Lb≠La
 row:Row H ss n
 fbd:c8 H bd β nb
 WR:ck H tw (2*β) (2*nb+1)
 G:OQ H gv (3*n+(2*nb+1)+3) g
 S:OQ H sv (3*n+(2*nb+1)+3) s
 P:Hj ss fl ro β g s
def kT (C:ah) (H:Hp) (p Lb La:ah) (ss:0#h) (fl ro:Nat) (β:Rat) (n nb:Nat) (g s:Option Rat):Prop:=∃dx bd tw fs gv sv,Bd0 C H p Lb La ss fl ro β n nb g s dx bd tw fs gv sv
def Bd0.mv (h:Bd0 C H p Lb La ss fl ro β n nb g s dx bd tw fs gv sv) (t:0#p) (hp:H' p=H p) (h1:H' Lb=H Lb) (h2:H' La=H La):Bd0 C H' p Lb La ss fl ro β n nb g s dx bd tw fs gv sv:=
 ⟨hp.trans h.at_,h.F,h1.trans h.eb,h2.trans h.ea,h.ne,h.row.tv t,h.fbd.tv t,h.WR.tv t,h.G.tv t,h.S.tv t,h.P⟩
def Bd0.up (h:Bd0 C H p Lb La ss fl ro β n nb g s dx bd tw fs gv sv) (k:ao H H'):Bd0 C H' p Lb La ss fl ro β n nb g s dx bd tw fs gv sv:=
 h.mv (λ{b xs} e=>k _ _ e) ((k _ _ h.at_).trans h.at_.symm) ((k _ _ h.eb).trans h.eb.symm) ((k _ _ h.ea).trans h.ea.symm)
def kT.up (h:kT C H p Lb La ss fl ro β n nb g s) (k:ao H H'):kT C H' p Lb La ss fl ro β n nb g s:=
 let ⟨dx,bd,tw,fs,gv,sv,h⟩:=h;⟨dx,bd,tw,fs,gv,sv,h.up k⟩
def Hj.hiG (h:Hj ss fl ro β g s) (e:g=some G):GF ss (2*β) fl ro G/\HiP ss (2*β) fl ro G:=by
 have go:=h.go
 have u:=h.so
 rw [e] at go
 refine ⟨go,?_⟩
 cases hs:s with
 | none=>
   rw [hs] at u
   exact λq p a b c d=>absurd d (u q p a b c)
 | some S=>
   rw [hs] at u
   exact HiP.mono u.1 (h.le G S e hs)
def Hj.loS (h:Hj ss fl ro β g s) (e:s=some S):SF ss (2*β) fl ro S/\LoP ss (2*β) fl ro S:=by
 have go:=h.go
 have u:=h.so
 rw [e] at u
 refine ⟨u,?_⟩
 cases hs:g with
 | none=>
   rw [hs] at go
   exact λq p a b c d=>absurd d (go q p a b c)
 | some G=>
   rw [hs] at go
   exact LoP.mono go.1 (h.le G S hs e)
inductive TU (vs:List V) (H:Hp) (Q:VK) (E_:XK):Prop where
 | mk (p:ah) (q:Rat) (n:Nat):vs=[.ref p]->ck H p q n->(∀(r:ah) (H':Hp),ao H H'->ck H' r (-q) n->Q (.ref r) H')->TU vs H Q E_
inductive BY (vs:List V) (H:Hp) (Q:VK) (E_:XK):Prop where
 | mk (a b:V) (g s:Option Rat) (m n:Nat):vs=[a,b]->OQ H a m g->OQ H b n s->m+n<=100000->(∀r:Bool,(r=true↔∃G S,g=some G/\s=some S/\S<G)->Q (.bl r) H)->BY vs H Q E_
noncomputable def VF (T f l:Rat) (x:En):Bool:=decide (x.2.2.getD 0-(T*(x.2.1:Rat)+f)=l)
def xX (h:es[i]?=some x):VF T f l x=true↔fN es T i-f=l:=by
 unfold VF fN mo wo
 rw [Zv,h]
 show x.2.2.getD 0-(T*(x.2.1:Rat)+f)=l↔x.2.2.getD 0-T*(x.2.1:Rat)-f=l
 constructor
 ·intro h;rw [<- h];grind
 ·intro h;rw [<- h];grind
inductive wj (vs:List V) (H:Hp) (Q:VK) (E_:XK):Prop where
 | mk (l ln pb:ah) (es:0#h) (T f lam:Rat) (n M nb:Nat):vs=[.ref l,.ref ln,.ref pb]->H l=some 0#R->Row H es n->nU es->j8 H ln T f M->ck H pb lam nb->1<=n->n<=10000->M<=10000->nb<=10000->es.length<=900->(∀(R:ah) (H':Hp),ao H H'->H R=none->H' R=some (.lst (vals (es.filter (VF T f lam))))->Q (.ref R) H')->wj vs H Q E_
def Oa:dR 1 [aT] yt:=0#t
def NW (F:fU K "opposite" yt f fd):0#b 1 f fd [aT] TU:=by
 refine F.fq Oa 0#a
 obtain ⟨p,q,n,rfl,⟨a,b,hp,v,D,G⟩,k⟩:=h
 apply bI ⟨_,(aA (aW (b9 (bN (iu eG 1#d) 1#d)))),?_⟩
 refine aG (mk:=.tup) 0#w λz u B n1 e1=>?_
 exact k z u B ⟨_,_,e1,v.neg,by unfold Sz at *;rw [G3];exact D,G⟩
def IB:dR 2 [aT,aI] sX:=0#t
def Im (F:fU K "is_steeper" sX f fd) (dP:O5 P w K mg base):0#b 2 f fd [aT,aI] BY:=by
 refine F.fq IB 0#a
 obtain ⟨a,b,g,s',m,n,rfl,B,D,u,k⟩:=h
 refine bI ⟨_,(aA (aW (Jd.uR (pS jr 0#A eF 1#a) (Jd.uR (pS jr 0#H eF 1#a) (Jd.yc (pS iF (cg dP hr 0#A 0#H) aH 1#a)))))),?_⟩
 cases g with
 | none=>
   obtain rfl:a=.bM:=B
   rw?
   refine ⟨rfl,_,rfl,bO ?_⟩
   exact k false ⟨λz=>absurd z 0#y,λ⟨_,_,e,_⟩=>by cases e⟩
 | some G=>
   obtain ⟨J,rfl,I⟩:=B
   cases s' with
   | none=>
     obtain rfl:b=.bM:=D
     rw?
     apply ⟨rfl,_,rfl,cD ?_⟩
     refine ⟨rfl,_,rfl,bO ?_⟩
     exact k false ⟨λz=>absurd z 0#y,λ⟨_,_,_,e,_⟩=>by cases e⟩
   | some S=>
     obtain ⟨L,rfl,fb⟩:=D
     rw?
     apply ⟨rfl,_,rfl,cD ?_⟩
     apply ⟨rfl,_,rfl,cD ?_⟩
     apply ⟨J,L,G,S,m,n,rfl,I,fb,u,λo v h2=>?_⟩
     refine k _ ⟨λz=>⟨G,S,rfl,rfl,v.mp (kO z)⟩,λ⟨_,_,e1,e2,z⟩=>?_⟩
     cases e1
     cases e2
     exact jN (v.mpr z)
def Rr:dR 3 [br,cR,"lift"] BG:=0#t
def QB (F:fU K "touched" BG f fd) (dP:O5 P w K mg base) (uz:0#c 4 "loose_off" [cR,bF] RD):0#b 5 f fd [br,cR,"lift"] wj:=by
 refine F.fq Rr 0#a
 obtain ⟨l,ln,pb,es,T,v,u,n,M,nb,rfl,hl,hR,hS,Y,Z,h1,hn,hM,hnb,m5,k⟩:=h
 apply bI ⟨_,(aA (aW (pR (O:=[bF]) (N':=["lift","line" ]) (cap:=[2,1]) rfl (gQ K 0#A) (λ_ _ _ _ _=>(cG (i:=0) (show mL [("sample":Str),("lift":Str),("line":Str)] by decide +kernel) rfl 0#D)) (λ_ _ _ _ _=>(Jd.pU (bx cN (ko dP 0#G rfl (eV (ko uz 0#G rfl (eV 0#P (eV 0#A gT bH) bH) (he:=bH) (hpl:=(cO bH bZ))) (eV 0#H gT bH) yF) (he:=yF) (hpl:=(cO bH bZ))) aH 1#a))) (λ_ _ _ _ _=>0#A) rfl ⟨0#T,⟨0#T,trivial⟩⟩ rfl 0#x rfl 0#x))),?_⟩
 apply lJ ?_
 refine ⟨l,rfl,⟨_,bS.of hl⟩,?_⟩
 refine d8 (xs:=vals es) dm (λS B=>bS.of (B _ _ hl)) (by rw [aY];try?) (λi ys G=>ys=vals ((es.take i).filter (VF T v u))) rfl ?_ ?_
 ·rintro D i x ys S nQ N N0 h0 hD U B hx hy rfl kY kN
  obtain ⟨e,he,rfl⟩:=jw hx
  have hi:i<es.length:=(tP.mp he).1
  obtain ⟨xi,gi,fi⟩:=dM (hR.up B) hS hi
  rw [he] at gi
  cases gi
  have R:=Oq (VF T v u) es i e he
  apply jB h0 ?_
  apply ⟨ln,e.1,T,v,_,_,n,M,rfl,Y.up B,fi,h1,by try?,by try?,λz H4 s4 f4=>?_⟩
  refine ⟨z,pb,_,u,_,nb,rfl,f4,Z.up (B.trans s4),by try?,λo J L=>?_⟩
  have I:o=0↔fN es T i-v=u:=by
   have e1:wo es i-(T*(mo es i:Rat)+v)=fN es T i-v:=by unfold fN;grind
   rw [e1] at J L
   constructor
   ·intro h
    refine OP (kH.mp λz=>?_) (kH.mp λz=>?_)
    ·have:=J.mpr z;simp?
    ·have:=L.mpr z;simp?
   ·intro h
    rw [h] at J L
    have p1:¬0<o:=λz=>ZT (J.mp z)
    have p2:¬o<0:=λz=>ZT (L.mp z)
    simp?
  rw?
  cases hs:decide (o=0) with
  | true=>
    rw [(xX he).mpr (I.mp (kO hs)),if_pos rfl] at R
    apply cD ?_
    exact kY _ H4 s4 (by rw [R,<- gr])
  | false=>
    have:VF T v u e=false:=gH.mpr λz=>jF hs (I.mpr ((xX he).mp z))
    rw [this,if_neg pJ,Ar] at R
    refine bO ?_
    exact kN H4 s4 (by rw [R])
 ·rintro D ys S hD U B hy rfl
  rw [aY,qN] at U
  rw?
  exact k D S B hD U
def Kp (F:ah->Prop) (H H':Hp):Prop:=∀b o,¬F b->H b=some o->H' b=some o
def Kp.of (s:ao H H'):Kp F H H':=λb o _ e=>s b o e
def Kp.trans (h:Kp F H H') (h':Kp F H' H2):Kp F H H2:=λb o n e=>h' b o n (h b o n e)
def Kp.upd (h:Kp F H H') (hF:F a):Kp F H (upd H' a o):=λb u n e=>by
 rw [aF (show b≠a from λq=>n (by rw [q];exact hF))]
 exact h b u n e
def Kp.sm (h:Kp F H H') (s:ao H' H2):Kp F H H2:=h.trans (.of s)
def Tu (f:Str) (v:V):∀fs:List (Str×V),(aD f v fs).length<=fs.length+1
 | []=>gI _
 | (g,y)::r=>by
   unfold aD
   split
   ·exact OT _
   ·exact GY (Tu f v r)
def Sn (ss:0#h) (β:Rat) (fl:Nat) (g s:Option Rat) (T f:Rat):Prop:=
 ((g=some T\/(g=none/\s=some T))/\(∀i,fl<=i->i<ss.length->fN ss T i-β<=f)/\∃i,fl<=i/\i<ss.length/\fN ss T i-β=f)\/(g=none/\s=none/\T=0/\f=wo ss fl)
inductive D7 (C:ah) (vs:List V) (H:Hp) (Q:VK) (E_:XK):Prop where
 | mk (p dx pb:ah) (β:Rat) (n:Nat):vs=[.ref p,.ref pb]->H p=some (.ins C dx [])->c8 H pb β n->n<=1000->(∀(Lb La:ah) (H':Hp) (k:Nat),ao (rm p H) H'->H Lb=none->H La=none->kT C H' p Lb La [] 0 0 β k n none none->Q .bM H')->D7 C vs H Q E_
inductive vt (C:ah) (vs:List V) (H:Hp) (Q:VK) (E_:XK):Prop where
 | mk (p Lb La pt:ah) (ss:0#h) (fl ro:Nat) (β T:Rat) (n nb:Nat) (g s:Option Rat):vs=[.ref p,.ref pt]->kT C H p Lb La ss fl ro β n nb g s->ck H pt T (3*n+(2*nb+1)+3)->0<ss.length->ss.length<=900->n<=1500->(5*n+4*nb<=7900/\nb<=1000)->(∀(r:ah) (f:Rat) (H':Hp),ao H H'->j8 H' r T f (5*n+3*nb+7)->(∀i,fl<=i->i<ss.length->fN ss T i-β<=f)->(∃i,fl<=i/\i<ss.length/\fN ss T i-β=f)->Q (.ref r) H')->vt C vs H Q E_
inductive YG (C:ah) (vs:List V) (H:Hp) (Q:VK) (E_:XK):Prop where
 | mk (p Lb La x:ah) (ss:0#h) (fl ro:Nat) (m:Int) (q β G:Rat) (n nb:Nat) (s:Option Rat):vs=[.ref p,.ref x]->kT C H p Lb La ss fl ro β n nb (some G) s->jl H x m q n->(∀i,i<ss.length->mo ss i<m)->ss.length<=900->1<=n->n<=1500->(5*n+4*nb<=7900/\nb<=1000)->0<=β->(∃i,fl<=i/\i<ss.length/\q-G*(m:Rat)+2*β<fN ss G i)->(∀(r ln th B7 B6:ah) (f:Rat) (a b:Nat) (s':Option Rat) (H':Hp),ao (Q9 p Lb La H) H'->Ef ss β fl ro m q G f a b->H' r=some (.tup [.ref ln,.ref th])->j8 H' ln G f (5*n+3*nb+7)->H' th=some (.tup [.int (mo ss a),.int (mo ss b),.int m])->kT C H' p B7 B6 0#W b ss.length β n nb none s'->H B7=none->H B6=none->Q (.ref r) H')->YG C vs H Q E_
inductive YH (C:ah) (vs:List V) (H:Hp) (Q:VK) (E_:XK):Prop where
 | mk (p Lb La x:ah) (ss:0#h) (fl ro:Nat) (m:Int) (q β S:Rat) (n nb:Nat) (g:Option Rat):vs=[.ref p,.ref x]->kT C H p Lb La ss fl ro β n nb g (some S)->jl H x m q n->(∀i,i<ss.length->mo ss i<m)->ss.length<=900->1<=n->n<=1500->(5*n+4*nb<=7900/\nb<=1000)->0<=β->(∃i,ro<=i/\i<ss.length/\fN ss S i+2*β<q-S*(m:Rat))->(∀(r ln th B7 B6:ah) (f:Rat) (a b:Nat) (g':Option Rat) (H':Hp),ao (Q9 p Lb La H) H'->Eg ss β fl ro m q S f a b->H' r=some (.tup [.ref ln,.ref th])->j8 H' ln S f (5*n+3*nb+7)->H' th=some (.tup [.int (mo ss a),.int (mo ss b),.int m])->kT C H' p B7 B6 0#W ss.length b β n nb g' none->H B7=none->H B6=none->Q (.ref r) H')->YH C vs H Q E_
def El (ss:0#h) (β:Rat) (fl ro:Nat) (g s:Option Rat) (m:Int) (q:Rat):Prop:=(∀G,g=some G->∀i,fl<=i->i<ss.length->fN ss G i<=q-G*(m:Rat)+2*β)/\(∀S,s=some S->∀i,ro<=i->i<ss.length->q-S*(m:Rat)<=fN ss S i+2*β)
inductive Me (C:ah) (vs:List V) (H:Hp) (Q:VK) (E_:XK):Prop where
 | mk (p Lb La x:ah) (ss:0#h) (fl ro:Nat) (m:Int) (q β:Rat) (n nb:Nat) (g s:Option Rat):vs=[.ref p,.ref x]->kT C H p Lb La ss fl ro β n nb g s->jl H x m q n->(∀i,i<ss.length->mo ss i<m)->ss.length<=900->1<=n->n<=1500->(5*n+4*nb<=7900/\nb<=1000)->0<=β->(∀(g' s':Option Rat) (H':Hp),ao (Q9 p Lb La H) H'->El ss β fl ro g s m q->kT C H' p Lb La 0#W fl ro β n nb g' s'->Q .bM H')->(∀(r ln th B7 B6:ah) (G f:Rat) (a b:Nat) (s':Option Rat) (H':Hp),ao (Q9 p Lb La H) H'->g=some G->Ef ss β fl ro m q G f a b->H' r=some (.tup [.ref ln,.ref th])->j8 H' ln G f (5*n+3*nb+7)->H' th=some (.tup [.int (mo ss a),.int (mo ss b),.int m])->kT C H' p B7 B6 0#W b ss.length β n nb none s'->H B7=none->H B6=none->Q (.ref r) H')->(∀(r ln th B7 B6:ah) (S f:Rat) (a b:Nat) (g':Option Rat) (H':Hp),ao (Q9 p Lb La H) H'->s=some S->¬(∃G,g=some G/\∃i,fl<=i/\i<ss.length/\q-G*(m:Rat)+2*β<fN ss G i)->Eg ss β fl ro m q S f a b->H' r=some (.tup [.ref ln,.ref th])->j8 H' ln S f (5*n+3*nb+7)->H' th=some (.tup [.int (mo ss a),.int (mo ss b),.int m])->kT C H' p B7 B6 0#W ss.length b β n nb g' none->H B7=none->H B6=none->Q (.ref r) H')->Me C vs H Q E_
inductive YJ (C:ah) (vs:List V) (H:Hp) (Q:VK) (E_:XK):Prop where
 | mk (p Lb La:ah) (ss:0#h) (fl ro:Nat) (β:Rat) (n nb:Nat) (g s:Option Rat):vs=[.ref p]->kT C H p Lb La ss fl ro β n nb g s->ss.length<=900->1<=n->n<=1500->(5*n+4*nb<=7900/\nb<=1000)->(ss=[]->Q .bM H)->(0<ss.length->∀(r:ah) (T f:Rat) (H':Hp),ao H H'->j8 H' r T f (5*n+3*nb+7)->Sn ss β fl g s T f->Q (.ref r) H')->YJ C vs H Q E_
def j8.Wf (f:j8 H p s h n) (k:ao H H'):j8 H' p s h n:=f.tv λ{b xs} e=>k _ _ e
def IU (lI:0<=β) (hr:rising ss) (g:GF ss (2*β) fl ro G) (hH:HiP ss (2*β) fl ro G) (lo:∀i,fl<=i->i<ss.length->fN ss G i-β<=f) (ex:∃i,fl<=i/\i<ss.length/\fN ss G i-β=f) :
 (∀i,ro<=i->i<ss.length->f<=fN ss G i+β)/\∃q p,ro<=q/\q<p/\fl<=p/\p<ss.length/\fN ss G q+β=f/\fN ss G p-β=f:=by
 obtain ⟨b,v,A,eb⟩:=ex
 have u:∀i,ro<=i->i<ss.length->f<=fN ss G i+β:=λi h l=>by
  have:=agX (by grind) hr g.1 hH h v l A
  grind
 refine ⟨u,?_⟩
 obtain ⟨q,p,a1,a2,a3,a4,e⟩:=g.2
 have e':=(Xr hr a2 a4).mp e
 have l1:=lo p a3 a4
 have l2:=u q a1 0#z
 exact ⟨q,p,a1,a2,a3,a4,by grind,by grind⟩
def IX (lI:0<=β) (hr:rising ss) (g:SF ss (2*β) fl ro S) (hL:LoP ss (2*β) fl ro S) (lo:∀i,fl<=i->i<ss.length->fN ss S i-β<=f) (ex:∃i,fl<=i/\i<ss.length/\fN ss S i-β=f) :
 (∀i,ro<=i->i<ss.length->f<=fN ss S i+β)/\∃q p,fl<=q/\q<p/\ro<=p/\p<ss.length/\fN ss S q-β=f/\fN ss S p+β=f:=by
 obtain ⟨b,v,A,eb⟩:=ex
 have u:∀i,ro<=i->i<ss.length->f<=fN ss S i+β:=λi h l=>by
  have:=agX (by grind) hr hL g.1 h v l A
  grind
 refine ⟨u,?_⟩
 obtain ⟨q,p,a1,a2,a3,a4,e⟩:=g.2
 have e':=(SY hr a2 a4).mp e
 have l1:=lo q a1 0#z
 have l2:=u p a3 a4
 exact ⟨q,p,a1,a2,a3,a4,by grind,by grind⟩
def SH {es:0#h} (h:(es.drop j)[i]?=some x):es[j+i]?=some x:=by rw [<- yH];exact h
def Cz (h1:lo<=q) (h2:q<es.length) (e:fN es T q-f=l):∃a x,lo<=a/\a<=q/\es[a]?=some x/\((es.drop lo).filter (VF T f l))[0]?=some x/\fN es T a-f=l:=by
 have v:(es.drop lo)[q-lo]?=some es[q]:=by rw [yH,show lo+(q-lo)=q by simp?,jE h2]
 have A:VF T f l es[q]=true:=(xX (jE h2)).mpr e
 obtain ⟨a,x,g,E,B,D⟩:=MZ (VF T f l) (es.drop lo) ⟨_,g8 v,A⟩
 have u:=SH g
 refine ⟨lo+a,x,by simp?,?_,u,B,(xX u).mp E⟩
 by_cases z:q-lo<a
 ·have:=D _ _ z v
  rw [A] at this
  cases this
 ·simp?
def GR (h1:lo<=q) (h2:q<es.length) (e:fN es T q-f=l):∃a x,q<=a/\a<es.length/\es[a]?=some x/\((es.drop lo).filter (VF T f l))[((es.drop lo).filter (VF T f l)).length-1]?=some x/\fN es T a-f=l/\∀i,a<i->i<es.length->fN es T i-f≠l:=by
 have v:(es.drop lo)[q-lo]?=some es[q]:=by rw [yH,show lo+(q-lo)=q by simp?,jE h2]
 have D:VF T f l es[q]=true:=(xX (jE h2)).mpr e
 obtain ⟨a,x,g,J,E,B⟩:=S7 (VF T f l) (es.drop lo) ⟨_,g8 v,D⟩
 have u:=SH g
 refine ⟨lo+a,x,?_,(tP.mp u).1,u,E,(xX u).mp J,λi hi A G=>?_⟩
 ·by_cases z:a<q-lo
  ·have:=B _ _ z v
   rw [D] at this
   cases this
  ·simp?
 ·have I:(es.drop lo)[i-lo]?=some es[i]:=by rw [yH,show lo+(i-lo)=i by simp?,jE A]
  have:=B (i-lo) _ 0#z I
  rw [(xX (jE A)).mpr G] at this
  cases this
def J4 (h:es[es.length-1]?=some x):uD (vals es) (-1)=some (.ref x.1):=by
 have hl:=(tP.mp h).1
 unfold uD
 rw [aY,DP (m:=es.length-1) 0#u]
 exact Ao h
def DL (h:es[0]?=some x):uD (vals es) 0=some (.ref x.1):=iS (j:=0) (Ao h)
def D0 (h:rising ss) (hm:∀i,i<ss.length->mo ss i<m):rising 0#W:=F9 h hm
def Hj.next (h:Hj ss fl ro β g s) (lI:0<=β) (hm:∀i,i<ss.length->mo ss i<m) (gG:GF 0#W (2*β) fl ro G') (sS:SF 0#W (2*β) fl ro S')
 (n1:¬ ∃G S,g=some G/\some S'=some S/\S<G) (n2:¬ ∃G S,some G'=some G/\s=some S/\S<G):Hj 0#W fl ro β (some G') (some S')/\El ss β fl ro g s m q:=by
 have u:=D0 (x:=x) (q:=q) h.TH hm
 have E:∀G,g=some G->G<=S':=λG e=>kH.mp λz=>n1 ⟨G,S',e,rfl,z⟩
 have I:∀S,s=some S->G'<=S:=λS e=>kH.mp λz=>n2 ⟨G',S,rfl,e,z⟩
 have A:=h.hfl
 have J:=h.O0
 refine ⟨⟨qT h.all,u,by rw [iZ];simp?,by rw [iZ];simp?,λ_=>by rw [iZ];simp?,gG,sS,?_,h.df⟩,λG e i B D=>?_,λS e i B D=>?_⟩
 ·intro G S e1 e2
  cases e1
  cases e2
  refine aan (by grind) u gG sS (λi j a b c d=>?_) (λi j a b c d=>?_)
  ·have go:=h.go
   cases hg:g with
   | none=>rw [hg] at go;exact absurd d (go i j a b c)
   | some G0=>rw [hg] at go;exact xo (go.1 i j a b c d) (E G0 hg)
  ·have v:=h.so
   cases hs:s with
   | none=>rw [hs] at v;exact absurd d (v i j a b c)
   | some S0=>rw [hs] at v;exact xo (I S0 hs) (v.1 i j a b c d)
 ·refine kH.mp λz=>?_
  exact absurd ((J8 u sS (h.hiG e).2 J).mpr ⟨i,B,D,z⟩) (kH.mpr (E G e))
 ·refine kH.mp λz=>?_
  exact absurd ((Sy u gG (h.loS e).2 A).mpr ⟨i,B,D,z⟩) (kH.mpr (I S e))
def LK:dR 2 [aB,aJ] uV:=0#t
abbrev kW K mg c:=Cl K mg "Bend" c [aJ,"twice","below","above",jh,ji]
def KQ (F:i9 K "__init__" "Bend.__init__" uV f fd) (aZ:kW K mg az) (rY:0#c 5 "plus" [aT,aI] (tF (·+·) 1)):0#b 6 f fd [aB,aJ] (D7 az):=by
 refine F.fq LK 0#a
 obtain ⟨p,D,pb,β,n,rfl,hp,hb,hn,k⟩:=h
 have lp:∀(f:Str) (v:V) (fs:List (Str×V)),fs.length<=(aD f v fs).length:=by
  intro f v fs
  induction fs with
  | nil=>exact jV _
  | cons x r ih=>
    obtain ⟨g,y⟩:=x
    unfold aD
    split
    ·exact gI _
    ·exact GY ih
 have M:∀{H H':Hp} {fs:List (Str×V)} {b:ah} {xs:0#n},Kp (·=p) H H'->H p=some (.ins az D fs)->H b=some 0#Z->H' b=some 0#Z:=λh hp e=>h _ _ (λz=>by rw [z,hp] at e;cases e) e
 apply bI ⟨_,(aq (gA K 0#A 0#H) (aq (gA K 0#A (cg rY hr 0#H 0#H)) (aq (gA K 0#A (fM gT)) (aq (gA K 0#A (fM gT)) (aq (gA K 0#A eF) (aA (gA K 0#A eF))))))),?_⟩
 refine yd aZ hp (by show 0<1000;decide) ?_
 have k1:Kp (·=p) H (upd H p (.ins az D (aD "bound" (.ref pb) []))):=(Kp.of 0#V).upd rfl
 have N:=hb.tv (M k1 hp)
 have ai:upd H p (.ins az D (aD "bound" (.ref pb) [])) p=some (.ins az D (aD "bound" (.ref pb) [])):=au
 generalize upd H p (.ins az D (aD "bound" (.ref pb) []))=H1 at *
 rw?
 refine ⟨pb,pb,β,β,n,n,rfl,N.qt,N.qt,by try?,λtw H2 s2 f2=>?_⟩
 have k2:=k1.sm s2
 have O:=s2 _ _ ai
 have ae:=N.up s2
 rw?
 have F6:=λB G=>(Fb.init pb tw B G .bM .bM).len
 refine yd aZ O (by have:=F6 pb pb;have:=lp "twice" (.ref tw) (aD "bound" (.ref pb) []);have:(aD "bound" (.ref pb) ([]:List (Str×V))).length=1:=rfl;try?) ?_
 have k3:Kp (·=p) H (upd H2 p (.ins az D 0#Q)):=k2.upd rfl
 have ac:Kp (·=p) H2 (upd H2 p (.ins az D 0#Q)):=(Kp.of 0#V).upd rfl
 have af:=ae.tv (M ac O)
 have f3:=f2.tv (M ac O)
 have R:upd H2 p (.ins az D 0#Q) p=some (.ins az D 0#Q):=au
 generalize upd H2 p (.ins az D 0#Q)=H3 at *
 rw?
 refine aG (mk:=.lst) 0#w λB H4 s4 n4 e4=>?_
 have k4:=k3.sm s4
 have S:=s4 _ _ R
 have al:H B=none:=by
  cases g:H B with
  | none=>rfl
  | some o=>
    by_cases z:B=p
    ·rw [z,R] at n4;cases n4
    ·rw [k3 _ _ z g] at n4;cases n4
 have XA:B≠p:=λz=>by rw [z,R] at n4;cases n4
 rw?
 refine yd aZ S (by have z1:=Tu "twice" (.ref tw) (aD "bound" (.ref pb) []);have z2:(aD "bound" (.ref pb) ([]:List (Str×V))).length=1:=rfl;try?) ?_
 have J:Kp (·=p) H4 (upd H4 p (.ins az D (aD "below" (.ref B) 0#Q))):=(Kp.of 0#V).upd rfl
 have ag:=(af.up s4).tv (M J S)
 have f5:=(f3.up s4).tv (M J S)
 have e5:=J _ _ XA e4
 have k5:=k4.trans J
 have U:upd H4 p (.ins az D (aD "below" (.ref B) 0#Q)) p=some (.ins az D (aD "below" (.ref B) 0#Q)):=au
 generalize upd H4 p (.ins az D (aD "below" (.ref B) 0#Q))=H5 at *
 rw?
 refine aG (mk:=.lst) 0#w λG H6 s6 L e6=>?_
 have k6:=k5.sm s6
 have Y:=s6 _ _ U
 have ak:H G=none:=by
  cases g:H G with
  | none=>rfl
  | some o=>
    by_cases z:G=p
    ·rw [z,U] at L;cases L
    ·rw [k5 _ _ z g] at L;cases L
 have aj:G≠p:=λz=>by rw [z,U] at L;cases L
 have ne:B≠G:=λz=>by rw [<- z,e5] at L;cases L
 have F:=Fb.init pb tw B G .bM .bM
 have l0:=F.len
 have l1:=lp "steepest" .bM (aD "gentlest" .bM (aD "above" (.ref G) (aD "below" (.ref B) 0#Q)))
 have l2:=lp "gentlest" .bM (aD "above" (.ref G) (aD "below" (.ref B) 0#Q))
 have l3:=lp "above" (.ref G) (aD "below" (.ref B) 0#Q)
 rw?
 apply yd aZ Y 0#u ?_
 apply yd aZ au 0#u ?_
 apply yd aZ au 0#u ?_
 rw [tL,tL]
 have I:Kp (·=p) H6 (upd H6 p (.ins az D (aD "steepest" .bM (aD "gentlest" .bM (aD "above" (.ref G) (aD "below" (.ref B) 0#Q)))))):=(Kp.of 0#V).upd rfl
 have k7:=k6.trans I
 refine k B G _ 0 (λb o e=>?_) al ak ⟨D,pb,tw,_,.bM,.bM,au,F,I _ _ XA (s6 _ _ e5),I _ _ aj e6,ne,λx hx=>absurd hx 0#w,(ag.up s6).tv (M I Y),?_,rfl,rfl,⟨λx hx=>absurd hx 0#w,List.Pairwise.nil,gI _,gI _,λz=>absurd z 0#w,λq p _ _ _ z=>absurd z 0#w,λq p _ _ _ z=>absurd z 0#w,λ_ _ e=>(by cases e),λ_=>rfl⟩⟩
 ·by_cases hb':b=p
  ·rw [hb'] at e
   unfold rm at e
   rw [if_pos rfl] at e
   cases e
  ·rw [kQ hb'] at e
   exact k7 _ _ hb' e
 ·have:=((f5.up s6).tv (M I Y)).qt
  have ad:(2*β:Rat)=β+β:=by grind
  rw [ad]
  exact this.mono 0#u
def in_of {rs:Qs} (hm:rs.map (·.2)=(jg N).map h):(∀i,i<N->∃x∈rs,x.2=h i)/\(∀x∈rs,∃i,i<N/\h i=x.2):=by
 constructor
 ·intro i u
  have:h i∈rs.map (·.2):=by rw [hm];exact kc.mpr ⟨i,wD.mpr u,rfl⟩
  obtain ⟨x,v,e⟩:=kc.mp this
  exact ⟨x,v,e⟩
 ·intro x v
  have:x.2∈rs.map (·.2):=kc.mpr ⟨x,v,rfl⟩
  rw [hm] at this
  obtain ⟨i,u,e⟩:=kc.mp this
  exact ⟨i,wD.mp u,e⟩
def gW (h:nU es):nU (es.drop j):=λx hx=>h x (Zo hx)
def jb (h:Row H es n):Row H (es.drop j) n:=λx hx=>h x (Zo hx)
def abU:Sz n 0:=ZJ n
def nG:dR 2 [aB,gK,"told","lows"] o6:=0#t
def Dj (F:i9 K "line_of" "Bend.line_of" o6 f fd) (aZ:kW K mg az) (b8:MC P w K mg base) (dU:aev P w K mg base) (bh:0#c 1 "loose_minus" [aT,aI] (j7 (·-·) 1)) (iw:aey P w K mg base):0#b 5 f fd [aB,gK] (vt az):=by
 refine F.fq nG 0#a
 obtain ⟨p,Lb,La,pt,J,B,ro,β,T,n,nb,g,s',rfl,⟨dx,bd,tw,fs,gv,sv,L⟩,ht,h0,m5,hn,hnb,k⟩:=h
 have hlt:=(L.P.lt h0).1
 have ld:(J.drop B).length=J.length-B:=mH ..
 apply bI ⟨_,(aq (nK (i:=2) nG.nd rfl (Or.inr rfl) (Jd.c1 b8 hr 0#H) (hs:=cU)) (aq (Jd.oh (O:=[bF]) (N':=["told","self" ]) (cap:=[2,0]) (i:=3) nG.nd rfl 0#D rfl (gQ K 0#S) (λ_ _ _ _ _=>(cG (i:=0) (show mL [("sample":Str),("told":Str),("self":Str)] by decide +kernel) rfl 0#D)) (λ_ _ _ _ _=>oX) (λ_ _ _ _ _=>(ko bh 0#G rfl (eV (ko dU 0#G rfl (eV 0#H (eV 0#A (eV aH gT pG) bH) bH) (he:=bH) (hpl:=(cO bH (cO pG bZ)))) (eV (cQ K 0#P) gT) yF) (he:=yF) (hpl:=(cO (by rfl) bZ)))) rfl ⟨0#T,⟨0#T,trivial⟩⟩ rfl 0#x rfl 0#x (by rfl)) (aA (aW (b9 (bN 0#P (Jd.c1 b8 hr (Jd.c1 iw hr 0#X)))))))),?_⟩
 apply ⟨pt,T,_,rfl,ht,by try?,λto H1 Z f1=>?_⟩
 apply lJ ?_
 refine i7 aZ (Z _ _ L.at_) L.F.bl ?_
 refine ⟨Lb,rfl,⟨_,bS.of (Z _ _ L.eb)⟩,?_⟩
 refine d8 (xs:=vals (J.drop B)) dm (λH3 R=>bS.of (R _ _ (Z _ _ L.eb))) (by rw [aY];try?) (λi ys G'=>∃U:Qs,ys=fh U/\JW G' U (5*n+3*nb+7)/\U.map (·.2)=(jg i).map (λj=>fN (J.drop B) T j-β)) ⟨[],rfl,λz hz=>absurd hz 0#w,rfl⟩ ?_ ?_
 ·rintro D i v ys H3 nQ N N0 ac hD eD R hv hy ⟨U,rfl,M,I⟩ kY kN
  obtain ⟨e,he,rfl⟩:=jw hv
  have hi:i<(J.drop B).length:=(tP.mp he).1
  obtain ⟨xi,gi,fi⟩:=dM (jb (L.row.up (Z.trans R))) (gW L.P.all) hi
  rw [he] at gi
  cases gi
  apply jB ac ?_
  apply cD ?_
  apply ⟨to,e.1,T,_,_,0,_,n,rfl,(f1.up R).qt,fi,abU,by try?,by try?,λx H4 Y f4=>?_⟩
  apply i7 aZ ((Z.trans (R.trans Y)) _ _ L.at_) L.F.bd ?_
  refine ⟨x,bd,_,β,_,nb,rfl,f4,(L.fbd.up (Z.trans (R.trans Y))).qt,by try?,λx5 H5 s5 f5=>?_⟩
  refine kY _ H5 (Y.trans s5) ⟨U++[(x5,fN (J.drop B) T i-β)],by simp [fh],λy ad=>?_,?_⟩
  ·rcases i8.mp ad with w | w
   ·exact (M y w).up (rK (Y.trans s5))
   ·obtain rfl:y=(x5,fN (J.drop B) T i-β):=by simpa using w
    have e1:wo (J.drop B) i+T*((0-mo (J.drop B) i:Int):Rat)-β=fN (J.drop B) T i-β:=by
     unfold fN
     rw [yK]
     grind
    have f5:ck H5 x5 (wo (J.drop B) i+T*((0-mo (J.drop B) i:Int):Rat)-β) _:=f5
    rw [e1] at f5
    obtain ⟨t,d,e',ff⟩:=f5.mono (show 3*n+(2*nb+1)+3+2*n+2+nb+1<=5*n+3*nb+7 by try?)
    exact ⟨t,d,lK ((Y.trans s5) _ _ eD) e',ff⟩
  ·rw [jM,I,G2,jM]
   rfl
 rintro D ys H3 hD eD R hy ⟨U,rfl,M,I⟩
 rw [aY] at I
 have hlen:U.length=(J.drop B).length:=by
  have:=congrArg CJ I
  simpa using this
 obtain ⟨ae,af⟩:=in_of I
 rw?
 apply ⟨D,U,5*n+3*nb+7,rfl,eD,λx hx=>(M x hx).up jt,by try?,by try?,λmx V9 yU=>?_⟩
 apply ⟨mx.1,mx.2,_,rfl,(M mx V9).up jt,by try?,λr4 H4 Y f4=>?_⟩
 refine aG (mk:=.tup) 0#w λy H5 s5 n5 e5=>?_
 refine k y mx.2 H5 (Z.trans (R.trans (Y.trans s5))) ⟨to,r4,e5,(f1.up (R.trans (Y.trans s5))).mono 0#u,f4.up s5⟩ (λi hi hl=>?_) ?_
 ·obtain ⟨x,hx,e⟩:=ae (i-B) 0#u
  have:=yU x hx
  rw [e,Nv,show B+(i-B)=i by try?] at this
  exact this
 ·obtain ⟨i,hi,e⟩:=af mx V9
  exact ⟨B+i,by try?,by try?,by rw [<- Nv];exact e⟩
def gC:dR 2 [aB,bF,cR,c5,"mid"] jC:=0#t
def uP (F:i9 K "ended_in_cap" "Bend.ended_in_cap" jC f fd) (aZ:kW K mg az) (cV:Dm P w K mg base 5 az "line_of" [aB,gK] (vt az)) (jX:0#c 5 "touched" [br,cR,"lift"] wj) (lB:0#c 1 "opposite" [aT] TU) (c7:aeA P w K mg base):0#b 6 f fd [aB,bF] (YG az):=by
 refine F.fq gC 0#a
 obtain ⟨p,Lb,La,x,ss,L,ro,m,q,β,G,n,nb,s',rfl,⟨J,bd,tw,fs,gv,sv,I⟩,hx,hm,m5,h1,hn,bh,lI,ad,k⟩:=h
 have h0:0<ss.length:=by obtain ⟨i,_,hi,_⟩:=ad;try?
 obtain ⟨hfl,O0⟩:=I.P.lt h0
 obtain ⟨pg,rfl,fg⟩:=id I.G
 obtain ⟨gG,hG⟩:=I.P.hiG rfl
 have TH:=I.P.TH
 apply bI ⟨_,(aq (aV 2 gC.nd (Jd.wQ cV aZ.cl 0#G 0#A (cP 0#S) (he:=(by rfl)) (hpl:=bZ))) (aq (aV 3 gC.nd (Jd.iL K (Jd.c3 jX hr 0#S 0#P (Jd.c1 lB hr 0#S)))) (aq (nK (i:=4) gC.nd rfl (Or.inr rfl) (cY (lX K) (Jd.c3 jX hr 0#S 0#P 0#S) (iu eG aH) 0#B) (hs:=YM)) (aq (gA K 0#A (pR (O:=[aI]) (N':=["mid"]) (cap:=[4]) rfl (gQ K 0#S) (λ_ _ _ _ _=>(cG (i:=0) (show mL [("other":Str),("mid":Str)] by decide +kernel) rfl 0#D)) (λ_ _ _ _ _=>(Jd.pU (bx Jq (cY (Vo K) 0#A aH 0#B) (cY (Vo K) 0#H aH 0#B) 1#a))) (λ_ _ _ _ _=>0#A) rfl ⟨0#T,trivial⟩ rfl 0#x rfl 0#x)) (aq (gA K 0#A (ko c7 0#G rfl (Jd.a4 eF 0#S 0#H 0#S) (he:=pG) (hpl:=(cO (by rfl) (cO bH (cO (by rfl) bZ)))))) (aq (gA K 0#A eF) (aq (dB (d9 K 0#S 0#H) (hs:=cU)) (aq (gA K 0#A (fM (cP 0#H))) (aA (aW (b9 (bN 0#P (b9 (Jd.a3 (aO K 0#X) (aO K (aa 4)) (aO K 0#H))))))))))))))),?_⟩
 apply F3 I.at_ (I.F.AV "line_of") ?_
 apply i7 aZ I.at_ I.F.g ?_
 refine ⟨p,Lb,La,pg,ss,L,ro,β,G,n,nb,some G,s',rfl,⟨J,bd,tw,fs,_,sv,I⟩,fg,h0,m5,hn,bh,λln fo H1 s1 f1 lo ex=>?_⟩
 obtain ⟨hi,q0,p0,a1,a2,a3,a4,eq0,ep0⟩:=IU lI TH gG hG lo ex
 have EK:=I.up s1
 rw?
 apply i7 aZ EK.at_ I.F.ab ?_
 apply i7 aZ EK.at_ I.F.bd ?_
 refine ⟨bd,β,nb,rfl,EK.fbd.qt,λob H2 s2 f2=>?_⟩
 have ai:=EK.up s2
 rw?
 refine ⟨La,ln,ob,ss.drop ro,G,fo,-β,n,_,nb,rfl,ai.ea,jb ai.row,gW I.P.all,f1.Wf s2,f2,h1,by try?,by try?,by try?,by rw [mH];try?,λR3 H3 s3 n3 e3=>?_⟩
 have Jc:=ai.up s3
 obtain ⟨a,xa,b1,b2,ga,g0,ea⟩:=Cz (l:=-β) (f:=fo) a1 0#u (show fN ss G q0-fo=-β by grind)
 obtain ⟨xa',ar,fa⟩:=dM (Jc.row) I.P.all (show a<ss.length by try?)
 rw [ga] at ar
 cases ar
 rw?
 apply ie e3 (DL g0) ?_
 apply i7 aZ Jc.at_ I.F.bl ?_
 apply i7 aZ Jc.at_ I.F.bd ?_
 refine ⟨Lb,ln,bd,ss.drop L,G,fo,β,n,_,nb,rfl,Jc.eb,jb Jc.row,gW I.P.all,f1.Wf (s2.trans s3),Jc.fbd.qt,h1,by try?,by try?,by try?,by rw [mH];try?,λR4 H4 s4 n4 e4=>?_⟩
 have Mx:=Jc.up s4
 have Hs:=s1.trans (s2.trans (s3.trans s4))
 obtain ⟨b,xb,c1,c2,gb,g1,eb,fb⟩:=GR (l:=β) (f:=fo) a3 a4 (show fN ss G p0-fo=β by grind)
 obtain ⟨xb',as,ba⟩:=dM Mx.row I.P.all c2
 rw [gb] at as
 cases as
 obtain ⟨vb,ap,_⟩:=id ba
 obtain ⟨va,a9,_⟩:=id (fa.up s4)
 have mb:xb.2.1=mo ss b:=by unfold mo;rw [gb];rfl
 have bb:(ss.drop L)[b-L]?=some xb:=by rw [yH,show L+(b-L)=b by try?];exact gb
 have a7:(ss.drop L).filter (λy=>decide (xb.2.1<=y.2.1))=ss.drop b:=by
  rw [SI (Ce TH) bb,adN,show L+(b-L)=b by try?]
 rw?
 apply ie e4 (J4 g1) ?_
 apply lJ ?_
 refine i7 aZ Mx.at_ I.F.bl ?_
 refine ⟨Lb,rfl,⟨_,bS.of Mx.eb⟩,?_⟩
 refine d8 (xs:=vals (ss.drop L)) dm (λR U=>bS.of (U _ _ Mx.eb)) (by rw [aY,mH];try?) (λi ys _=>ys=vals (((ss.drop L).take i).filter (λy=>decide (xb.2.1<=y.2.1)))) rfl ?_ ?_
 ·rintro D i v ys R nQ N N0 bc hD eD U hv hy rfl kY kN
  obtain ⟨e,he,rfl⟩:=jw hv
  have hi:i<(ss.drop L).length:=(tP.mp he).1
  obtain ⟨xi,gi,⟨vi,ei,_⟩⟩:=dM (jb (Mx.row.up U)) (gW I.P.all) hi
  rw [he] at gi
  cases gi
  have me:mo (ss.drop L) i=e.2.1:=by unfold mo;rw [he];rfl
  have ts:=Oq (λy:En=>decide (xb.2.1<=y.2.1)) (ss.drop L) i e he
  have ajK:=U _ _ ap
  apply jB bc ?_
  cases hs:decide (xb.2.1<=e.2.1) with
  | true=>
    rw [hs,if_pos rfl] at ts
    have aj:=kO hs
    rw [show decide (mo ss b<=mo (ss.drop L) i)=true from jN (by rw [me,<- mb];exact aj)]
    apply cD ?_
    exact kY _ R 0#V (by rw [ts,<- gr])
  | false=>
    rw [hs,if_neg pJ,Ar] at ts
    have aj:=jF hs
    rw [show decide (mo ss b<=mo (ss.drop L) i)=false from mJ (by rw [me,<- mb];exact aj)]
    refine bO ?_
    exact kN R 0#V (by rw [ts])
 rintro D ys R hD eD U hy rfl
 rw [aY,qN,a7] at eD
 have U4:=Mx.up U
 have Wd:=Hs.trans U
 have nD:H D=none:=by
  cases g:H D with
  | none=>rfl
  | some o=>rw [Hs _ _ g] at hD;cases hD
 have ac:D≠p:=λz=>by rw [z,I.at_] at nD;cases nD
 have fl0:=I.F.len
 rw?
 refine yd aZ U4.at_ 0#u ?_
 have kd:Kp (λb=>b=p) R (upd R p (.ins az J (aD "below" (.ref D) fs))):=(Kp.of 0#V).upd rfl
 have Y:upd R p (.ins az J (aD "below" (.ref D) fs)) p=some (.ins az J (aD "below" (.ref D) fs)):=au
 have k6:Kp (λb=>b=p\/b=D) H (upd R p (.ins az J (aD "below" (.ref D) fs))):=(Kp.of Wd).upd (.inl rfl)
 have am:=kd _ _ ac eD
 have tp:∀{b:ah} {xs:0#n},R b=some 0#Z->upd R p (.ins az J (aD "below" (.ref D) fs)) b=some 0#Z:=λe=>kd _ _ (λz=>by rw [z,U4.at_] at e;cases e) e
 have Yo:=(U4.row).tv tp
 have ak:=((hx.up Wd).en.tv tp).sa
 have WS:=U4.WR.tv tp
 have aE:=U4.fbd.tv tp
 have aK:=(f1.Wf (s2.trans (s3.trans (s4.trans U)))).tv tp
 have aR:=tp (U _ _ a9)
 have aU:=tp (U _ _ ap)
 generalize upd R p (.ins az J (aD "below" (.ref D) fs))=H6 at *
 have F6:=I.F.YD (y:=D)
 have l6:=F6.len
 rw?
 apply i7 aZ Y F6.bl ?_
 apply i7 aZ Y F6.tw ?_
 have ldb:(ss.drop b).length=ss.length-b:=mH ..
 refine ⟨.bM,D,x,tw,ss.drop b,m,q,2*β,n,2*nb+1,rfl,am,jb Yo,gW I.P.all,ak,WS,by try?,by try?,by try?,λi hi=>by rw [vS];exact hm _ 0#u,.inl rfl,λz=>absurd z 0#u,λ_ ps S H7 s7 f7 _ av be=>?_⟩
 have sS:SF 0#W (2*β) b ss.length S:=YE (s:=none) (λ_ e=>by cases e) (λ_ i j _ _ z=>by try?) (gI _) av (by
  rcases be with z | ⟨pk,e,_⟩
  ·exact .inl z
  ·cases e)
 rw?
 have an:=s7 _ _ Y
 apply yd aZ an 0#u ?_
 apply yd aZ au (by rw [rH F6.s];try?) ?_
 apply i7 aZ au F6.Gu.Gs.bl ?_
 rw [tL]
 have k8:Kp (λb=>b=p\/b=D) H (upd H7 p (.ins az J 0#F)):=(k6.sm s7).upd (.inl rfl)
 have a8:upd H7 p (.ins az J 0#F) p=some (.ins az J 0#F):=au
 have al:Kp (λb=>b=p) H7 (upd H7 p (.ins az J 0#F)):=(Kp.of 0#V).upd rfl
 have ae:=al _ _ ac (s7 _ _ am)
 have bo:∀{b:ah} {xs:0#n},H6 b=some 0#Z->upd H7 p (.ins az J 0#F) b=some 0#Z:=λe=>al _ _ (λz=>by rw [z,Y] at e;cases e) (s7 _ _ e)
 have f8:ck (upd H7 p (.ins az J 0#F)) ps S (3*n+(2*nb+1)+3):=f7.tv λ{b xs} e=>al _ _ (λz=>by rw [z,an] at e;cases e) e
 generalize upd H7 p (.ins az J 0#F)=H8 at *
 have F8:=F6.Gu (y:=.ref ps) |>.Gs (y:=.bM)
 apply ⟨.inl ⟨rfl,_,bS.of ae⟩,?_⟩
 refine gB ae (by rw [aY];exact bg 0#u) ?_
 have k9:Kp (λb=>b=p\/b=D) H (upd H8 D (.lst (vals (ss.drop b)++[.ref x]))):=k8.upd (.inr rfl)
 have ag:upd H8 D (.lst (vals (ss.drop b)++[.ref x])) p=some (.ins az J 0#F):=by rw [aF (jx ac)];exact a8
 have af:upd H8 D (.lst (vals (ss.drop b)++[.ref x])) D=some (.lst (vals ((ss++[(x,m,some q)]).drop b))):=by
  rw [au,V3 0#u,<- gr]
 have aw:∀{b':ah} {xs:0#n},H8 b'=some 0#Z->upd H8 D (.lst (vals (ss.drop b)++[.ref x])) b'=some 0#Z:=λe=>by rw [aF (λz=>by rw [z,ae] at e;cases e)];exact e
 generalize upd H8 D (.lst (vals (ss.drop b)++[.ref x]))=H9 at *
 rw?
 refine aG (mk:=.lst) 0#w λM um uU AX Ho=>?_
 have nM:H M=none:=by
  cases g:H M with
  | none=>rfl
  | some o=>
    by_cases z:M=p
    ·rw [z,ag] at AX;cases AX
    ·by_cases z2:M=D
     ·rw [z2,af] at AX;cases AX
     ·rw [k9 _ _ (λu=>by rcases u with u | u;exact z u;exact z2 u) g] at AX;cases AX
 have bm:M≠p:=λz=>by rw [z,I.at_] at nM;cases nM
 have bj:D≠M:=λz=>by rw [<- z,af] at AX;cases AX
 rw?
 have l8:=F8.len
 refine yd aZ (uU _ _ ag) 0#u ?_
 have ax:=F8.YC (y:=M)
 have bi:Kp (λb=>b=p\/b=D) H (upd um p (.ins az J (aD "above" (.ref M) 0#F))):=(k9.sm uU).upd (.inl rfl)
 have aQ:upd um p (.ins az J (aD "above" (.ref M) 0#F)) p=some (.ins az J (aD "above" (.ref M) 0#F)):=au
 have E2:Kp (λb=>b=p) um (upd um p (.ins az J (aD "above" (.ref M) 0#F))):=(Kp.of 0#V).upd rfl
 have aL:=E2 _ _ ac (uU _ _ af)
 have aN:=E2 _ _ bm Ho
 have YY:∀{b:ah} {xs:0#n},H9 b=some 0#Z->upd um p (.ins az J (aD "above" (.ref M) 0#F)) b=some 0#Z:=λe=>E2 _ _ (λz=>by rw [z,ag] at e;cases e) (uU _ _ e)
 generalize upd um p (.ins az J (aD "above" (.ref M) 0#F))=V4 at *
 have Og:∀{b:ah} {xs:0#n},H6 b=some 0#Z->V4 b=some 0#Z:=λe=>YY (aw (bo e))
 have ag5:=Og aR
 have ag6:=Og aU
 obtain ⟨vx,a',_⟩:=id ak
 have ag7:=Og a'
 rw?
 apply aG (mk:=.tup) 0#w λth H12 bn n12 a5=>?_
 refine aG (mk:=.tup) 0#w λr ay JC n13 a6=>?_
 have Rf:=bn.trans JC
 refine k r ln th D M fo a b (some S) ay (λb' o e=>?_) ⟨gG,ad,lo,hi,b1,by grind,by try?,c2,by grind,λi hi hl z=>fb i hi hl (by grind),by try?⟩ a6 ((aK.tv Og).Wf Rf) (JC _ _ a5) ⟨J,bd,tw,_,.bM,.ref ps,Bd0.up ⟨aQ,ax,aL,?_,bj,?_,aE.tv Og,WS.tv Og,rfl,⟨ps,rfl,(f8.tv λe=>YY (aw e))⟩,?_⟩ Rf⟩ nD nM
 ·obtain ⟨n1,n2,n3,e⟩:=Ga e
  refine Rf _ _ (bi _ _ (λz=>?_) e)
  rcases z with z | z
  ·exact n1 z
  ·rw [z,nD] at e;cases e
 ·rw [V3 (gI _),adx]
  exact aN
 ·exact (Yo.tv Og).snoc (ak.en.tv Og)
 ·refine ⟨qT I.P.all,D0 TH hm,by rw [iZ];try?,by rw [iZ];try?,λ_=>by rw [iZ];try?,λi j hi hij _ hj=>?_,sS,λ_ _ e=>(by cases e),λz=>absurd z 0#u⟩
  rw [iZ] at hj
  try?
def gD:dR 2 [aB,bF,cR,c5,"mid"] jD:=0#t
def uQ (F:i9 K "ended_in_cup" "Bend.ended_in_cup" jD f fd) (aZ:kW K mg az) (cV:Dm P w K mg base 5 az "line_of" [aB,gK] (vt az)) (jX:0#c 5 "touched" [br,cR,"lift"] wj) (lB:0#c 1 "opposite" [aT] TU) (c6:aez P w K mg base):0#b 6 f fd [aB,bF] (YH az):=by
 refine F.fq gD 0#a
 obtain ⟨p,Lb,La,x,ss,fl,L,m,q,β,G,n,nb,s',rfl,⟨J,bd,tw,fs,gv,sv,I⟩,hx,hm,m5,h1,hn,bh,lI,ad,k⟩:=h
 have h0:0<ss.length:=by obtain ⟨i,_,hi,_⟩:=ad;try?
 obtain ⟨hfl,O0⟩:=I.P.lt h0
 obtain ⟨pg,rfl,fg⟩:=id I.S
 obtain ⟨gG,hG⟩:=I.P.loS rfl
 have TH:=I.P.TH
 apply bI ⟨_,(aq (aV 2 gD.nd (Jd.wQ cV aZ.cl 0#G 0#A (cP 0#S) (he:=(by rfl)) (hpl:=bZ))) (aq (aV 3 gD.nd (Jd.iL K (Jd.c3 jX hr 0#S 0#P 0#S))) (aq (nK (i:=4) gD.nd rfl (Or.inr rfl) (cY (lX K) (Jd.c3 jX hr 0#S 0#P (Jd.c1 lB hr 0#S)) (iu eG aH) 0#B) (hs:=YM)) (aq (gA K 0#A (pR (O:=[aI]) (N':=["mid"]) (cap:=[4]) rfl (gQ K 0#S) (λ_ _ _ _ _=>(cG (i:=0) (show mL [("other":Str),("mid":Str)] by decide +kernel) rfl 0#D)) (λ_ _ _ _ _=>(Jd.pU (bx Jq (cY (Vo K) 0#A aH 0#B) (cY (Vo K) 0#H aH 0#B) 1#a))) (λ_ _ _ _ _=>0#A) rfl ⟨0#T,trivial⟩ rfl 0#x rfl 0#x)) (aq (gA K 0#A (ko c6 0#G rfl (Jd.a4 eF 0#S 0#H 0#S) (he:=pG) (hpl:=(cO (by rfl) (cO bH (cO (by rfl) bZ)))))) (aq (gA K 0#A eF) (aq (dB (d9 K 0#S 0#H) (hs:=cU)) (aq (gA K 0#A (fM (cP 0#H))) (aA (aW (b9 (bN 0#P (b9 (Jd.a3 (aO K 0#X) (aO K (aa 4)) (aO K 0#H))))))))))))))),?_⟩
 apply F3 I.at_ (I.F.AV "line_of") ?_
 apply i7 aZ I.at_ I.F.s ?_
 refine ⟨p,Lb,La,pg,ss,fl,L,β,G,n,nb,s',some G,rfl,⟨J,bd,tw,fs,gv,_,I⟩,fg,h0,m5,hn,bh,λln fo H1 s1 f1 lo ex=>?_⟩
 obtain ⟨hi,q0,p0,a1,a2,a3,a4,eq0,ep0⟩:=IX lI TH gG hG lo ex
 have EK:=I.up s1
 rw?
 apply i7 aZ EK.at_ I.F.bl ?_
 apply i7 aZ EK.at_ I.F.bd ?_
 refine ⟨Lb,ln,bd,ss.drop fl,G,fo,β,n,_,nb,rfl,EK.eb,jb EK.row,gW I.P.all,f1,EK.fbd.qt,h1,by try?,by try?,by try?,by rw [mH];try?,λR3 H3 s3 n3 e3=>?_⟩
 have Jc:=EK.up s3
 obtain ⟨a,xa,b1,b2,ga,g0,ea⟩:=Cz (l:=β) (f:=fo) a1 0#u (show fN ss G q0-fo=β by grind)
 obtain ⟨xa',ar,fa⟩:=dM (Jc.row) I.P.all (show a<ss.length by try?)
 rw [ga] at ar
 cases ar
 rw?
 apply ie e3 (DL g0) ?_
 apply i7 aZ Jc.at_ I.F.ab ?_
 apply i7 aZ Jc.at_ I.F.bd ?_
 refine ⟨bd,β,nb,rfl,Jc.fbd.qt,λob H2 s2 f2=>?_⟩
 have ai:=Jc.up s2
 rw?
 refine ⟨La,ln,ob,ss.drop L,G,fo,-β,n,_,nb,rfl,ai.ea,jb ai.row,gW I.P.all,f1.Wf (s3.trans s2),f2,h1,by try?,by try?,by try?,by rw [mH];try?,λR4 H4 s4 n4 e4=>?_⟩
 have Mx:=ai.up s4
 have Hs:=s1.trans (s3.trans (s2.trans s4))
 obtain ⟨b,xb,c1,c2,gb,g1,eb,fb⟩:=GR (l:=-β) (f:=fo) a3 a4 (show fN ss G p0-fo=-β by grind)
 obtain ⟨xb',as,ba⟩:=dM Mx.row I.P.all c2
 rw [gb] at as
 cases as
 obtain ⟨vb,ap,_⟩:=id ba
 obtain ⟨va,a9,_⟩:=id (fa.up (s2.trans s4))
 have mb:xb.2.1=mo ss b:=by unfold mo;rw [gb];rfl
 have bb:(ss.drop L)[b-L]?=some xb:=by rw [yH,show L+(b-L)=b by try?];exact gb
 have a7:(ss.drop L).filter (λy=>decide (xb.2.1<=y.2.1))=ss.drop b:=by
  rw [SI (Ce TH) bb,adN,show L+(b-L)=b by try?]
 rw?
 apply ie e4 (J4 g1) ?_
 apply lJ ?_
 refine i7 aZ Mx.at_ I.F.ab ?_
 refine ⟨La,rfl,⟨_,bS.of Mx.ea⟩,?_⟩
 refine d8 (xs:=vals (ss.drop L)) dm (λR U=>bS.of (U _ _ Mx.ea)) (by rw [aY,mH];try?) (λi ys _=>ys=vals (((ss.drop L).take i).filter (λy=>decide (xb.2.1<=y.2.1)))) rfl ?_ ?_
 ·rintro D i v ys R nQ N N0 bc hD eD U hv hy rfl kY kN
  obtain ⟨e,he,rfl⟩:=jw hv
  have hi:i<(ss.drop L).length:=(tP.mp he).1
  obtain ⟨xi,gi,⟨vi,ei,_⟩⟩:=dM (jb (Mx.row.up U)) (gW I.P.all) hi
  rw [he] at gi
  cases gi
  have me:mo (ss.drop L) i=e.2.1:=by unfold mo;rw [he];rfl
  have ts:=Oq (λy:En=>decide (xb.2.1<=y.2.1)) (ss.drop L) i e he
  have ajK:=U _ _ ap
  apply jB bc ?_
  cases hs:decide (xb.2.1<=e.2.1) with
  | true=>
    rw [hs,if_pos rfl] at ts
    have aj:=kO hs
    rw [show decide (mo ss b<=mo (ss.drop L) i)=true from jN (by rw [me,<- mb];exact aj)]
    apply cD ?_
    exact kY _ R 0#V (by rw [ts,<- gr])
  | false=>
    rw [hs,if_neg pJ,Ar] at ts
    have aj:=jF hs
    rw [show decide (mo ss b<=mo (ss.drop L) i)=false from mJ (by rw [me,<- mb];exact aj)]
    refine bO ?_
    exact kN R 0#V (by rw [ts])
 rintro D ys R hD eD U hy rfl
 rw [aY,qN,a7] at eD
 have U4:=Mx.up U
 have Wd:=Hs.trans U
 have nD:H D=none:=by
  cases g:H D with
  | none=>rfl
  | some o=>rw [Hs _ _ g] at hD;cases hD
 have ac:D≠p:=λz=>by rw [z,I.at_] at nD;cases nD
 have fl0:=I.F.len
 rw?
 refine yd aZ U4.at_ 0#u ?_
 have kd:Kp (λb=>b=p) R (upd R p (.ins az J (aD "above" (.ref D) fs))):=(Kp.of 0#V).upd rfl
 have Y:upd R p (.ins az J (aD "above" (.ref D) fs)) p=some (.ins az J (aD "above" (.ref D) fs)):=au
 have k6:Kp (λb=>b=p\/b=D) H (upd R p (.ins az J (aD "above" (.ref D) fs))):=(Kp.of Wd).upd (.inl rfl)
 have am:=kd _ _ ac eD
 have tp:∀{b:ah} {xs:0#n},R b=some 0#Z->upd R p (.ins az J (aD "above" (.ref D) fs)) b=some 0#Z:=λe=>kd _ _ (λz=>by rw [z,U4.at_] at e;cases e) e
 have Yo:=(U4.row).tv tp
 have ak:=((hx.up Wd).en.tv tp).sa
 have WS:=U4.WR.tv tp
 have aE:=U4.fbd.tv tp
 have aK:=(f1.Wf (s3.trans (s2.trans (s4.trans U)))).tv tp
 have aR:=tp (U _ _ a9)
 have aU:=tp (U _ _ ap)
 generalize upd R p (.ins az J (aD "above" (.ref D) fs))=H6 at *
 have F6:=I.F.YC (y:=D)
 have l6:=F6.len
 rw?
 apply i7 aZ Y F6.ab ?_
 apply i7 aZ Y F6.tw ?_
 have ldb:(ss.drop b).length=ss.length-b:=mH ..
 refine ⟨.bM,D,x,tw,ss.drop b,m,q,2*β,n,2*nb+1,rfl,am,jb Yo,gW I.P.all,ak,WS,by try?,by try?,by try?,λi hi=>by rw [vS];exact hm _ 0#u,.inl rfl,λz=>absurd z 0#u,λ_ ps S H7 s7 f7 _ av be=>?_⟩
 have sS:GF 0#W (2*β) ss.length b S:=WV (g:=none) (λ_ e=>by cases e) (λ_ i j _ _ z=>by try?) (gI _) av (by
  rcases be with z | ⟨pk,e,_⟩
  ·exact .inl z
  ·cases e)
 rw?
 have an:=s7 _ _ Y
 apply yd aZ an 0#u ?_
 apply yd aZ au (by rw [rH F6.g];try?) ?_
 apply i7 aZ au F6.Gs.Gu.ab ?_
 rw [tL]
 have k8:Kp (λb=>b=p\/b=D) H (upd H7 p (.ins az J 0#E)):=(k6.sm s7).upd (.inl rfl)
 have a8:upd H7 p (.ins az J 0#E) p=some (.ins az J 0#E):=au
 have al:Kp (λb=>b=p) H7 (upd H7 p (.ins az J 0#E)):=(Kp.of 0#V).upd rfl
 have ae:=al _ _ ac (s7 _ _ am)
 have bo:∀{b:ah} {xs:0#n},H6 b=some 0#Z->upd H7 p (.ins az J 0#E) b=some 0#Z:=λe=>al _ _ (λz=>by rw [z,Y] at e;cases e) (s7 _ _ e)
 have f8:ck (upd H7 p (.ins az J 0#E)) ps S (3*n+(2*nb+1)+3):=f7.tv λ{b xs} e=>al _ _ (λz=>by rw [z,an] at e;cases e) e
 generalize upd H7 p (.ins az J 0#E)=H8 at *
 have F8:=F6.Gs (y:=.ref ps) |>.Gu (y:=.bM)
 apply ⟨.inl ⟨rfl,_,bS.of ae⟩,?_⟩
 refine gB ae (by rw [aY];exact bg 0#u) ?_
 have k9:Kp (λb=>b=p\/b=D) H (upd H8 D (.lst (vals (ss.drop b)++[.ref x]))):=k8.upd (.inr rfl)
 have ag:upd H8 D (.lst (vals (ss.drop b)++[.ref x])) p=some (.ins az J 0#E):=by rw [aF (jx ac)];exact a8
 have af:upd H8 D (.lst (vals (ss.drop b)++[.ref x])) D=some (.lst (vals ((ss++[(x,m,some q)]).drop b))):=by
  rw [au,V3 0#u,<- gr]
 have aw:∀{b':ah} {xs:0#n},H8 b'=some 0#Z->upd H8 D (.lst (vals (ss.drop b)++[.ref x])) b'=some 0#Z:=λe=>by rw [aF (λz=>by rw [z,ae] at e;cases e)];exact e
 generalize upd H8 D (.lst (vals (ss.drop b)++[.ref x]))=H9 at *
 rw?
 refine aG (mk:=.lst) 0#w λM um uU AX Ho=>?_
 have nM:H M=none:=by
  cases g:H M with
  | none=>rfl
  | some o=>
    by_cases z:M=p
    ·rw [z,ag] at AX;cases AX
    ·by_cases z2:M=D
     ·rw [z2,af] at AX;cases AX
     ·rw [k9 _ _ (λu=>by rcases u with u | u;exact z u;exact z2 u) g] at AX;cases AX
 have bm:M≠p:=λz=>by rw [z,I.at_] at nM;cases nM
 have bj:D≠M:=λz=>by rw [<- z,af] at AX;cases AX
 rw?
 have l8:=F8.len
 refine yd aZ (uU _ _ ag) 0#u ?_
 have ax:=F8.YD (y:=M)
 have bi:Kp (λb=>b=p\/b=D) H (upd um p (.ins az J (aD "below" (.ref M) 0#E))):=(k9.sm uU).upd (.inl rfl)
 have aQ:upd um p (.ins az J (aD "below" (.ref M) 0#E)) p=some (.ins az J (aD "below" (.ref M) 0#E)):=au
 have E2:Kp (λb=>b=p) um (upd um p (.ins az J (aD "below" (.ref M) 0#E))):=(Kp.of 0#V).upd rfl
 have aL:=E2 _ _ ac (uU _ _ af)
 have aN:=E2 _ _ bm Ho
 have YY:∀{b:ah} {xs:0#n},H9 b=some 0#Z->upd um p (.ins az J (aD "below" (.ref M) 0#E)) b=some 0#Z:=λe=>E2 _ _ (λz=>by rw [z,ag] at e;cases e) (uU _ _ e)
 generalize upd um p (.ins az J (aD "below" (.ref M) 0#E))=V4 at *
 have Og:∀{b:ah} {xs:0#n},H6 b=some 0#Z->V4 b=some 0#Z:=λe=>YY (aw (bo e))
 have ag5:=Og aR
 have ag6:=Og aU
 obtain ⟨vx,a',_⟩:=id ak
 have ag7:=Og a'
 rw?
 apply aG (mk:=.tup) 0#w λth H12 bn n12 a5=>?_
 refine aG (mk:=.tup) 0#w λr ay JC n13 a6=>?_
 have Rf:=bn.trans JC
 refine k r ln th M D fo a b (some S) ay (λb' o e=>?_) ⟨gG,ad,lo,hi,b1,by grind,by try?,c2,by grind,λi hi hl z=>fb i hi hl (by grind),by try?⟩ a6 ((aK.tv Og).Wf Rf) (JC _ _ a5) ⟨J,bd,tw,_,.ref ps,.bM,Bd0.up ⟨aQ,ax,?_,aL,jx bj,?_,aE.tv Og,WS.tv Og,⟨ps,rfl,(f8.tv λe=>YY (aw e))⟩,rfl,?_⟩ Rf⟩ nM nD
 ·obtain ⟨n1,n2,n3,e⟩:=Ga e
  refine Rf _ _ (bi _ _ (λz=>?_) e)
  rcases z with z | z
  ·exact n1 z
  ·rw [z,nD] at e;cases e
 ·rw [V3 (gI _),adx]
  exact aN
 ·exact (Yo.tv Og).snoc (ak.en.tv Og)
 ·refine ⟨qT I.P.all,D0 TH hm,by rw [iZ];try?,by rw [iZ];try?,λ_=>by rw [iZ];try?,sS,λi j hi hij _ hj=>?_,λ_ _ _ e=>(by cases e),λz=>absurd z 0#u⟩
  rw [iZ] at hj
  try?
def Hj.ahP (h:Hj ss fl ro β g s) (h0:ss.length=0):g=none/\s=none:=by
 have go:=h.go
 have u:=h.so
 constructor
 ·cases g with
  | none=>rfl
  | some G=>
    obtain ⟨q,p,_,_,_,z,_⟩:=go.2
    simp?
 ·cases s with
  | none=>rfl
  | some S=>
    obtain ⟨q,p,_,_,_,z,_⟩:=u.2
    simp?
def Pp (ea:H La=some (.lst (vals (ss.drop ro)))) (row:Row H ss n) (hx:jl H x m q n) (WR:ck H tw (2*β) (2*nb+1)) (h9:ss.length<=900) (hn:n<=1500) (hnb:2*nb+1<=3000) (hm:∀i,i<ss.length->mo ss i<m) (hG:OQ H gv (3*n+(2*nb+1)+3) g) (P:Hj ss fl ro β g s)
 (k:∀WX g1 H1,ao H H1->OQ H1 WX (3*n+(2*nb+1)+3) g1->(∀G,g1=some G->GF 0#W (2*β) fl ro G)->(g1=none↔ss.length=0)->Q WX H1):Af [gv,.ref La,.ref x,.ref tw] H Q E:=by
 have ld:(ss.drop ro).length=ss.length-ro:=mH ..
 have lt:=P.lt
 refine ⟨gv,La,x,tw,ss.drop ro,m,q,2*β,n,2*nb+1,rfl,ea,jb row,gW P.all,hx,WR,by try?,hn,hnb,λi hi=>by rw [vS];exact hm _ 0#u,?_,λz e H1 L=>k .bM none H1 L rfl (λ_ e=>(by cases e)) ⟨λ_=>acF λU=>absurd (lt U).2 0#u,λ_=>rfl⟩,λz S N H1 L O R A J=>k _ (some N) H1 L ⟨S,rfl,O⟩ (λG e=>?_) ⟨λe=>(by cases e),λe=>absurd z 0#u⟩⟩
 ·cases g with
  | none=>exact .inl hG
  | some G=>
    obtain ⟨D,e,v⟩:=hG
    obtain ⟨⟨_,_,_,_,_,_,z,_⟩,_⟩:=P.hiG rfl
    exact .inr ⟨by have:=(lt 0#u).2;try?,D,G,e,v⟩
 ·cases e
  refine WV (g:=g) (λM e=>?_) (λe=>?_) P.hfl A ?_
  ·rw [e] at hG
   obtain ⟨D,B,v⟩:=hG
   exact ⟨(P.hiG e).1,R D M B v⟩
  ·have go:=P.go
   rw [e] at go
   exact go
  ·rcases J with z | ⟨D,e,v⟩
   ·exact .inl z
   ·refine .inr ?_
    cases g with
    | none=>rw [show gv=.bM from hG] at e;cases e
    | some M=>
      obtain ⟨pk',B,I⟩:=hG
      rw [e] at B
      cases B
      rw [Jx v I]
def VP (ea:H Lb=some (.lst (vals (ss.drop fl)))) (row:Row H ss n) (hx:jl H x m q n) (WR:ck H tw (2*β) (2*nb+1)) (h9:ss.length<=900) (hn:n<=1500) (hnb:2*nb+1<=3000) (hm:∀i,i<ss.length->mo ss i<m) (hG:OQ H sv (3*n+(2*nb+1)+3) s) (P:Hj ss fl ro β g s)
 (k:∀sv1 g1 H1,ao H H1->OQ H1 sv1 (3*n+(2*nb+1)+3) g1->(∀G,g1=some G->SF 0#W (2*β) fl ro G)->(g1=none↔ss.length=0)->Q sv1 H1):Eb [sv,.ref Lb,.ref x,.ref tw] H Q E:=by
 have ld:(ss.drop fl).length=ss.length-fl:=mH ..
 have lt:=P.lt
 refine ⟨sv,Lb,x,tw,ss.drop fl,m,q,2*β,n,2*nb+1,rfl,ea,jb row,gW P.all,hx,WR,by try?,hn,hnb,λi hi=>by rw [vS];exact hm _ 0#u,?_,λz e H1 L=>k .bM none H1 L rfl (λ_ e=>(by cases e)) ⟨λ_=>acF λU=>absurd (lt U).1 0#u,λ_=>rfl⟩,λz S N H1 L O R A J=>k _ (some N) H1 L ⟨S,rfl,O⟩ (λG e=>?_) ⟨λe=>(by cases e),λe=>absurd z 0#u⟩⟩
 ·cases s with
  | none=>exact .inl hG
  | some G=>
    obtain ⟨D,e,v⟩:=hG
    obtain ⟨⟨_,_,_,_,_,_,z,_⟩,_⟩:=P.loS rfl
    exact .inr ⟨by have:=(lt 0#u).1;try?,D,G,e,v⟩
 ·cases e
  refine YE (s:=s) (λM e=>?_) (λe=>?_) P.O0 A ?_
  ·rw [e] at hG
   obtain ⟨D,B,v⟩:=hG
   exact ⟨(P.loS e).1,R D M B v⟩
  ·have go:=P.so
   rw [e] at go
   exact go
  ·rcases J with z | ⟨D,e,v⟩
   ·exact .inl z
   ·refine .inr ?_
    cases s with
    | none=>rw [show sv=.bM from hG] at e;cases e
    | some M=>
      obtain ⟨pk',B,I⟩:=hG
      rw [e] at B
      cases B
      rw [Jx v I]
def tu:dR 2 [aB,bF,jh,ji] uW:=0#t
def KR (F:i9 K "take" "Bend.take" uW f fd) (aZ:kW K mg az) (c6:aez P w K mg base) (c7:aeA P w K mg base) (nW:0#c 2 "is_steeper" [aT,aI] BY)
 (jz:Dm P w K mg base 6 az "ended_in_cap" [aB,bF] (YG az)) (jA:Dm P w K mg base 6 az "ended_in_cup" [aB,bF] (YH az)):0#b 7 f fd [aB,bF] (Me az):=by
 refine F.fq tu 0#a
 obtain ⟨p,U,La,x,ss,M,R,m,q,β,n,nb,g,s',rfl,⟨N,bd,tw,fs,gv,sv,v⟩,hx,hm,m5,h1,hn,aj,lI,kN,kC,kU⟩:=h
 have fl0:=v.F.len
 have ai:=v.P.hfl
 have O0:=v.P.O0
 have lda:(ss.drop R).length=ss.length-R:=mH ..
 have ldb:(ss.drop M).length=ss.length-M:=mH ..
 have Y:U≠p:=λz=>by have:=v.eb;rw [z,v.at_] at this;cases this
 have ac:La≠p:=λz=>by have:=v.ea;rw [z,v.at_] at this;cases this
  -- the sample is taken
 have stay:∀(J L:V) (g' s2:Option Rat) (D:Hp),ao H D->OQ D J (3*n+(2*nb+1)+3) g'->OQ D L (3*n+(2*nb+1)+3) s2->Hj 0#W M R β g' s2->El ss β M R g s' m q ->
  Q .bM (upd (upd (upd (upd D p (.ins az N (aD "gentlest" J fs))) p (.ins az N (aD "steepest" L (aD "gentlest" J fs)))) U (.lst (vals (ss.drop M)++[.ref x]))) La (.lst (vals (ss.drop R)++[.ref x]))):=by
  intro J L g' s2 D I og os hP hN
  rw [tL]
  have B:=v.up I
  have kk:Kp (λb=>b=p\/b=U\/b=La) D (upd (upd (upd D p (.ins az N (aD "steepest" L (aD "gentlest" J fs)))) U (.lst (vals (ss.drop M)++[.ref x]))) La (.lst (vals (ss.drop R)++[.ref x]))):=((((Kp.of 0#V).upd (.inl rfl)).upd (.inr (.inl rfl))).upd (.inr (.inr rfl)))
  have tp:∀{b:ah} {xs:0#n},D b=some 0#Z->upd (upd (upd D p (.ins az N (aD "steepest" L (aD "gentlest" J fs)))) U (.lst (vals (ss.drop M)++[.ref x]))) La (.lst (vals (ss.drop R)++[.ref x])) b=some 0#Z:=λe=>kk _ _ (λz=>by
   rcases z with z | z | z
   ·rw [z,B.at_] at e;cases e
   ·rw [z,B.eb] at e;cases e
   ·rw [z,B.ea] at e;cases e) e
  refine kN g' s2 _ (λb o e=>?_) hN ⟨N,bd,tw,_,J,L,?_,v.F.Gs.Gu,?_,?_,v.ne,?_,B.fbd.tv tp,B.WR.tv tp,og.tv tp,os.tv tp,hP⟩
  ·obtain ⟨n1,n2,n3,e⟩:=Ga e
   exact kk _ _ (λz=>by rcases z with z | z | z;exact n1 z;exact n2 z;exact n3 z) (I _ _ e)
  ·rw [aF (jx ac),aF (jx Y),au]
  ·rw [aF v.ne,au,V3 ai,<- gr]
  ·rw [au,V3 O0,<- gr]
  ·exact (B.row.tv tp).snoc ((hx.up I).en.tv tp)
 apply bI ⟨_,(aq (aV 2 tu.nd (ko c6 0#G rfl (Jd.a4 0#S 0#S 0#H 0#S) (he:=(by rfl)) (hpl:=(cO (by rfl) (cO bH (cO (by rfl) bZ)))))) (aq (aV 3 tu.nd (ko c7 0#G rfl (Jd.a4 0#S 0#S 0#H 0#S) (he:=(by rfl)) (hpl:=(cO (by rfl) (cO bH (cO (by rfl) bZ)))))) (aq (bK (gw (cg nW hr 0#S 0#X)) (aA (aW (Jd.wQ jz aZ.cl 0#G 0#A (cP 0#H) (he:=bH) (hpl:=bZ)))) bL) (aq (bK (gw (cg nW hr 0#P 0#S)) (aA (aW (Jd.wQ jA aZ.cl 0#G 0#A (cP 0#H) (he:=bH) (hpl:=bZ)))) bL) (aq (gA K 0#A 0#P) (aq (gA K 0#A 0#X) (aq (dB (d9 K 0#S 0#H) (hs:=cU)) (aq (dB (d9 K 0#S 0#H) (hs:=cU)) (aA (aW eF)))))))))),?_⟩
 apply i7 aZ v.at_ v.F.g ?_
 apply i7 aZ v.at_ v.F.ab ?_
 apply i7 aZ v.at_ v.F.tw ?_
 refine Pp v.ea v.row hx v.WR m5 hn 0#u hm v.G v.P λWX g1 H1 s1 o1 gf z1=>?_
 have EK:=v.up s1
 rw?
 apply i7 aZ EK.at_ v.F.s ?_
 apply i7 aZ EK.at_ v.F.bl ?_
 apply i7 aZ EK.at_ v.F.tw ?_
 refine VP EK.eb EK.row (hx.up s1) EK.WR m5 hn 0#u hm EK.S v.P λO s3 D s2 o2 sf z2=>?_
 have I:=s1.trans s2
 have B:=v.up I
 have ad:OQ D WX _ g1:=o1.tv λe=>s2 _ _ e
 have jJ:=D0 (x:=x) (q:=q) v.P.TH hm
 rw?
 apply i7 aZ B.at_ v.F.g ?_
 apply ⟨gv,O,g,s3,_,_,rfl,B.G,o2,by try?,λr ak=>?_⟩
 refine cJ 0#K 0#K
 ·obtain ⟨G,S,rfl,e2,lt⟩:=ak.mp c
  rw?
  apply F3 B.at_ (v.F.AV "ended_in_cap") ?_
  refine ⟨p,U,La,x,ss,M,R,m,q,β,G,n,nb,s',rfl,⟨N,bd,tw,fs,gv,sv,B⟩,hx.up I,hm,m5,h1,hn,aj,lI,(J8 jJ (sf S e2) (v.P.hiG rfl).2 O0).mp lt,λr ln th B7 B6 fo a b ae H' k1 k2 k3 k4 k5 k6 k7 k8=>?_⟩
  refine kC r ln th B7 B6 G fo a b ae H' (λb' o e=>k1 _ _ ?_) rfl k2 k3 k4 k5 k6 (I.free k7) (I.free k8)
  obtain ⟨n1,n2,n3,e⟩:=Ga e
  rw [ye n1 n2 n3]
  exact I _ _ e
 have nc:¬ ∃G S,g=some G/\s3=some S/\S<G:=λz=>c (ak.mpr z)
 rw?
 apply i7 aZ B.at_ v.F.s ?_
 apply ⟨WX,sv,g1,s',_,_,rfl,ad,B.S,by try?,λr2 al=>?_⟩
 refine cJ (λc2=>?_) (λc2=>?_)
 ·obtain ⟨G,S,e1,rfl,lt⟩:=al.mp c2
  have am:¬ ∃G,g=some G/\∃i,M<=i/\i<ss.length/\q-G*(m:Rat)+2*β<fN ss G i:=λ⟨G,e,i,z⟩=>by
   cases h3:s3 with
   | none=>
     have:=z2.mp h3
     try?
   | some S1=>exact nc ⟨G,S1,e,h3,(J8 jJ (sf S1 h3) (v.P.hiG e).2 O0).mpr ⟨i,z⟩⟩
  rw?
  apply F3 B.at_ (v.F.AV "ended_in_cup") ?_
  refine ⟨p,U,La,x,ss,M,R,m,q,β,S,n,nb,g,rfl,⟨N,bd,tw,fs,gv,sv,B⟩,hx.up I,hm,m5,h1,hn,aj,lI,(Sy jJ (gf G e1) (v.P.loS rfl).2 ai).mp lt,λr ln th B7 B6 fo a b ae H' k1 k2 k3 k4 k5 k6 k7 k8=>?_⟩
  refine kU r ln th B7 B6 S fo a b ae H' (λb' o e=>k1 _ _ ?_) rfl am k2 k3 k4 k5 k6 (I.free k7) (I.free k8)
  obtain ⟨n1,n2,n3,e⟩:=Ga e
  rw [ye n1 n2 n3]
  exact I _ _ e
 rw?
 apply yd aZ B.at_ 0#u ?_
 apply yd aZ au (by rw [rH v.F.g];try?) ?_
 apply i7 aZ au v.F.Gs.Gu.bl ?_
 have ag:upd (upd D p (.ins az N (aD "gentlest" WX fs))) p (.ins az N (aD "steepest" O (aD "gentlest" WX fs))) U=some (.lst (vals (ss.drop M))):=by
  rw [aF Y,aF Y]
  exact B.eb
 apply ⟨.inl ⟨rfl,_,bS.of ag⟩,?_⟩
 apply gB ag (by rw [aY];exact bg 0#u) ?_
 apply i7 aZ (by rw [aF (jx Y)];exact au) v.F.Gs.Gu.ab ?_
 have af:upd (upd (upd D p (.ins az N (aD "gentlest" WX fs))) p (.ins az N (aD "steepest" O (aD "gentlest" WX fs)))) U (.lst (vals (ss.drop M)++[.ref x])) La=some (.lst (vals (ss.drop R))):=by
  rw [aF (jx v.ne),aF ac,aF ac]
  exact B.ea
 apply ⟨.inl ⟨rfl,_,bS.of af⟩,?_⟩
 apply gB af (by rw [aY];exact bg 0#u) ?_
 cases g1 with
 | none=>
   have h0:=z1.mp rfl
   obtain ⟨rfl,rfl⟩:=v.P.ahP h0
   obtain rfl:=z2.mpr h0
   refine stay WX O none none D I ad o2 ?_ ⟨λ_ e=>(by cases e),λ_ e=>(by cases e)⟩
   refine ⟨qT v.P.all,jJ,by rw [iZ];try?,by rw [iZ];try?,λ_=>by rw [iZ];try?,λi j _ an _ hj=>?_,λi j _ an _ hj=>?_,λ_ _ e=>(by cases e),v.P.df⟩
   ·rw [iZ] at hj
    try?
   ·rw [iZ] at hj
    try?
 | some G1=>
   cases s3 with
   | none=>cases z1.mpr (z2.mp rfl)
   | some S1=>
     obtain ⟨hP,hN⟩:=v.P.next lI hm (gf G1 rfl) (sf S1 rfl) nc λz=>c2 (al.mpr z)
     exact stay WX O (some G1) (some S1) D I ad o2 hP hN
def BH:dR 1 [aB] ni:=0#t
def Bc (F:i9 K "line_now" "Bend.line_now" ni f fd) (T:Txt mg) (aZ:kW K mg az) (lz:0#c 5 "line_by" [gK,bF] Ah) (cV:Dm P w K mg base 5 az "line_of" [aB,gK] (vt az)):0#b 6 f fd [aB] (YJ az):=by
 refine F.fq BH 0#a
 obtain ⟨p,Lb,La,B,D,ro,β,n,nb,g,s',rfl,⟨dx,bd,tw,fs,gv,sv,v⟩,m5,h1,hn,L,k0,Y⟩:=h
 have ld:(B.drop D).length=B.length-D:=mH ..
 apply bI ⟨_,(aq (bK (bx cN (ir K T.kK 0#S) aH 1#a) (aA (aW eF)) bL) (aq (bK (bx jr 0#S eF 1#a) (aA (aW (Jd.wQ cV aZ.cl 0#G 0#A (cP 0#S) (he:=(by rfl)) (hpl:=bZ)))) bL) (aq (bK (bx jr 0#S eF 1#a) (aA (aW (Jd.wQ cV aZ.cl 0#G 0#A (cP 0#S) (he:=(by rfl)) (hpl:=bZ)))) bL) (aA (aW (cg lz hr (b9 (bN aH aH)) (Jd.iL K 0#S))))))),?_⟩
 apply i7 aZ v.at_ v.F.bl ?_
 refine gR (.inl (bS.of v.eb)) ?_
 rw [aY]
 rw?
 refine cJ 0#K 0#K
 ·have c':=kO c
  rw?
  refine k0 (Zg.mp ?_)
  by_cases z:0<B.length
  ·have:=(v.P.lt z).1
   try?
  ·try?
 ·have c':=jF (gH.mpr c)
  have I:0<B.length:=by try?
  obtain ⟨U,O0⟩:=v.P.lt I
  rw?
  refine i7 aZ v.at_ v.F.g ?_
  cases g with
  | some G=>
    obtain ⟨pg,rfl,fg⟩:=id v.G
    rw?
    apply ⟨rfl,?_⟩
    apply cD ?_
    apply F3 v.at_ (v.F.AV "line_of") ?_
    apply i7 aZ v.at_ v.F.g ?_
    refine ⟨p,Lb,La,pg,B,D,ro,β,G,n,nb,some G,s',rfl,⟨dx,bd,tw,fs,_,sv,v⟩,fg,I,m5,hn,L,λZ R J s1 O lo N=>?_⟩
    exact Y I Z G R J s1 O (.inl ⟨.inl rfl,lo,N⟩)
  | none=>
    obtain rfl:gv=.bM:=v.G
    rw?
    apply ⟨rfl,?_⟩
    apply bO ?_
    refine i7 aZ v.at_ v.F.s ?_
    cases s' with
    | some S=>
      obtain ⟨pg,rfl,fg⟩:=id v.S
      rw?
      apply ⟨rfl,?_⟩
      apply cD ?_
      apply F3 v.at_ (v.F.AV "line_of") ?_
      apply i7 aZ v.at_ v.F.s ?_
      refine ⟨p,Lb,La,pg,B,D,ro,β,S,n,nb,none,some S,rfl,⟨dx,bd,tw,fs,_,_,v⟩,fg,I,m5,hn,L,λZ R J s1 O lo N=>?_⟩
      exact Y I Z S R J s1 O (.inl ⟨.inr ⟨rfl,rfl⟩,lo,N⟩)
    | none=>
      obtain rfl:sv=.bM:=v.S
      rw?
      apply ⟨rfl,?_⟩
      apply bO ?_
      refine aG (mk:=.tup) 0#w λz1 J s1 n1 e1=>?_
      have M:=v.up s1
      obtain ⟨xa,ga,fa⟩:=dM M.row v.P.all U
      rw?
      apply i7 aZ M.at_ v.F.bl ?_
      apply ie M.eb (DL (x:=xa) (by rw [yH,aec];exact ga)) ?_
      have f0:c8 J z1 0 1:=⟨0,1,e1,⟨by decide,by decide,by grind⟩,by decide,by decide⟩
      refine ⟨z1,xa.1,0,_,_,1,n,rfl,f0,fa,h1,by try?,λz r' H2 s2 e2 f2=>?_⟩
      refine Y I z 0 (wo B D) H2 1#h ⟨z1,r',e2,(f0.up s2).mono 0#u,?_⟩ (.inr 0#T)
      have e3:wo B D-0*(mo B D:Rat)=wo B D:=by grind
      rw [e3] at f2
      exact f2.mono 0#u
def kT.fresh (h:kT C H p Lb La [] 0 0 β n nb none none):kT C H p Lb La [] 0 0 β n' nb none none:=
 let ⟨dx,bd,tw,fs,gv,sv,h⟩:=h;⟨dx,bd,tw,fs,gv,sv,h.at_,h.F,h.eb,h.ea,h.ne,λx hx=>absurd hx 0#w,h.fbd,h.WR,h.G,h.S,h.P⟩
def ahE (s:ao H0 H) (np:H0 p=none) (nb:H0 Lb=none) (na:H0 La=none) (k:ao (Q9 p Lb La H) H'):ao H0 H':=λb o e=>k _ _ (by
 rw [ye (bT e np) (bT e nb) (bT e na)]
 exact s _ _ e)
def Hj.two (h:Hj ss fl ro β g s):(ss.length<2↔g=none/\s=none):=by
 constructor
 ·intro B
  have go:=h.go
  have u:=h.so
  constructor
  ·cases g with
   | none=>rfl
   | some G=>
     obtain ⟨q,p,_,_,_,z,_⟩:=go.2
     simp?
  ·cases s with
   | none=>rfl
   | some S=>
     obtain ⟨q,p,_,_,_,z,_⟩:=u.2
     simp?
 ·rintro ⟨rfl,rfl⟩
  refine Nat.lt_of_not_le λB=>?_
  obtain ⟨l1,l2⟩:=h.lt 0#z
  have v:=h.df
  have go:∀q p,ro<=q->q<p->fl<=p->¬p<ss.length:=h.go
  have u:∀q p,fl<=q->q<p->ro<=p->¬p<ss.length:=h.so
  have A:=go ro (ss.length-1) 0#z
  have D:=u fl (ss.length-1) 0#z
  by_cases e:ro<ss.length-1
  ·exact A e 0#z 0#z
  ·by_cases e2:fl<ss.length-1
   ·exact D e2 0#z 0#z
   ·have:=v 0#z
    simp?
inductive Tr (es:List En) (β:Rat):Nat->Nat->Nat->List (Rat×Rat)->List (Bool×Nat×Nat×Nat)->Prop where
 | nil:Tr es β 0 0 0 [] []
 | stay {k fl ro:Nat} {ls:List (Rat×Rat)} {ts:List (Bool×Nat×Nat×Nat)} {g s g' s':Option Rat} (h:Tr es β k fl ro ls ts) (hk:k<es.length) (hP:Hj (es.take k) fl ro β g s) (hP':Hj (es.take (k+1)) fl ro β g' s') (hN:El (es.take k) β fl ro g s (mo es k) (wo es k)):Tr es β (k+1) fl ro ls ts
 | cap {k fl ro a b:Nat} {ls:List (Rat×Rat)} {ts:List (Bool×Nat×Nat×Nat)} {s:Option Rat} {G f:Rat} (h:Tr es β k fl ro ls ts) (hk:k<es.length) (hP:Hj (es.take k) fl ro β (some G) s) (hC:Ef (es.take k) β fl ro (mo es k) (wo es k) G f a b):Tr es β (k+1) b k (ls++[(G,f)]) (ts++[(true,a,b,k)])
 | cup {k fl ro a b:Nat} {ls:List (Rat×Rat)} {ts:List (Bool×Nat×Nat×Nat)} {g:Option Rat} {S f:Rat} (h:Tr es β k fl ro ls ts) (hk:k<es.length) (hP:Hj (es.take k) fl ro β g (some S)) (hn:¬ ∃G,g=some G/\∃i,fl<=i/\i<(es.take k).length/\wo es k-G*(mo es k:Rat)+2*β<fN (es.take k) G i) (hC:Eg (es.take k) β fl ro (mo es k) (wo es k) S f a b):Tr es β (k+1) k b (ls++[(S,f)]) (ts++[(false,a,b,k)])
abbrev Ln:=ah×Rat×Rat
noncomputable def Dd (ls:List Ln):0#n:=ls.map λx=>V.ref x.1
def Hv (H:Hp) (ls:List Ln) (n:Nat):Prop:=∀x∈ls,j8 H x.1 x.2.1 x.2.2 n
abbrev ThJ:=ah×(Bool×Nat×Nat×Nat)
def abY (H:Hp) (es:0#h) (x:ThJ):Prop:=H x.1=some (.tup [.int (mo es x.2.2.1),.int (mo es x.2.2.2.1),.int (mo es x.2.2.2.2)])
def Hv.tv (t:0#p) (h:Hv H ls n):Hv H' ls n:=λx hx=>(h x hx).tv t
def Hv.snoc (h:Hv H ls n) (hx:j8 H x.1 x.2.1 x.2.2 n):Hv H (ls++[x]) n:=λy hy=>by
 rcases i8.mp hy with z | z
 ·exact h y z
 ·obtain rfl:y=x:=by simpa using z
  exact hx
def tK (e:H L=some (.lst ys))  (h:H b=some 0#Z):upd H L (.lst zs) b=some 0#Z:=by
 rw [aF (λq=>by rw [q,e] at h;cases h)]
 exact h
def kT.app (h:kT C H p Lb La ss fl ro β n nb g s) (e:H L=some (.lst ys)) (n1:L≠Lb) (n2:L≠La):kT C (upd H L (.lst zs)) p Lb La ss fl ro β n nb g s:=by
 obtain ⟨u,bd,tw,fs,v,A,h⟩:=h
 exact ⟨u,bd,tw,fs,v,A,h.mv (λ{b xs} z=>tK e z) (aF (λq=>by have:=h.at_;rw [q,e] at this;cases this)) (aF (jx n1)) (aF (jx n2))⟩
def kT.ats (h:kT C H p Lb La ss fl ro β n nb g s):(∃dx fs,H p=some (.ins C dx fs)/\(fs.lookup ("take":Str)=none/\fs.lookup ("line_now":Str)=none))/\(∃ys,H Lb=some (.lst ys))/\(∃ys,H La=some (.lst ys))/\Hj ss fl ro β g s:=
 let ⟨_,_,_,_,_,_,h⟩:=h;⟨⟨_,_,h.at_,h.F.AV "take",h.F.AV "line_now"⟩,⟨_,h.eb⟩,⟨_,h.ea⟩,h.P⟩
def take_snoc (hS:nU es) (gx:es[j]?=some x):es.take (j+1)=es.take j++[(x.1,mo es j,some (wo es j))]:=by
 have v:x=(x.1,mo es j,some (wo es j)):=by
  have:=hS x (g8 gx)
  obtain ⟨ax,mx,u⟩:=x
  unfold mo wo
  rw [gx]
  cases u with
  | none=>cases this
  | some q=>rfl
 rw [<- v,adO,gx]
 rfl
def DS (h:i<j):mo (es.take j) i=mo es i:=by unfold mo;rw [Uk,if_pos h]
def abP (h:i<j):wo (es.take j) i=wo es i:=by unfold wo;rw [Uk,if_pos h]
def rz (h:i<j):fN (es.take j) T i=fN es T i:=by unfold fN;rw [DS h,abP h]
inductive L3 (C:ah) (vs:List V) (H:Hp) (Q:VK) (E_:XK):Prop where
 | mk (l pb:ah) (es:0#h) (β:Rat) (n nb:Nat):vs=[.ref l,.ref pb]->H l=some 0#R->Row H es n->nU es->rising es->0<es.length->es.length<=800->c8 H pb β nb->0<=β->1<=n->n<=1500->(5*n+4*nb<=7900/\nb<=1000)->(∀(y Ll Lt:ah) (ls:List Ln) (Hu:List ThJ) (ks:List (Rat×Rat)) (fl ro:Nat) (g s:Option Rat) (T f:Rat) (H':Hp),ao H H'->H' y=some (.tup [.ref Ll,.ref Lt])->H Ll=none->H Lt=none->H' Ll=some (.lst (Dd ls))->Hv H' ls (5*n+3*nb+7)->ls.map (·.2)=ks++[(T,f)]->H' Lt=some (.lst (Hu.map λx=>V.ref x.1))->(∀x∈Hu,abY H' es x)->Tr es β es.length fl ro ks (Hu.map (·.2))->Hj es fl ro β g s->Sn es β fl g s T f->ks.length<=es.length->Hu.length<=es.length->Q (.ref y) H')->L3 C vs H Q E_
def aeF (ss:0#h) (β:Rat) (fl ro:Nat) (g s:Option Rat) (m:Int) (q G f:Rat) (a b:Nat) (c:Bool) (fl' ro':Nat):Prop:=(c=true/\g=some G/\Ef ss β fl ro m q G f a b/\fl'=b/\ro'=ss.length)\/(c=false/\s=some G/\(¬ ∃G,g=some G/\∃i,fl<=i/\i<ss.length/\q-G*(m:Rat)+2*β<fN ss G i)/\Eg ss β fl ro m q G f a b/\fl'=ss.length/\ro'=b)
def abM (hB:kT C H p Lb La ss fl ro β n nb g s) (fx:jl H x m q n) (hm:∀i,i<ss.length->mo ss i<m) (h9:ss.length<=900) (h1:1<=n) (hn:n<=1500) (hnb:5*n+4*nb<=7900/\nb<=1000) (lI:0<=β)
 (k0:∀(g' s':Option Rat) (H':Hp),ao (Q9 p Lb La H) H'->El ss β fl ro g s m q->kT C H' p Lb La 0#W fl ro β n nb g' s'->Q .bM H')
 (k1:∀(r ln th B7 B6:ah) (G f:Rat) (a b:Nat) (c:Bool) (fl' ro':Nat) (g' s':Option Rat) (H':Hp),ao (Q9 p Lb La H) H'->aeF ss β fl ro g s m q G f a b c fl' ro'->H' r=some (.tup [.ref ln,.ref th])->j8 H' ln G f (5*n+3*nb+7)->H' th=some (.tup [.int (mo ss a),.int (mo ss b),.int m])->kT C H' p B7 B6 0#W fl' ro' β n nb g' s'->H B7=none->H B6=none->Q (.ref r) H'):Me C [.ref p,.ref x] H Q E0:=
 ⟨p,Lb,La,x,ss,fl,ro,m,q,β,n,nb,g,s,rfl,hB,fx,hm,h9,h1,hn,hnb,lI,k0,λr ln th B7 B6 G f a b s' H' ks e hC=>k1 r ln th B7 B6 G f a b true b ss.length none s' H' ks (.inl ⟨rfl,e,hC,rfl,rfl⟩),λr ln th B7 B6 S f a b g' H' ks e hn hC=>k1 r ln th B7 B6 S f a b false ss.length b g' none H' ks (.inr ⟨rfl,e,hn,hC,rfl,rfl⟩)⟩
def j5:dR 2 ["run",aJ,"bend","links","threes",bF,"ended"] yr:=0#t
def NV (F:fU K "links_of" yr f fd) (T:Txt mg) (aZ:kW K mg az) (O2:Dk P w K mg base 6 "Bend" az [aB,aJ] (D7 az)) (uq:Dm P w K mg base 7 az "take" [aB,bF] (Me az)) (mR:Dm P w K mg base 6 az "line_now" [aB] (YJ az)):0#b 8 f fd ["run",aJ] (L3 az):=by
 refine F.fq j5 0#a
 obtain ⟨l,pb,es,β,n,nb,rfl,hl,hR,hS,jJ,h0,akQ,hb,lI,h1,hn,aK,k⟩:=h
 apply bI ⟨_,(aq (aV 2 j5.nd (Jd.Tn O2 0#G rfl (cP 0#H) (he:=bH) (hpl:=bZ))) (aq (aV 3 j5.nd (fM gT)) (aq (aV 4 j5.nd (fM gT)) (aq (iV j9 rfl (gQ K 0#A) (cG (i:=5) j5.nd rfl 0#D) (aq (aV 6 j5.nd (Jd.wQ uq aZ.cl 0#G 0#P (cP (aa 5)) (he:=bH) (hpl:=bZ))) (aA (bK (bx jr (aa 6) eF 1#a) (aq (dB (d9 K 0#X (aO K (aa 6))) (hs:=cU)) (aA (dB (d9 K (aa 4) (aO K (aa 6))) (hs:=cU)))) bL)))) (aq (dB (d9 K 0#X (rq mR aZ.cl 0#G 0#P)) (hs:=cU)) (aA (aW (b9 (bN 0#X (aa 4)))))))))),?_⟩
 intro p dx np bA ak0
 have bm:upd (upd H dx (.own p)) p (.ins az dx []) p=some (.ins az dx []):=au
 have s7:ao H (upd (upd H dx (.own p)) p (.ins az dx [])):=λb' o e=>by
  rw [aF (bT e np),aF (bT e bA)]
  exact e
 generalize upd (upd H dx (.own p)) p (.ins az dx [])=H7 at *
 refine ⟨p,dx,pb,β,nb,rfl,bm,hb.up s7,by try?,λY U H8 kk s8 bv bt bh=>⟨rfl,?_⟩⟩
 have ap:ao H H8:=λb' o e=>s8 _ _ (by rw [kQ (bT e np)];exact s7 _ _ e)
 have bu:H Y=none:=s7.free bv
 have bp:H U=none:=s7.free bt
 have aE:kT az H8 p Y U [] 0 0 β n nb none none:=bh.fresh
 rw?
 apply aG (mk:=.lst) 0#w λL H9 s9 n9 e9=>?_
 refine aG (mk:=.lst) 0#w λLt um uU AX Ho=>?_
 have Iu:=s9.trans uU
 have Rb:=ap.trans Iu
 have am:H L=none:=ap.free n9
 have aQ:H Lt=none:=(ap.trans s9).free AX
 have an:L≠Lt:=λz=>by rw [<- z,e9] at AX;cases AX
 obtain ⟨_,⟨_,av⟩,⟨_,as⟩,_⟩:=aE.ats
 rw?
 apply jy (lJ ?_)
 refine ⟨l,rfl,⟨_,bS.of (Rb _ _ hl)⟩,gX (xs:=vals es) (λi σ H3=>aeG λ(v5 v6:Option V) (Y U:ah) (fl ro:Nat) (g s:Option Rat) (I:List Ln) (S:List ThJ)=>σ=[some (.ref l),some (.ref pb),some (.ref p),some (.ref L),some (.ref Lt),v5,v6]/\ao H H3/\H Y=none/\H U=none/\L≠Y/\L≠U/\Lt≠Y/\Lt≠U/\kT az H3 p Y U (es.take i) fl ro β n nb g s/\H3 L=some (.lst (Dd I))/\H3 Lt=some (.lst (S.map λx=>V.ref x.1))/\Hv H3 I (5*n+3*nb+7)/\(∀x∈S,abY H3 es x)/\Tr es β i fl ro (I.map (·.2)) (S.map (·.2))/\I.length<=i/\S.length<=i) ?_ ?_ ?_ ?_⟩
 ·refine ⟨none,none,Y,U,0,0,none,none,[],[],rfl,Rb,bu,bp,λz=>?_,λz=>?_,λz=>?_,λz=>?_,aE.up Iu,uU _ _ e9,Ho,λx hx=>absurd hx 0#w,λx hx=>absurd hx 0#w,.nil,gI _,gI _⟩
  ·rw [z,av] at n9;cases n9
  ·rw [z,as] at n9;cases n9
  ·rw [z,s9 _ _ av] at AX;cases AX
  ·rw [z,s9 _ _ as] at AX;cases AX
 ·rintro i σ H3 _ ⟨v5,v6,Y,U,fl,ro,g,s,I,S,rfl,s3,_⟩
  exact bS.of (s3 _ _ hl)
 ·rintro i v σ H3 hv ⟨v5,v6,Y,U,fl,ro,g,s,I,S,rfl,s3,al,ak,q1,q2,q3,q4,Jc,N,O,ag,ai,ae,ll,lt⟩
  obtain ⟨x,gx,rfl⟩:=jw hv
  have hi:i<es.length:=(tP.mp gx).1
  obtain ⟨x',ay,fx⟩:=dM (hR.up s3) hS hi
  rw [gx] at ay
  cases ay
  have tl:(es.take i).length=i:=by rw [IM];try?
  have tk:=take_snoc hS gx
  obtain ⟨⟨a8,be,ac,bo,_⟩,⟨_,ba⟩,⟨_,a'⟩,ad⟩:=Jc.ats
  have bC:L≠p:=λz=>by rw [z,ac] at N;cases N
  have bD:Lt≠p:=λz=>by rw [z,ac] at O;cases O
  have hm:∀c,c<(es.take i).length->mo (es.take i) c<mo es i:=λc hc=>by
   rw [tl] at hc
   rw [DS hc]
   exact jK jJ hc hi
  apply fP λM B RR hM hB SW=>?_
  apply F3 ac bo ?_
  have tup:∀{J:Hp},ao (Q9 p Y U H3) J->(∀{b:ah} {xs:0#n},H3 b=some 0#Z->J b=some 0#Z)/\ao H J/\J L=some (.lst (Dd I))/\J Lt=some (.lst (S.map λx=>V.ref x.1)):=λ{J} ks=>by
   refine ⟨λ{b xs} e=>ks _ _ ?_,ahE s3 np al ak ks,ks _ _ ?_,ks _ _ ?_⟩
   ·rw [ye (λz=>by rw [z,ac] at e;cases e) (λz=>by rw [z,ba] at e;cases e) (λz=>by rw [z,a'] at e;cases e)]
    exact e
   ·rw [ye bC q1 q2]
    exact N
   ·rw [ye bD q3 q4]
    exact O
  refine abM Jc fx hm 0#u h1 hn aK lI (λg' s' J ks hN Mx=>?_) λr ln th B7 B6 G fo a b c ax a5 g' s' J ks hC er bc bb Mx n1 n2=>?_
  ·obtain ⟨tp,sH,SJ,aj⟩:=tup ks
   rw?
   apply ⟨rfl,?_⟩
   apply bO ?_
   exact hM _ _ ⟨_,_,Y,U,fl,ro,g',s',I,S,rfl,sH,al,ak,q1,q2,q3,q4,by rw [tk];exact Mx,SJ,aj,ag.tv tp,λx hx=>tp (ai x hx),.stay ae hi ad (by rw [tk];exact Mx.ats.2.2.2) hN,by try?,by try?⟩
  ·obtain ⟨tp,sH,SJ,aj⟩:=tup ks
   obtain ⟨hab,bi,a7⟩:a<b/\b<i/\Tr es β (i+1) ax a5 (I.map (·.2)++[(G,fo)]) (S.map (·.2)++[(c,a,b,i)]):=by
    rcases hC with ⟨rfl,rfl,hC,rfl,rfl⟩ | ⟨rfl,rfl,bj,hC,rfl,rfl⟩
    all_goals have hl:=hC.lb;rw [tl] at hl ⊢;refine ⟨hC.hab,hl,?_⟩
    ·exact .cap ae hi ad hC
    ·exact .cup ae hi ad bj hC
   rw?
   apply ⟨rfl,?_⟩
   apply cD ?_
   apply ⟨.inl ⟨rfl,_,bS.of SJ⟩,?_⟩
   refine gB SJ (by unfold Dd;rw [iI];exact bg 0#u) ?_
   have aL:L≠B7:=λz=>by rw [<- z,N] at n1;cases n1
   have aN:L≠B6:=λz=>by rw [<- z,N] at n2;cases n2
   have aR:Lt≠B7:=λz=>by rw [<- z,O] at n1;cases n1
   have aU:Lt≠B6:=λz=>by rw [<- z,O] at n2;cases n2
   have U4:=Mx.app (zs:=Dd I++[.ref ln]) SJ aL aN
   have R:∀{b:ah} {xs:0#n},J b=some 0#Z->upd J L (.lst (Dd I++[.ref ln])) b=some 0#Z:=λe=>tK SJ e
   have a9:upd J L (.lst (Dd I++[.ref ln])) L=some (.lst (Dd (I++[(ln,G,fo)]))):=by rw [au];simp [Dd]
   have af:upd J L (.lst (Dd I++[.ref ln])) Lt=some (.lst (S.map λx=>V.ref x.1)):=by rw [aF (jx an)];exact aj
   have bJ:ao H (upd J L (.lst (Dd I++[.ref ln]))):=bP sH am
   have er5:=R er
   generalize upd J L (.lst (Dd I++[.ref ln]))=H5 at *
   rw?
   apply ⟨.inl ⟨rfl,_,bS.of af⟩,?_⟩
   refine gB af (by rw [iI];exact bg 0#u) ?_
   have ar:∀{b:ah} {xs:0#n},H5 b=some 0#Z->upd H5 Lt (.lst ((S.map λx=>V.ref x.1)++[.ref th])) b=some 0#Z:=λe=>tK af e
   refine hM _ _ ⟨_,_,B7,B6,ax,a5,g',s',I++[(ln,G,fo)],S++[(th,(c,a,b,i))],rfl,bP bJ aQ,s3.free n1,s3.free n2,aL,aN,aR,aU,by rw [tk];exact U4.app af aR aU,by rw [aF an];exact a9,by rw [au];simp,?_,λz hz=>?_,?_,by rw [jf];show _+1<=i+1;try?,by rw [jf];show _+1<=i+1;try?⟩
   ·exact (((ag.tv tp).snoc bc).tv R).tv ar
   ·rcases i8.mp hz with z | z
    ·exact ar (R (tp (ai _ z)))
    ·obtain rfl:_=(th,(c,a,b,i)):=by simpa using z
     refine ar (R ?_)
     show J th=_
     rw [bb,DS (show a<i by try?),DS bi]
   ·rw [jM,jM]
    exact a7
 ·rintro σ H3 ⟨v5,v6,Y,U,fl,ro,g,s,I,S,rfl,s3,al,ak,q1,q2,q3,q4,Jc,N,O,ag,ai,ae,ll,lt⟩
  rw [aY] at *
  rw [qN] at Jc
  obtain ⟨⟨a8,be,ac,_,bn⟩,_,_,ad⟩:=Jc.ats
  rw?
  apply ⟨.inl ⟨rfl,_,bS.of N⟩,?_⟩
  apply F3 ac bn ?_
  refine ⟨p,Y,U,es,fl,ro,β,n,nb,g,s,rfl,Jc,by try?,h1,hn,aK,λz=>absurd h0 (by rw [z];decide),λ_ ln TT fo J s4 f4 a6=>?_⟩
  have aw:=s4 _ _ N
  rw?
  apply gB aw (by unfold Dd;rw [iI];exact bg 0#u) ?_
  have R:∀{b:ah} {xs:0#n},J b=some 0#Z->upd J L (.lst (Dd I++[.ref ln])) b=some 0#Z:=λe=>tK aw e
  refine aG (mk:=.tup) 0#w λy H6 s6 n6 e6=>?_
  refine k y L Lt (I++[(ln,TT,fo)]) S (I.map (·.2)) fl ro g s TT fo H6 (λb o e=>s6 _ _ (bP (s3.trans s4) am _ _ e)) e6 am aQ (s6 _ _ ?_) (Hv.tv (λ{b xs} e=>s6 _ _ e) (((ag.tv λ{b xs} e=>s4 _ _ e).snoc f4).tv R)) 0#w (s6 _ _ ?_) (λx hx=>s6 _ _ (R (s4 _ _ (ai x hx)))) ae ad a6 (by rw [iI];exact ll) lt
  ·rw [au];simp [Dd]
  ·rw [aF (jx an)];exact s4 _ _ O
noncomputable def Vv (ks:List (Rat×Rat)) (i:Nat):Rat:=((ks[i]?).map (·.1)).getD 0
noncomputable def lhl (ks:List (Rat×Rat)) (i:Nat):Rat:=((ks[i]?).map (·.2)).getD 0
def DQ (ls:List Ln):(Dd ls).length=ls.length:=iI ..
def Xo {i:Nat} (h:(Dd ls)[i]?=some v):∃x,ls[i]?=some x/\v=.ref x.1:=by
 unfold Dd at h
 rw [gF] at h
 cases e:ls[i]? with
 | none=>rw [e] at h;cases h
 | some x=>rw [e] at h;cases h;exact ⟨x,rfl,rfl⟩
def Te {i:Nat} (h:ls[i]?=some x):(Dd ls)[i]?=some (.ref x.1):=by
 unfold Dd
 rw [gF,h]
 rfl
def ahI {ls:List Ln} (h:ls[i]?=some x):Vv (ls.map (·.2)) i=x.2.1/\lhl (ls.map (·.2)) i=x.2.2:=by
 unfold Vv lhl
 rw [gF,h]
 exact ⟨rfl,rfl⟩
def Wx (xs:0#n):lF xs (some 1) none=xs.drop 1:=by
 unfold lF
 rw [show (1:Int)=((1:Nat):Int) from rfl,HT.D5,show HT.JD xs.length xs.length none=xs.length from rfl]
 rcases ad6 1 xs.length with z | z
 ·rw [Uy z]
  exact Zk (by rw [mH];exact gI _)
 ·rw [adu z,T9 z,T9 (gI _)]
  simp
inductive L6 (vs:List V) (H:Hp) (Q:VK) (E_:XK):Prop where
 | mk (p:ah) (T f:Rat) (t:Int) (n:Nat):vs=[.ref p,.int t]->j8 H p T f n->Sz n t->1<=n->n<=1300->(∀(y:ah) (H':Hp),ao H H'->j8 H' y (t:Rat) (T*(t:Rat)+f) (6*n+3)->Q (.ref y) H')->L6 vs H Q E_
def Ob:dR 2 [cR,aM] yu:=0#t
def NX (F:fU K "point_on" yu f fd) (jH:aew P w K mg base):0#b 6 f fd [cR,aM] L6:=by
 refine F.fq Ob 0#a
 obtain ⟨p,TT,N,t,n,rfl,O,G,B,hn,k⟩:=h
 apply bI ⟨_,(aA (aW (b9 (bN (b9 (bN 0#H aH)) (cg jH hr 0#A (b9 (bN 0#H aH))))))),?_⟩
 refine aG (mk:=.tup) 0#w λa I s1 n1 e1=>?_
 have M:c8 I a (t:Rat) n:=⟨t,1,e1,⟨by decide,by simp,by grind⟩,G,xY B⟩
 rw?
 apply aG (mk:=.tup) 0#w λb H2 s2 n2 e2=>?_
 apply ⟨p,b,TT,N,(t:Rat),n,n,rfl,O.Wf 1#h,vD e2 G B,by try?,λz H3 D L=>?_⟩
 refine aG (mk:=.tup) 0#w λy J v n4 e4=>?_
 exact k y J (s1.trans (s2.trans (D.trans v))) ⟨a,z,e4,(M.up (s2.trans (D.trans v))).mono 0#u,(L.up v).mono 0#u⟩
def tW:dR 3 ["links",c5,dh,"points"] pB:=0#t
def UM (es:0#h) (β:Rat) (k fl ro:Nat) (L:Rat×Rat):Prop:=(∀i,fl<=i->i<k->fN es L.1 i-β<=L.2)/\∀i,ro<=i->i<k->L.2<=fN es L.1 i+β
def Ef.WJ (hk:k<=es.length) (h:Ef (es.take k) β fl ro m q G f a b):UM es β k fl ro (G,f):=by
 have z:(es.take k).length=k:=by rw [IM];simp?
 refine ⟨λi v u=>?_,λi v u=>?_⟩
 ·have:=h.lo i v (by rw [z];exact u)
  rw [rz u] at this
  exact this
 ·have:=h.hi i v (by rw [z];exact u)
  rw [rz u] at this
  exact this
def Eg.WJ (hk:k<=es.length) (h:Eg (es.take k) β fl ro m q S f a b):UM es β k fl ro (S,f):=by
 have z:(es.take k).length=k:=by rw [IM];simp?
 refine ⟨λi v u=>?_,λi v u=>?_⟩
 ·have:=h.lo i v (by rw [z];exact u)
  rw [rz u] at this
  exact this
 ·have:=h.hi i v (by rw [z];exact u)
  rw [rz u] at this
  exact this
def Sn.WJ (h:Hj es fl ro β g s) (lI:0<=β) (hN:Sn es β fl g s T f):UM es β es.length fl ro (T,f):=by
 rcases hN with ⟨L,D,I⟩ | ⟨v,u,E,G⟩
 ·refine ⟨D,?_⟩
  rcases L with v | ⟨v,u⟩
  ·obtain ⟨A,B⟩:=h.hiG v
   exact (IU lI h.TH A B D I).1
  ·obtain ⟨A,B⟩:=h.loS u
   exact (IX lI h.TH A B D I).1
 ·have h2:=h.two.mpr ⟨v,u⟩
  refine ⟨λi J M=>?_,λi J M=>?_⟩
  ·obtain rfl:i=fl:=by have:=h.lt 0#z;simp?
   show fN es T i-β<=f
   unfold fN
   rw [E,G]
   grind
  ·have:=h.lt 0#z
   obtain rfl:i=fl:=by simp?
   show f<=fN es T i+β
   unfold fN
   rw [E,G]
   grind
def Rel (es:0#h) (z:Bool×Nat×Nat×Nat) (L0 L1:Rat×Rat):Prop:=z.2.2.1<z.2.2.2/\z.2.2.2<es.length /\
 if z.1=true then L0.1*(mo es z.2.2.1:Rat)+L0.2<=L1.1*(mo es z.2.2.1:Rat)+L1.2/\L1.1*(mo es z.2.2.2:Rat)+L1.2<L0.1*(mo es z.2.2.2:Rat)+L0.2
 else L1.1*(mo es z.2.2.1:Rat)+L1.2<=L0.1*(mo es z.2.2.1:Rat)+L0.2/\L0.1*(mo es z.2.2.2:Rat)+L0.2<L1.1*(mo es z.2.2.2:Rat)+L1.2
inductive Ch (es:List En):List (Rat×Rat)->List (Bool×Nat×Nat×Nat)->Rat×Rat->Prop where
 | one {L:Rat×Rat}:Ch es [] [] L
 | more {ks:List (Rat×Rat)} {ts:List (Bool×Nat×Nat×Nat)} {L0 L1:Rat×Rat} {z:Bool×Nat×Nat×Nat} (h:Ch es ks ts L0) (hR:Rel es z L0 L1):Ch es (ks++[L0]) (ts++[z]) L1
def aao (hk:k<es.length) (h:Ef (es.take k) β fl ro (mo es k) (wo es k) G f a b) (hF:UM es β (k+1) b k L):Rel es (true,a,b,k) (G,f) L:=by
 have I:(es.take k).length=k:=by rw [IM];simp?
 have u:=h.lb
 rw [I] at u
 have v:=h.eb
 rw [rz u] at v
 obtain ⟨i,D,E,ei⟩:=h.off
 have li:=h.lo i D E
 have A:=hF.1 b (gI _) 0#z
 have B:=hF.2 k (gI _) 0#z
 unfold fN at v A B
 refine ⟨u,hk,?_⟩
 rw [if_pos rfl]
 refine ⟨by show G*(mo es b:Rat)+f<=L.1*(mo es b:Rat)+L.2;grind,?_⟩
 show L.1*(mo es k:Rat)+L.2<G*(mo es k:Rat)+f
 grind
def aaq (hk:k<es.length) (h:Eg (es.take k) β fl ro (mo es k) (wo es k) S f a b) (hF:UM es β (k+1) k b L):Rel es (false,a,b,k) (S,f) L:=by
 have G:(es.take k).length=k:=by rw [IM];simp?
 have u:=h.lb
 rw [G] at u
 have v:=h.eb
 rw [rz u] at v
 obtain ⟨i,D,E,ei⟩:=h.off
 have li:=h.hi i D E
 have A:=hF.2 b (gI _) 0#z
 have B:=hF.1 k (gI _) 0#z
 unfold fN at v A B
 refine ⟨u,hk,?_⟩
 rw [if_neg pJ]
 refine ⟨by show L.1*(mo es b:Rat)+L.2<=S*(mo es b:Rat)+f;grind,?_⟩
 show S*(mo es k:Rat)+f<L.1*(mo es k:Rat)+L.2
 grind
def Tr.ch (h:Tr es β k fl ro ks ts):∀L,UM es β k fl ro L->Ch es ks ts L:=by
 induction h with
 | nil=>exact λL _=>.one
 | stay h hk hP hP' hN ih=>exact λL u=>ih L ⟨λi a b=>u.1 i a 0#z,λi a b=>u.2 i a 0#z⟩
 | cap h hk hP hC ih=>exact λL u=>.more (ih _ (hC.WJ (wG hk))) (aao hk hC u)
 | cup h hk hP hn hC ih=>exact λL u=>.more (ih _ (hC.WJ (wG hk))) (aaq hk hC u)
def Rel.ne (hr:rising es)  (h:Rel es z L0 L1):L0.1≠L1.1:=by
 obtain ⟨h1,h2,u⟩:=h
 intro e
 split at u
 ·rw [e] at u
  grind
 ·rw [e] at u
  grind
def E7 (h:i<ks.length):Vv (ks++[L]) i=Vv ks i/\lhl (ks++[L]) i=lhl ks i:=by
 unfold Vv lhl
 rw [Mr h]
 exact ⟨rfl,rfl⟩
def Nz:Vv (ks++[L]) ks.length=L.1/\lhl (ks++[L]) ks.length=L.2:=by
 unfold Vv lhl
 simp
def Ch.sep (hr:rising es)  (h:Ch es ks ts L):∀i,i<ks.length->Vv (ks++[L]) i≠Vv (ks++[L]) (i+1):=by
 induction h with
 | one=>exact λi u=>absurd u (ON _)
 | @more ks ts L0 L1 z h hR ih=>
   intro i u
   rw [jf] at u
   have v:i<ks.length+1:=u
   by_cases e:i=ks.length
   ·subst e
    have e1:Vv (ks++[L0]++[L1]) (ks.length+1)=L1.1:=by
     have:=(Nz (ks:=ks++[L0]) (L:=L1)).1
     rw [jf] at this
     exact this
    rw [e1,(E7 (by rw [jf];show ks.length<ks.length+1;simp?)).1,(Nz).1]
    exact hR.ne hr
   ·have A:=(E7 (ks:=ks++[L0]) (L:=L1) (i:=i) (by rw [jf];exact v)).1
    have B:=(E7 (ks:=ks++[L0]) (L:=L1) (i:=i+1) (by rw [jf];show i+1<ks.length+1;simp?)).1
    rw [A,B]
    exact ih i 0#z
section
variable {P:fT} {w:dO} {K:bU} {mg:0#g} {base:cH} {f az:ah} {fd:ia}
def Cp:∀i:Nat,(parts s es i).flatten=(es.take i).filter s
 | 0=>by simp [parts]
 | i+1=>by
   have ih:=Cp (s:=s) (es:=es) i
   unfold parts
   cases e:es[i]? with
   | none=>
     dsimp only
     rw [ih,yI,e]
     simp
   | some x=>
     have tk:es.take (i+1)=es.take i++[x]:=by rw [yI,e];rfl
     rw [tk,OC]
     dsimp only
     split
     ·rename_i hs
      split
      ·rename_i hr
       obtain ⟨t,r,hp⟩:=FJ hr
       rw [<- ih,hp]
       simp [hs]
      ·rw [JK,ih]
       simp [hs]
     ·rename_i hs
      rw [ih]
      simp [hs]
def Pk {α:Type} {l:List (List α)} (i:Nat):(l.take i).flatten.length<=l.flatten.length:=by
 conv=>rhs;rw [<- Zn i l]
 rw [JK,jf]
 simp?
def rM:dR 2 [cz,aJ,"telling","paper","run",dQ] Gf:=0#t
end
inductive Gw (vs:List V) (H:Hp) (Q:VK) (E_:XK):Prop where
 | mk (p:ah) (s h:Rat) (a b:Int) (m n:Nat):vs=[.ref p,.int a,.int b]->j8 H p s h n->Sz m a->Sz m b->1<=m->m+2*n+1<=8000->(∀(v:V) (H':Hp),ao H H'->Q v H')->Gw vs H Q E_
inductive tE (vs:List V) (H:Hp) (Q:VK) (E_:XK):Prop where
 | mk (l:ah) (es:0#h) (n:Nat):vs=[.ref l]->H l=some 0#R->Row H es n->nU es->rising es->1<=n->n<=200->es.length*n+n<=7000->1<=es.length->es.length<=40->(∀(v:V) (H':Hp),ao H H'->Q v H')->tE vs H Q E_
inductive vq (vs:List V) (H:Hp) (Q:VK) (E_:XK):Prop where
 | mk (l x:ah) (es:0#h) (m:Int) (q β:Rat) (n:Nat):vs=[.ref l,.ref x]->H l=some 0#R->Row H es n->jl H x m q n->nU es->rising (es++[(x,m,some q)])->1<=n->n<=200->(es.length+1)*n+n<=7000->es.length<40->0<=β->¬O6 (es++[(x,m,some q)]) (2*β)->(∀(v:V) (H':Hp),ao H H'->Q v H')->vq vs H Q E_
inductive Ae (vs:List V) (H:Hp) (Q:VK) (E_:XK):Prop where
 | mk (l pb:ah) (es:0#h) (β:Rat) (n nb:Nat):vs=[.ref l,.ref pb]->H l=some 0#R->Row H es n->rising es->es.length<=40->ck H pb β nb->0<=β->1<=n->n<=165->nb<=1000->(∀(y X Z:ah) (xs:0#n) (H':Hp),ao H H'->H' y=some (.tup [.ref X,.ref Z])->H' X=some (.lst xs)->xs.length<=(parts j6 es es.length).flatten.length->Q (.ref y) H')->Ae vs H Q E_
def Dv {P:fT} {w:dO} {K:bU} {mg:0#g} {base:cH} {f:ah} {fd:ia} (F:fU K "piece_along" qK f fd) (jH:aew P w K mg base):0#b 6 f fd [cR,c5,dh] Gw:=by
 refine F.fq Gr 0#a
 obtain ⟨p,s,h,a,b,m,n,rfl,u,za,zb,D,v,k⟩:=h
 apply bI ⟨_,(aA (aW (b9 (Jd.a4 (b9 (bN 0#H aH)) (cg jH hr 0#A (b9 (bN 0#H aH))) (b9 (bN 0#P aH)) (cg jH hr 0#A (b9 (bN 0#P aH))))))),?_⟩
 apply aG (mk:=.tup) 0#w λp1 H1 R n1 e1=>?_
 refine aG (mk:=.tup) 0#w λN H2 S n2 e2=>?_
 have B:=R.trans S
 rw?
 refine ⟨p,N,s,h,_,m,n,rfl,j8.up u B,vD e2 za D,v,λp3 H3 U f3=>?_⟩
 have G:=B.trans U
 rw?
 apply aG (mk:=.tup) 0#w λp4 H4 I n4 e4=>?_
 refine aG (mk:=.tup) 0#w λO H5 J n5 e5=>?_
 have M:=G.trans (I.trans J)
 rw?
 apply ⟨p,O,s,h,_,m,n,rfl,j8.up u M,vD e5 zb D,v,λp6 H6 Y f6=>?_⟩
 refine aG (mk:=.tup) 0#w λz L Z n7 e7=>?_
 exact k _ L (G.trans (I.trans (J.trans (Y.trans Z))))
def Fl {P:fT} {w:dO} {K:bU} {mg:0#g} {base:cH} {f:ah} {fd:ia} (F:fU K "best_piece" sW f fd) (oQ:0#c 6 "piece_along" [cR,c5,dh] Gw) (AE:0#c 6 "best" [br] LR):0#b 7 f fd [iB] tE:=by
 refine F.fq IA 0#a
 obtain ⟨l,es,n,rfl,N,I,G,jJ,D,hn,J,Y,R,k⟩:=h
 apply bI ⟨_,(aA (aW (Jd.c3 oQ hr (aO K (Jd.c1 AE hr 0#A)) (aO K (Jd.iL K 0#A)) (aO K (cY (lX K) 0#A (iu eG aH) 0#B))))),?_⟩
 refine ⟨l,es,n,rfl,N,I,G,jJ,D,by try?,J,Y,R,λz zl zw Fv sl ht w' Fo H1 s1 ez Z _ _ hB akR=>?_⟩
 obtain ⟨e0,S,v0,ev0,fv0,L⟩:=dM (I.up s1) G (show 0<es.length by try?)
 obtain ⟨e1,U,v1,ev1,fv1,M⟩:=dM (I.up s1) G (show es.length-1<es.length by try?)
 have u:=s1 _ _ N
 rw?
 apply ie u (fE S rfl) ?_
 apply ie u (Wo U) ?_
 exact ⟨zl,sl,ht,_,_,n,13*n+15,rfl,Z,L,M,D,by try?,λv O s2=>k v O 1#h⟩
def Bf {P:fT} {w:dO} {K:bU} {mg:0#g} {base:cH} {f:ah} {fd:ia} (F:fU K "ending_three" pe f fd) (T:Txt mg) (AE:0#c 6 "best" [br] LR):0#b 7 f fd [iB,"behind"] vq:=by
 refine F.fq tV 0#a
 obtain ⟨l,x,es,m,q,β,n,rfl,hl,hR,hx,hA,jJ,Z,hn,Y,HE,lI,ac,k⟩:=h
 generalize u:es++[(x,m,some q)]=fs at *
 have U:fs.length=es.length+1:=by rw [<- u];simp
 have J:Row H fs n:=by rw [<- u];exact hR.snoc hx.en
 have I:nU fs:=by rw [<- u];exact qT hA
 apply bI ⟨_,(aq (nK (i:=2) tV.nd rfl (Or.inr rfl) (aX Bq 0#A (fM (cP 0#H))) (hs:=agx)) (aA (aW (Jd.rE HA rfl T.agI aja (cP (pR (O:=["place"]) (N':=[br]) (cap:=[2]) rfl (Jd.piT K (aO K (Jd.c1 AE hr 0#P))) (λ_ _ _ _ _=>(cG (i:=0) (show mL [("place":Str),("samples":Str)] by decide +kernel) rfl 0#D)) (λ_ _ _ _ _=>oX) (λ_ _ _ _ _=>(cY (Vo K) (cY (lX K) 0#H 0#A 0#B) aH 0#B)) rfl ⟨0#T,trivial⟩ rfl 0#x rfl 0#x)))))),?_⟩
 apply aG (mk:=.lst) 0#w λl1 H1 s1 n1 e1=>?_
 refine Jy (s1 _ _ hl) e1 ?_
 refine aG (mk:=.lst) (by rw [jf,aY];simp;try?) λL H2 s2 n2 e2=>?_
 have eL:H2 L=some (.lst (vals fs)):=by rw [e2,<- u];simp [vals]
 have fV:=s1.trans s2
 rw?
 apply akt ?_
 refine ⟨L,fs,n,rfl,eL,J.up fV,I,jJ,Z,by try?,by rw [U];exact Y,by try?,by try?,λz zl zw Fv sl ht w' Fo H3 s3 ez _ _ S R _=>?_⟩
 have hw:β<w':=CL.mp λz=>ac ((Wq jJ R lI).mpr z)
 cases Fo with
 | none=>exact absurd (R.none_ rfl) (by grind)
 | some y=>
   obtain ⟨i,j,kk⟩:=y
   obtain ⟨_,q1,q2,q3,_⟩:=R.acj i j kk rfl
   obtain ⟨r,rfl,er⟩:=S
   have lZ:=fV.trans s3
   have N:=s3 _ _ eL
   rw?
   refine ⟨r,rfl,⟨_,qR.of er⟩,?_⟩
   refine d8 (xs:=[.int (i:Int),.int (j:Int),.int (kk:Int)]) VS (λM G=>qR.of (G _ _ er)) 0#w (λ_ _ _=>True) trivial ?_ ?_
   ·rintro D c v ys M nQ NN N0 h0 hD eD G hv hy _ kY kN
    obtain ⟨pq,rfl,ad⟩:∃pq:Nat,v=.int (pq:Int)/\pq<fs.length:=by
     have:=g8 hv
     simp only [kM,CF,CN] at this
     rcases this with rfl | rfl | rfl
     ·exact ⟨i,rfl,by simp?⟩
     ·exact ⟨j,rfl,by simp?⟩
     ·exact ⟨kk,rfl,q3⟩
    obtain ⟨e,ge,v',ev,fv,zv⟩:=dM (J.up (lZ.trans G)) I ad
    apply jB h0 ?_
    apply cD ?_
    apply ie (G _ _ N) (fE ge rfl) ?_
    exact kY _ M 0#V trivial
   ·rintro D ys M hD eD G hy _
    rw?
    refine ⟨D,_,rfl,.inl ⟨bS.of eD,λt nt=>?_⟩⟩
    exact k _ _ ((lZ.trans G).trans (iG nt _))
def VC {P:fT} {w:dO} {K:bU} {mg:0#g} {base:cH} {f aR:ah} {fd:ia} (F:fU K "apart" LA f fd) (T:Txt mg) (r6:0#c 1 "runs" [cz] GL) (uA:0#c 8 "stretches" [br,aJ] (vv aR)) (qh:0#c 7 "best_piece" [iB] tE) (mT:0#c 7 "ending_three" [iB,"behind"] vq):0#b 9 f fd [cz,aJ] Ae:=by
 refine F.fq vf 0#a
 obtain ⟨l,pb,es,β,n,nb,rfl,hl,hR,jJ,HE,hb,lI,al,hn,aQ,k⟩:=h
 apply bI ⟨_,(aq (aV 2 vf.nd (fM gT)) (aq (aV 3 vf.nd (fM gT)) (aq (iV j9 rfl (gQ K (Jd.c1 r6 hr 0#A)) (cG (i:=4) vf.nd rfl 0#D) (aq (aV 5 vf.nd (cg uA hr (aa 4) 0#H)) (aq (dB (Jd.MY K 0#P (pR (O:=[iB]) (N':=[]) (cap:=[]) rfl (gQ K (aa 5)) (λ_ _ _ _ _=>(cG (i:=0) (show mL [("stretch":Str)] by decide +kernel) rfl 0#D)) (λ_ _ _ _ _=>oX) (λ_ _ _ _ _=>(ko qh 0#G rfl (eV 0#A gT bH) (he:=bH) (hpl:=bZ))) rfl trivial rfl 0#x rfl 0#x)) (hs:=cU)) (aA (dB (Jd.MY K 0#X (pR (O:=[iB,"behind"]) (N':=[]) (cap:=[]) rfl (Jd.FT K rfl T.agO (bN (aa 5) (uJ (slL K) (aa 5) (uL aH) uK))) (λ_ _ _ _ _=>(Jd.QM K (n:=2) rfl (iE (cG (i:=0) (show mL [("stretch":Str),("behind":Str)] by decide +kernel) rfl 0#D) (iE (cG (i:=1) (show mL [("stretch":Str),("behind":Str)] by decide +kernel) rfl 0#D) rj)))) (λ_ _ _ _ _=>oX) (λ_ _ _ _ _=>(ko mT 0#G rfl (eV 0#A (eV (cY (lX K) 0#H aH 0#B) gT An) bH) (he:=bH) (hpl:=(cO An bZ)))) rfl trivial rfl 0#x rfl 0#x)) (hs:=cU)))))) (aA (aW (b9 (bN 0#P 0#X))))))),?_⟩
 apply aG (mk:=.lst) 0#w λX H1 s1 n1 e1=>?_
 refine aG (mk:=.lst) 0#w λZ H2 s2 n2 e2=>?_
 have fV:=s1.trans s2
 have ar:X≠Z:=λz=>by rw [<- z,e1] at n2;cases n2
 rw?
 apply jy (lJ ?_)
 refine ⟨l,es,n,rfl,fV _ _ hl,hR.up fV,HE,λTT ls H3 s3 Hq ak ajW _=>?_⟩
 have aN:ls.length=(parts j6 es es.length).length:=by rw [<- ak,iI]
 obtain ⟨a1,a2⟩:=Hq.own (s2 _ _ e1)
 obtain ⟨b1,b2⟩:=Hq.own e2
 have hF:∀i,((parts j6 es es.length).take i).flatten.length<=40:=λi=>by
  have q1:=U1 (l:=parts j6 es es.length) i
  rw [sL,qN] at q1
  have q2:(es.filter j6).length<=es.length:=Ub ..
  try?
 refine ⟨TT,rfl,⟨_,bS.of Hq.at_⟩,gX (xs:=lrefs ls) (λi σ N=>Xs4 λ(xs zs:0#n) (v5 v6:Option V)=>σ=[some (.ref l),some (.ref pb),some (.ref X),some (.ref Z),v5,v6]/\ao H N/\LL H2 N TT ls/\N X=some (.lst xs)/\N Z=some (.lst zs)/\xs.length<=((parts j6 es es.length).take i).flatten.length/\zs.length<=((parts j6 es es.length).take i).flatten.length) ?_ ?_ ?_ ?_⟩
 ·exact ⟨[],[],none,none,rfl,fV.trans s3,Hq,(s2.trans s3) _ _ e1,s3 _ _ e2,gI _,gI _⟩
 ·rintro i σ N _ ⟨xs,zs,v5,v6,rfl,s4,DN,_⟩
  exact bS.of DN.at_
 ·rintro i x σ N hx ⟨xs,zs,v5,v6,rfl,s4,DN,eX,eZ,ae,aU⟩
  refine fP λM B RR hM _ _=>?_
  obtain ⟨x,gx,rfl⟩:=rB hx
  have hi:i<ls.length:=(tP.mp gx).1
  have V9:=g8 gx
  have hp:(parts j6 es es.length)[i]?=some x.2:=by rw [<- ak,gF,gx];rfl
  obtain ⟨o1,o2,o3⟩:=rD es.length x.2 (g8 hp)
  rw [qN] at o3
  obtain ⟨_,ex,_⟩:=DN.each x V9
  have hx1:1<=x.2.length:=JJ.mpr o1
  have as:x.2.length<=40:=g9 o3.length_le HE
  have ac:Row N x.2 n:=λz Y=>hR.up s4 z (o3.subset Y)
  have ad:rising x.2:=jJ.sublist o3
  rw?
  refine ⟨x.1,pb,x.2,β,n,nb,rfl,ex,ac,o2,ad,hb.up s4,lI,by try?,aQ,as,λPT I H5 s5 Pu hC hl5=>?_⟩
  generalize am:I.map (·.2)=qs at *
  have hql:qs.length=I.length:=by rw [<- am,iI]
  have gq:∀{c:Nat} {y:ah×List En},I[c]?=some y->qs[c]?=some y.2:=λ{c y} g=>by rw [<- am,gF,g];rfl
  have U:∀{c:Nat},c<=41->c*n+n<=7000:=λ{c} hc=>by
   have:=Nat.mul_le_mul hc hn
   try?
  rw?
  apply ⟨.inl ⟨rfl,_,bS.of (s5 _ _ eX)⟩,?_⟩
  apply lJ ?_
  refine ⟨PT,rfl,⟨_,bS.of Pu.at_⟩,?_⟩
  refine d8 (xs:=lrefs I) dm (λH6 s6=>bS.of (s6 _ _ Pu.at_)) (by rw [gn];try?) (λ_ _ _=>True) trivial ?_ ?_
  ·rintro D c v ys H6 nQ NN N0 h0 hD eD s6 hv hy _ kY kN
   obtain ⟨y,S,rfl⟩:=rB hv
   obtain ⟨_,ey,_⟩:=(Pu.up s6).each y (g8 S)
   obtain ⟨l1,l2⟩:=hC.ahW (gq S)
   obtain ⟨u1,u2⟩:=hC.sub (gq S)
   apply jB h0 ?_
   apply cD ?_
   exact ⟨y.1,y.2,n,rfl,ey,λz Y=>(ac.up (s5.trans s6)) z (u1.subset Y),λz Y=>o2 z (u1.subset Y),ad.sublist u1,al,by try?,U 0#u,l1,by try?,λp L s7=>kY _ L s7 trivial⟩
  ·rintro D ps H6 hD eD s6 hy _
   rw [gn] at hy
   have Mz:=s5.trans s6
   have af:=Mz _ _ eX
   have ax:=Mz _ _ eZ
   have hcl:=hC.len
   rw?
   refine Jz af eD (wG (bg (by have:=hF i;try?))) ?_
   generalize J:upd H6 X (.lst (xs++ps))=L
   have av:∀{b:ah} {o:HO},H6 b=some o->b≠X->L b=some o:=λ{b o} e ne=>by
    rw [<- J]
    exact aa6 e ne
   have aw:L X=some (.lst (xs++ps)):=by rw [<- J,au]
   have ag:=av ax (jx ar)
   have a5:PT≠X:=λz=>by rw [z] at Pu;have:=Pu.new;rw [eX] at this;cases this
   have a6:∀y∈I,y.1≠X:=λy hy z=>by have:=(Pu.each y hy).1;rw [z,eX] at this;cases this
   have Pw:LL N L PT I:=by rw [<- J];exact (Pu.up s6).other (jx a5) a6
   have aL:Row L x.2 n:=by rw [<- J];exact (ac.up Mz).app af
   have a7:ao H L:=by rw [<- J];exact bP (s4.trans Mz) n1
   rw?
   apply ⟨.inl ⟨rfl,_,bS.of ag⟩,?_⟩
   apply Yn ?_
   refine ⟨_,rfl,1,rfl,PT,_,rfl,bS.of Pw.at_,λP1 aZ=>?_⟩
   rw [ajG]
   have s8:ao L (upd L P1 (.lst ((lrefs I).drop 1))):=bP 0#V aZ
   have e8:upd L P1 (.lst ((lrefs I).drop 1)) P1=some (.lst ((lrefs I).drop 1)):=au
   generalize upd L P1 (.lst ((lrefs I).drop 1))=H8 at *
   rw?
   refine ⟨PT,P1,_,_,rfl,bS.of (s8 _ _ Pw.at_),bS.of e8,?_⟩
   refine AK (MF:=I.length-1) (by rw [gn];try?) (by rw [mH,gn];try?) (.inr (by rw [mH,gn];try?)) (λH9 s9=>⟨bS.of ((s8.trans s9) _ _ Pw.at_),bS.of (s9 _ _ e8)⟩) 0#u (λ_ _ _=>True) trivial ?_ ?_
   ·rintro D' c v v' ys H9 um pp nQ NN N0 h0 aK V7 s9 uU ay hc hv an hy _ kY kN
    obtain ⟨y,S,rfl⟩:=rB hv
    rw [yH,JT] at an
    obtain ⟨y',ai,rfl⟩:=rB an
    have Iu:=s8.trans (s9.trans uU)
    obtain ⟨_,ey,_⟩:=(Pw.up Iu).each y (g8 S)
    obtain ⟨_,aE,_⟩:=(Pw.up Iu).each y' (g8 ai)
    obtain ⟨l1,l2⟩:=hC.ahW (gq S)
    obtain ⟨u1,u2⟩:=hC.sub (gq S)
    obtain ⟨z,gz,w1,w2⟩:=hC.next (gq S) (gq ai)
    have aj:=aL.up Iu
    have ap:z∈x.2:=w1.subset 0#w
    have ez:z=(z.1,z.2.1,some (z.2.2.getD 0)):=by
     have:=o2 z ap
     obtain ⟨za,zm,zv⟩:=z
     cases zv with
     | none=>cases this
     | some q=>rfl
    have Y:=aj z ap
    rw [ez] at w1 w2 Y
    have hlen2:y.2.length+1<=40:=by
     have:=w1.length_le
     simp at this
     try?
    apply F4 h0 ay ?_
    apply cD ?_
    apply ie aE (fE gz rfl) ?_
    exact ⟨y.1,z.1,y.2,_,_,β,n,rfl,ey,λu hu=>aj u (u1.subset hu),Y.sa,λu hu=>o2 u (u1.subset hu),ad.sublist w1,al,by try?,U 0#u,by try?,lI,w2,λt V4 Rc=>kY _ V4 Rc trivial⟩
   ·rintro D' ts H9 aK V7 s9 hy' _
    have R:=s8.trans s9
    rw?
    refine Jz (R _ _ ag) V7 (wG (bg (by have:=hF i;try?))) ?_
    have Nj:((parts j6 es es.length).take (i+1)).flatten.length=((parts j6 es es.length).take i).flatten.length+x.2.length:=by
     rw [yI,hp,JK,jf]
     simp
    have h6:LL H2 L TT ls:=by rw [<- J];exact (DN.up Mz).other a1 a2
    exact hM _ _ ⟨xs++ps,zs++ts,_,_,rfl,bP (a7.trans R) (s1.free n2),(h6.up R).other b1 b2,by rw [aF ar];exact R _ _ aw,au,by rw [Nj,jf];try?,by rw [Nj,jf];try?⟩
 ·rintro σ N ⟨xs,zs,v5,v6,rfl,s4,DN,eX,eZ,ae,aU⟩
  rw [gn,aN,qN] at ae
  rw?
  refine aG (mk:=.tup) 0#w λy H5 s5 n5 e5=>?_
  exact k y X Z xs H5 (s4.trans s5) e5 (s5 _ _ eX) ae
abbrev P2:=ah×V×V
def Hr (qs:List P2):0#n:=qs.map λx=>V.ref x.1
def aet (H:Hp) (qs:List P2):Prop:=∀x∈qs,H x.1=some (.tup [x.2.1,x.2.2])
def Lq (qs:List P2):(Hr qs).length=qs.length:=iI ..
def Yc {qs:List P2} {i:Nat} {v:V} (h:(Hr qs)[i]?=some v):∃x,qs[i]?=some x/\v=.ref x.1:=by
 unfold Hr at h
 rw [gF] at h
 cases e:qs[i]? with
 | none=>rw [e] at h;cases h
 | some x=>rw [e] at h;cases h;exact ⟨x,rfl,rfl⟩
inductive Gv (vs:List V) (H:Hp) (Q:VK) (E_:XK):Prop where
 | mk (l:ah) (ls:List Ln) (t0 t1:Int) (n:Nat):vs=[.ref l,.int t0,.int t1]->H l=some (.lst (Dd ls))->Hv H ls n->0<ls.length->ls.length<=900->Sz n t0->Sz n t1->1<=n->n<=1300->(∀i,i+1<ls.length->Vv (ls.map (·.2)) i≠Vv (ls.map (·.2)) (i+1))->(∀(R:ah) (xs:0#n) (H':Hp),ao H H'->H R=none->H' R=some (.lst xs)->xs.length=ls.length->Q (.ref R) H')->Gv vs H Q E_
inductive vZ (C:ah) (vs:List V) (H:Hp) (Q:VK) (E_:XK):Prop where
 | mk (l pb:ah) (es:0#h) (β:Rat) (n nb:Nat):vs=[.ref l,.ref pb]->H l=some 0#R->Row H es n->rising es->es.length<=40->c8 H pb β nb->0<=β->1<=n->n<=1500->(5*n+4*nb<=7900/\nb<=1000)->5*n+3*nb+7<=1300->(∀(y X Z:ah) (xs:0#n) (H':Hp),ao H H'->H' y=some (.tup [.ref X,.ref Z])->H' X=some (.lst xs)->xs.length<=2*(parts j6 es es.length).flatten.length->Q (.ref y) H')->vZ C vs H Q E_
def Bm {P:fT} {w:dO} {K:bU} {mg:0#g} {base:cH} {f:ah} {fd:ia} (F:fU K "pieces_along" pB f fd) (T:Txt mg) (rZ:0#c 6 "point_on" [cR,aM] L6) (O3:0#c 6 "meet" [cR,aI] RG):0#b 7 f fd ["links",c5,dh] Gv:=by
 refine F.fq tW 0#a
 obtain ⟨l,J,t0,t1,n,rfl,hl,hL,h0,m5,z0,z1,h1,hn,ax,k⟩:=h
 generalize aw:J.map (·.2)=ks at *
 have am:∀{i:Nat} {x:Ln},J[i]?=some x->Vv ks i=x.2.1:=λ{i x} h=>by rw [<- aw];exact (ahI h).1
 obtain ⟨x0,g0⟩:∃x,J[0]?=some x:=⟨J[0],jE h0⟩
 obtain ⟨xl,gl⟩:∃x,J[J.length-1]?=some x:=⟨J[J.length-1],jE 0#u⟩
 apply bI ⟨_,(aq (aV 3 tW.nd (fM (cP (cg rZ hr (Jd.iL K 0#A) 0#H)))) (aq (dB (Jd.MY K 0#X (pR (O:=[cR,"behind"]) (N':=[]) (cap:=[]) rfl (Jd.FT K rfl T.agO (bN 0#A (uJ (slL K) 0#A (uL aH) uK))) (λ_ _ _ _ _=>(Jd.QM K (n:=2) rfl (iE (cG (i:=0) (show mL [("line":Str),("behind":Str)] by decide +kernel) rfl 0#D) (iE (cG (i:=1) (show mL [("line":Str),("behind":Str)] by decide +kernel) rfl 0#D) rj)))) (λ_ _ _ _ _=>oX) (λ_ _ _ _ _=>(ko O3 0#G rfl (eV 0#A (eV 0#H gT bH) bH) (he:=bH) (hpl:=(cO bH bZ)))) rfl trivial rfl 0#x rfl 0#x)) (hs:=cU)) (aq (dB (d9 K 0#X (cg rZ hr (cY (lX K) 0#A (iu eG aH) 0#B) 0#P)) (hs:=cU)) (aA (aW (pR (O:=["start","end"]) (N':=[]) (cap:=[]) rfl (Jd.FT K rfl T.agO (bN 0#X (uJ (slL K) 0#X (uL aH) uK))) (λ_ _ _ _ _=>(Jd.QM K (n:=2) rfl (iE (cG (i:=0) (show mL [("start":Str),("end":Str)] by decide +kernel) rfl 0#D) (iE (cG (i:=1) (show mL [("start":Str),("end":Str)] by decide +kernel) rfl 0#D) rj)))) (λ_ _ _ _ _=>oX) (λ_ _ _ _ _=>(aX (agZ K) 0#A 0#H)) rfl trivial rfl 0#x rfl 0#x)))))),?_⟩
 apply ie hl (iS (j:=0) (Te g0)) ?_
 apply ⟨x0.1,x0.2.1,x0.2.2,t0,n,rfl,hL x0 (g8 g0),z0,h1,hn,λL H1 s1 f1=>?_⟩
 refine aG (mk:=.lst) 0#w λPT H2 s2 n2 e2=>?_
 have fV:=s1.trans s2
 have an:H PT=none:=s1.free n2
 rw?
 apply ⟨.inl ⟨rfl,_,bS.of e2⟩,?_⟩
 apply Yn ?_
 refine ⟨_,rfl,1,rfl,l,_,rfl,bS.of (fV _ _ hl),λP1 ay=>?_⟩
 rw [Wx]
 have s3:ao H2 (upd H2 P1 (.lst ((Dd J).drop 1))):=bP 0#V ay
 have e3:upd H2 P1 (.lst ((Dd J).drop 1)) P1=some (.lst ((Dd J).drop 1)):=au
 generalize upd H2 P1 (.lst ((Dd J).drop 1))=H3 at *
 have lZ:=fV.trans s3
 rw?
 refine ⟨l,P1,_,_,rfl,bS.of (lZ _ _ hl),bS.of e3,?_⟩
 refine AK (MF:=J.length-1) (by rw [DQ];try?) (by rw [mH,DQ];try?) (.inr (by rw [mH,DQ];try?)) (λH9 U=>⟨bS.of ((lZ.trans U) _ _ hl),bS.of (U _ _ e3)⟩) 0#u (λc ys G=>∃I:List P2,ys=Hr I/\aet G I/\I.length=c) ⟨[],rfl,λx hx=>absurd hx 0#w,rfl⟩ ?_ ?_
 ·rintro D c v v' ys H9 um pp nQ NN N0 ae hD eD U uU ad hc hv R hy ⟨I,rfl,ag,N⟩ kY kN
  obtain ⟨x,gx,rfl⟩:=Xo hv
  rw [yH,JT] at R
  obtain ⟨x',M,rfl⟩:=Xo R
  have Rb:=lZ.trans (U.trans uU)
  have ne:x.2.1≠x'.2.1:=by rw [<- am gx,<- am M];exact ax c (tP.mp M).1
  apply F4 ae ad ?_
  apply cD ?_
  refine ⟨x.1,x'.1,_,_,_,_,n,rfl,(hL x (g8 gx)).Wf Rb,(hL x' (g8 M)).Wf Rb,h1,hn,λz=>absurd z ne,λ_ z a b V4 Rc ai fa fb=>?_⟩
  refine kY _ V4 Rc ⟨I++[(z,.ref a,.ref b)],by simp [Hr],λy S=>?_,by rw [jf,N];rfl⟩
  rcases i8.mp S with w | w
  ·exact (rK (uU.trans Rc)) _ _ (ag y w)
  ·rw [JM.mp w]
   exact lK ((uU.trans Rc) _ _ eD) ai
 rintro D ys H4 hD eD s4 hy ⟨I,rfl,ag,N⟩
 have Hs:=lZ.trans s4
 have aj:=(s3.trans s4) _ _ e2
 obtain ⟨Y,Z,ar,_⟩:=f1.Wf (s2.trans (s3.trans s4))
 rw?
 refine Jz aj eD (by unfold Hr;rw [iI];exact wG (bg (by show 1+I.length<=1000;try?))) ?_
 have e5:upd H4 PT (.lst ([.ref L]++Hr I)) PT=some (.lst (Hr ((L,.ref Y,.ref Z)::I))):=by rw [au];rfl
 have s5:ao H (upd H4 PT (.lst ([.ref L]++Hr I))):=bP Hs an
 have av:aet (upd H4 PT (.lst ([.ref L]++Hr I))) ((L,.ref Y,.ref Z)::I):=λy S=>by
  refine tK aj ?_
  rcases kM.mp S with w | w
  ·rw [w];exact ar
  ·exact jt _ _ (ag y w)
 generalize upd H4 PT (.lst ([.ref L]++Hr I))=H5 at *
 rw?
 apply ⟨.inl ⟨rfl,_,bS.of e5⟩,?_⟩
 refine ie (s5 _ _ hl) (v:=.ref xl.1) ?_ ?_
 ·unfold uD
  rw [DP (m:=J.length-1) (by rw [DQ];try?)]
  exact Te gl
 rw?
 refine ⟨xl.1,xl.2.1,xl.2.2,t1,n,rfl,(hL xl (g8 gl)).Wf s5,z1,h1,hn,λyl H6 s6 f6=>?_⟩
 have e6:=s6 _ _ e5
 rw?
 refine gB e6 (by unfold Hr;rw [iI];exact bg (by show I.length+1<=1000;try?)) ?_
 obtain ⟨za,zb,as,_⟩:=f6
 have e7:upd H6 PT (.lst (Hr ((L,.ref Y,.ref Z)::I)++[.ref yl])) PT=some (.lst (Hr ((L,.ref Y,.ref Z)::I++[(yl,.ref za,.ref zb)]))):=by rw [au];simp [Hr]
 have s7:ao H (upd H6 PT (.lst (Hr ((L,.ref Y,.ref Z)::I)++[.ref yl]))):=bP (s5.trans s6) an
 have ak:aet (upd H6 PT (.lst (Hr ((L,.ref Y,.ref Z)::I)++[.ref yl]))) ((L,.ref Y,.ref Z)::I++[(yl,.ref za,.ref zb)]):=λy S=>by
  refine tK e6 ?_
  rcases i8.mp S with w | w
  ·exact s6 _ _ (av y w)
  ·rw [JM.mp w];exact as
 have hpl:((L,V.ref Y,V.ref Z)::I++[(yl,V.ref za,V.ref zb)]).length=J.length+1:=by rw [jf,IL,N];show J.length-1+1+1=_;try?
 generalize (L,V.ref Y,V.ref Z)::I++[(yl,V.ref za,V.ref zb)]=ac at *
 generalize upd H6 PT (.lst (Hr ((L,.ref Y,.ref Z)::I)++[.ref yl]))=H7 at *
 rw?
 apply Yn ?_
 refine ⟨_,rfl,1,rfl,PT,_,rfl,bS.of e7,λP8 aE=>?_⟩
 rw [Wx]
 have s8:ao H7 (upd H7 P8 (.lst ((Hr ac).drop 1))):=bP 0#V aE
 have e8:upd H7 P8 (.lst ((Hr ac).drop 1)) P8=some (.lst ((Hr ac).drop 1)):=au
 generalize upd H7 P8 (.lst ((Hr ac).drop 1))=H8 at *
 rw?
 refine ⟨PT,P8,_,_,rfl,bS.of (s8 _ _ e7),bS.of e8,?_⟩
 refine AK (MF:=J.length) (by rw [Lq];try?) (by rw [mH,Lq];try?) (.inr (by rw [mH,Lq];try?)) (λH9 U=>⟨bS.of ((s8.trans U) _ _ e7),bS.of (U _ _ e8)⟩) 0#u (λc ys _=>ys.length=c) rfl ?_ ?_
 ·rintro D' c v v' ys H9 um pp nQ NN N0 ae al V7 U uU ad hc hv R hy af kY kN
  obtain ⟨x,gx,rfl⟩:=Yc hv
  rw [yH,JT] at R
  obtain ⟨x',M,rfl⟩:=Yc R
  have Yq:=s8.trans (U.trans uU)
  have ex:=Yq _ _ (ak x (g8 gx))
  have ap:=Yq _ _ (ak x' (g8 M))
  apply F4 ae ad ?_
  apply cD ?_
  refine Yh ex ap ?_
  refine aG (mk:=.tup) 0#w λz V4 Rc n11 ai=>?_
  exact kY _ V4 Rc (by rw [jf,af];rfl)
 rintro D' ys H9 al V7 U hy af
 rw?
 exact k D' ys H9 (s7.trans (s8.trans U)) ((s7.trans s8).free al) V7 af
def Qv {P:fT} {w:dO} {K:bU} {mg:0#g} {base:cH} {f az:ah} {fd:ia} (F:fU K "joined" Gf f fd) (T:Txt mg) (r6:0#c 1 "runs" [cz] GL) (xG:0#c 8 "links_of" ["run",aJ] (L3 az)) (mX:0#c 7 "pieces_along" ["links",c5,dh] Gv):0#b 9 f fd [cz,aJ] (vZ az):=by
 refine F.fq rM 0#a
 obtain ⟨l,pb,es,β,n,nb,rfl,hl,hR,jJ,HE,hb,lI,h1,hn,aR,hM,k⟩:=h
 apply bI ⟨_,(aq (aV 2 rM.nd (fM gT)) (aq (aV 3 rM.nd (fM gT)) (aq (iV j9 rfl (gQ K (Jd.c1 r6 hr 0#A)) (cG (i:=4) rM.nd rfl 0#D) (aq (aV 5 rM.nd (cg xG hr (aa 4) 0#H)) (aq (dB (Jd.MY K 0#P (Jd.c3 mX hr (aO K (aa 5)) (aO K (Jd.iL K (aa 4))) (aO K (cY (lX K) (aa 4) (iu eG aH) 0#B)))) (hs:=cU)) (aA (dB (Jd.MY K 0#X (aO K (aa 5))) (hs:=cU)))))) (aA (aW (b9 (bN 0#P 0#X))))))),?_⟩
 apply aG (mk:=.lst) 0#w λX H1 s1 n1 e1=>?_
 refine aG (mk:=.lst) 0#w λZ H2 s2 n2 e2=>?_
 have fV:=s1.trans s2
 have ai:X≠Z:=λz=>by rw [<- z,e1] at n2;cases n2
 have a5:H Z=none:=s1.free n2
 rw?
 apply jy (lJ ?_)
 refine ⟨l,es,n,rfl,fV _ _ hl,hR.up fV,HE,λTT ls H3 s3 Hq ae ajW _=>?_⟩
 have aQ:ls.length=(parts j6 es es.length).length:=by rw [<- ae,iI]
 obtain ⟨a1,a2⟩:=Hq.own (s2 _ _ e1)
 obtain ⟨b1,b2⟩:=Hq.own e2
 have hF:∀i,((parts j6 es es.length).take i).flatten.length<=40:=λi=>by
  have q1:=Pk (l:=parts j6 es es.length) i
  rw [Cp,qN] at q1
  have q2:(es.filter j6).length<=es.length:=Ub ..
  try?
 refine ⟨TT,rfl,⟨_,bS.of Hq.at_⟩,gX (xs:=lrefs ls) (λi σ I=>Xs4 λ(xs zs:0#n) (v5 v6:Option V)=>σ=[some (.ref l),some (.ref pb),some (.ref X),some (.ref Z),v5,v6]/\ao H I/\LL H2 I TT ls/\I X=some (.lst xs)/\I Z=some (.lst zs)/\xs.length<=2*((parts j6 es es.length).take i).flatten.length/\zs.length<=((parts j6 es es.length).take i).flatten.length) ?_ ?_ ?_ ?_⟩
 ·exact ⟨[],[],none,none,rfl,fV.trans s3,Hq,(s2.trans s3) _ _ e1,s3 _ _ e2,jV _,gI _⟩
 ·rintro i σ I _ ⟨xs,zs,v5,v6,rfl,O,R,_⟩
  exact bS.of R.at_
 ·rintro i x σ I hx ⟨xs,zs,v5,v6,rfl,O,R,U,eZ,N,aZ⟩
  refine fP λM B RR aK _ _=>?_
  obtain ⟨x,gx,rfl⟩:=rB hx
  have hi:i<ls.length:=(tP.mp gx).1
  have V9:=g8 gx
  have hp:(parts j6 es es.length)[i]?=some x.2:=by rw [<- ae,gF,gx];rfl
  obtain ⟨o1,o2,o3⟩:=rD es.length x.2 (g8 hp)
  rw [qN] at o3
  obtain ⟨_,ex,_⟩:=R.each x V9
  have aU:1<=x.2.length:=JJ.mpr o1
  have ahB:x.2.length<=40:=g9 o3.length_le HE
  have L:Row I x.2 n:=λz hz=>hR.up O z (o3.subset hz)
  have af:rising x.2:=jJ.sublist o3
  have ak:((parts j6 es es.length).take (i+1)).flatten.length=((parts j6 es es.length).take i).flatten.length+x.2.length:=by
   rw [adO,hp,JK,jf]
   simp
  have hF1:=hF (i+1)
  rw?
  refine ⟨x.1,pb,x.2,β,n,nb,rfl,ex,L,o2,af,aU,by try?,hb.up O,lI,h1,hn,aR,λy5 Ll Lt ln Hu ks fl ro g s T5 f5 H5 v e5 nl5 aj ap ax J as hT5 aL hP al hk5 ht5=>?_⟩
  have aN:=aL.ch (T5,f5) (al.WJ hP lI)
  have ag:=aN.sep af
  have akU:ln.length=ks.length+1:=by
   have:=congrArg CJ J
   simpa using this
  have Wd:=O.trans v
  have ay:=R.up v
  obtain ⟨_,ad,_⟩:=ay.each x V9
  obtain ⟨xa,ga,fa⟩:=dM (L.up v) o2 (show 0<x.2.length by try?)
  obtain ⟨xb,gb,fb⟩:=dM (L.up v) o2 (show x.2.length-1<x.2.length by try?)
  obtain ⟨va,ea,_,a7⟩:=id fa
  obtain ⟨vb,eb,_,a8⟩:=id fb
  rw?
  apply ⟨.inl ⟨rfl,_,bS.of (v _ _ U)⟩,?_⟩
  apply ie ad (DL ga) ?_
  apply ie ad (J4 gb) ?_
  refine ⟨Ll,ln,mo x.2 0,mo x.2 (x.2.length-1),5*n+3*nb+7,rfl,ap,ax,by try?,by try?,a7.mono 0#u,a8.mono 0#u,by try?,hM,?_,λR6 ps S s6 nR6 ar akX=>?_⟩
  ·intro j hj
   rw [J]
   exact ag j 0#u
  have G:=v.trans s6
  have Y:=G _ _ U
  have an:=s6 _ _ e5
  rw?
  refine Jz Y ar (wG (bg 0#u)) ?_
  have aw:upd S X (.lst (xs++ps)) X=some (.lst (xs++ps)):=au
  have ac:upd S X (.lst (xs++ps)) Z=some (.lst zs):=by rw [aF (jx ai)];exact G _ _ eZ
  have am:Lt≠X:=λz=>by rw [z,U] at aj;cases aj
  have av:upd S X (.lst (xs++ps)) Lt=some (.lst (Hu.map λx=>V.ref x.1)):=by rw [aF am];exact s6 _ _ as
  have aE:LL H2 (upd S X (.lst (xs++ps))) TT ls:=(R.up G).other a1 a2
  have a6:ao H (upd S X (.lst (xs++ps))):=bP (O.trans G) n1
  have e57:=tK (zs:=xs++ps) Y an
  generalize upd S X (.lst (xs++ps))=H7 at *
  rw?
  apply ⟨.inl ⟨rfl,_,bS.of ac⟩,?_⟩
  refine Jz ac av (by rw [iI];exact wG (bg 0#u)) ?_
  exact aK _ _ ⟨xs++ps,zs++Hu.map (λx=>V.ref x.1),_,_,rfl,bP a6 a5,aE.other b1 b2,by rw [aF ai];exact aw,au,by rw [ak,jf];try?,by rw [ak,jf,iI];try?⟩
 ·rintro σ I ⟨xs,zs,v5,v6,rfl,O,R,U,eZ,N,aZ⟩
  rw [gn,aQ,qN] at N
  rw?
  refine aG (mk:=.tup) 0#w λy H5 v n5 e5=>?_
  exact k y X Z xs H5 (O.trans v) e5 (v _ _ U) N
noncomputable def upto (t:Int) (e:En):Bool:=decide (e.2.1<=t)
noncomputable def oV (es:0#h):Nat->Nat
 | 0=>0
 | i+1=>if (es[i]?).elim false (λe=>!j6 e)=true then i+1 else oV es i
def Ja (es:0#h):∀i,oV es i<=i
 | 0=>gI _
 | i+1=>by
   unfold oV
   split
   ·exact gI _
   ·exact Uo (Ja es i)
noncomputable def mZ (es:0#h) (i:Nat):List Nat:=(jg i).filter λj=>(es[j]?).elim false λe=>!j6 e
def Jb (es:0#h):∀i,(mZ es i=[]/\oV es i=0)\/∃g,(mZ es i).getLast?=some g/\oV es i=g+1
 | 0=>.inl ⟨rfl,rfl⟩
 | i+1=>by
   have e:mZ es (i+1)=mZ es i++(if (es[i]?).elim false (λe=>!j6 e)=true then [i] else []):=by
    unfold mZ
    rw [G2,OC]
    congr 1
    simp only [CD,adF]
   unfold oV
   split
   ·rename_i h
    rw [e,if_pos h]
    exact .inr ⟨i,by simp,rfl⟩
   ·rename_i h
    rw [e,if_neg h,Ar]
    exact Jb es i
def MJ {g:Nat} (h:js.getLast?=some g):uD (gY js) (-1)=some (.int (g:Int)):=by
 rw [List.getLast?_eq_getElem?] at h
 have hl:=(tP.mp h).1
 unfold uD
 rw [j3,DP (m:=js.length-1) 0#z]
 show (gY js)[js.length-1]?=_
 unfold gY
 rw [gF,h]
 rfl
def aeN {m:Nat} (h:m<=xs.length):lF xs none (some (m:Int))=xs.take m:=by
 have:=aeM (xs:=xs) (n:=0) (m:=m) (jV _) h
 rw [List.drop_zero,Nat.sub_zero] at this
 rw [<- this]
 rfl
inductive BX (vs:List V) (H:Hp) (Q:VK) (E_:XK):Prop where
 | mk (l:ah) (es:0#h) (t:Int) (n:Nat):vs=[.ref l,.int t]->H l=some 0#R->Row H es n->es.length<=40->(∀(D:ah) (H':Hp),ao H H'->H D=none->H' D=some (.lst (vals (es.filter (upto t))))->Q (.ref D) H')->BX vs H Q E_
inductive GH (vs:List V) (H:Hp) (Q:VK) (E_:XK):Prop where
 | mk (l:ah) (es:0#h) (n:Nat):vs=[.ref l]->H l=some 0#R->Row H es n->es.length<=40->(∀(y A B:ah) (H':Hp),ao H H'->H' y=some (.tup [.ref A,.ref B])->H' A=some (.lst (vals (es.take (oV es es.length))))->H' B=some (.lst (vals (es.drop (oV es es.length))))->Q (.ref y) H')->GH vs H Q E_
def yD:dR 2 [cz,aM] kr:=0#t
def xW (F:fU K "settled_entries" kr f fd):0#b 1 f fd [cz,aM] BX:=by
 refine F.fq yD 0#a
 obtain ⟨l,es,t,n,rfl,Y,M,hn,k⟩:=h
 apply bI ⟨_,(aA (aW (pR (O:=["entry"]) (N':=[aM]) (cap:=[1]) rfl (gQ K 0#A) (λ_ _ _ _ _=>(cG (i:=0) (show mL [("entry":Str),("moment":Str)] by decide +kernel) rfl 0#D)) (λ_ _ _ _ _=>(Jd.pU (bx Jr (cY (Vo K) 0#A aH 0#B) 0#H 1#a))) (λ_ _ _ _ _=>0#A) rfl ⟨0#T,trivial⟩ rfl 0#x rfl 0#x))),?_⟩
 apply lJ ?_
 refine ⟨l,rfl,⟨_,bS.of Y⟩,?_⟩
 refine d8 (xs:=vals es) dm (λz I=>bS.of (I _ _ Y)) (by rw [aY];try?) (λi R G=>R=vals ((es.take i).filter (upto t))) rfl ?_ ?_
 ·rintro D i x R z nQ N N0 Z S L I hx hy rfl kY kN
  obtain ⟨e,U,rfl⟩:=jw hx
  obtain ⟨u,ee,du,_⟩:=((M e (g8 U)).up I).obj
  have J:=Oq (upto t) es i e U
  apply jB Z ?_
  refine cJ 0#K 0#K
  ·have v:upto t e=true:=jN (kO c)
   rw [v,if_pos rfl] at J
   rw?
   exact kY _ z 0#V (by rw [J,<- gr])
  ·have v:upto t e=false:=mJ (jF (gH.mpr c))
   rw [v,if_neg pJ,Ar] at J
   exact kN z 0#V (by rw [J])
 ·rintro D R z S L I hy rfl
  rw [aY,qN] at L
  exact k D z I S L
def lU:dR 1 ["settled","gaps","behind"] nA:=0#t
def Bj (F:fU K "parted_at_gap" nA f fd) (T:Txt mg):0#b 1 f fd ["settled"] GH:=by
 refine F.fq lU 0#a
 obtain ⟨l,es,n,rfl,hl,ad,hn,k⟩:=h
 apply bI ⟨_,(aq (Jd.oh (O:=["place","entry"]) (N':=[]) (cap:=[]) (i:=1) lU.nd rfl 0#D rfl (Jd.DX K rfl T.EG (cP 0#A)) (λ_ _ _ _ _=>(Jd.QM K (n:=2) rfl (iE (cG (i:=0) (show mL [("place":Str),("entry":Str)] by decide +kernel) rfl 0#D) (iE (cG (i:=1) (show mL [("place":Str),("entry":Str)] by decide +kernel) rfl 0#D) rj)))) (λ_ _ _ _ _=>(Jd.pU (bx sI (cY (Vo K) 0#H aH 0#B) eF 1#a))) (λ_ _ _ _ _=>0#A) rfl trivial rfl 0#x rfl 0#x (by rfl)) (aq (aV 2 lU.nd (wM (bx iF (ir K T.kK 0#H) aH 1#a) (aX dN (cY (lX K) 0#H (iu eG aH) 0#B) aH) aH)) (aA (aW (b9 (bN (uJ (slL K) 0#A uK (uL 0#P)) (uJ (slL K) 0#A (uL 0#P) uK))))))),?_⟩
 apply Yi ?_
 refine ⟨l,_,rfl,bS.of hl,?_⟩
 refine Pe (xs:=vals es) (λH3 s3=>bS.of (s3 _ _ hl)) (by rw [aY];try?) (λi ys G=>ys=gY (mZ es i)) rfl ?_ ?_
 ·rintro D i x ys H3 I pp nQ N N0 h0 hD eD s3 M ep hx hy rfl kY kN
  obtain ⟨e,he,rfl⟩:=jw hx
  obtain ⟨u,ee,du,_⟩:=((ad e (g8 he)).up (s3.trans M)).obj
  have ts:mZ es (i+1)=mZ es i++(if (!j6 e)=true then [i] else []):=by
   unfold mZ
   rw [G2,OC]
   congr 1
   simp only [CD,adF,he,Option.elim]
  apply F4 h0 ep ?_
  apply ⟨rfl,?_⟩
  rw [du]
  cases hs:e.2.2.isSome with
  | true=>
    have Y:j6 e=true:=hs
    rw [Y,if_neg 0#y,Ar] at ts
    refine bO ?_
    exact kN I 0#V (by rw [ts])
  | false=>
    have Y:j6 e=false:=hs
    rw [Y,if_pos (show (!false)=true from rfl)] at ts
    apply cD ?_
    exact kY _ I 0#V (by rw [ts,<- sG])
 ·rintro D ys H3 hD eD s3 hy rfl
  rw [aY] at eD
  have L:=s3 _ _ hl
  have ac:∀b:Nat,b=oV es es.length->∀(v:V),v=.int (b:Int)->∀(R:ah) (I:Hp),ao H3 I->I R=some (.lst (lF (vals es) none (some (b:Int))))->∀(S:ah) (U:Hp),ao I U->U S=some (.lst (lF (vals es) (some (b:Int)) none))->∀(y:ah) (J:Hp),ao U J->J y=some (.tup [.ref R,.ref S])->Q (.ref y) J:=λb hb v hv R I M eA S U s5 eB y J Z ey=>by
   have ae:b<=es.length:=hb▸Ja es es.length
   rw [ajH,show (vals es).drop b=vals (es.drop b) by unfold vals;rw [List.map_drop]] at eB
   rw [show lF (vals es) none (some (b:Int))=vals (es.take b) by rw [aeN (by rw [aY];exact ae)];unfold vals;rw [List.map_take]] at eA
   subst hb
   exact k y R S J (s3.trans (M.trans (s5.trans Z))) ey ((s5.trans Z) _ _ eA) (Z _ _ eB)
  rw?
  refine gR (.inl (bS.of eD)) ?_
  rw [j3]
  rw?
  rcases Jb es es.length with ⟨e0,e1⟩ | ⟨g,e0,e1⟩
  ·rw [e0]
   refine bO ?_
   walk_at "vd"
   refine Cr L λR I M n4 e4=>?_
   walk_at "vd"
   apply Cr (M _ _ L) λS U s5 n5 e5=>?_
   refine aG (mk:=.tup) 0#w λy J Z n6 e6=>?_
   exact ac 0 e1.symm _ rfl R I M e4 S U s5 e5 y J Z e6
  ·have hne:0<(mZ es es.length).length:=by
    rcases List.eq_nil_or_concat (mZ es es.length) with z | ⟨_,_,z⟩
    ·rw [z] at e0;cases e0
    ·rw [z];simp
   rw [jN (show (0:Int)<((mZ es es.length).length:Int) by simp?)]
   apply cD ?_
   refine ie eD (MJ e0) ?_
   walk_at "vd"
   refine Cr L λR I M n4 e4=>?_
   walk_at "vd"
   apply Cr (M _ _ L) λS U s5 n5 e5=>?_
   refine aG (mk:=.tup) 0#w λy J Z n6 e6=>?_
   exact ac (g+1) e1.symm _ rfl R I M e4 S U s5 e5 y J Z e6
def cj (hc:decide (a=b)=c) (q:Q (.bl c) H):rEq (.str a) (.str b) H Q:=⟨rfl,by
 rw [show decide (V.str a=V.str b)=c from hc▸JN.mpr ⟨λh=>V.str.inj h,λh=>congrArg V.str h⟩]
 exact q⟩
inductive Wy
 | ap | jo | sp | ch
noncomputable def GW:Wy->Str
 | .ap => "apart"
 | .jo => "joined"
 | .sp => "spans"
 | .ch => "chain"
def Rq:dR 3 [cz,eN,aJ] BF:=0#t
inductive wg (C:ah) (vs:List V) (H:Hp) (Q:VK) (E_:XK):Prop where
 | mk (l pb:ah) (wy:Wy):vs=[.ref l,.str (GW wy),.ref pb]->(wy=.ap->Ae [.ref l,.ref pb] H Q E0)->(wy=.jo->vZ C [.ref l,.ref pb] H Q E0)->(wy=.sp->vz false [.ref l,.ref pb] H Q E0)->(wy=.ch->vz true [.ref l,.ref pb] H Q E0)->wg C vs H Q E_
noncomputable def Oc (es:0#h) (u:Int):List En:=es.filter (upto u)
noncomputable def ahd (es:0#h) (u:Int):List En:=(Oc es u).take (oV (Oc es u) (Oc es u).length)
noncomputable def bhd (es:0#h) (u:Int):List En:=(Oc es u).drop (oV (Oc es u) (Oc es u).length)
def Sm (es:0#h):Prop:=es.length<=40/\(es.filter j6).length<=30
def Sm.sub (h:Sm es) (s:as.Sublist es):Sm as:=⟨g9 s.length_le h.1,g9 (s.filter j6).length_le h.2⟩
def M0 {α:Type}:∀{ls:List (List α)},(∀r∈ls,r≠[])->ls.length<=ls.flatten.length
 | [],_=>gI _
 | r::ls,h=>by
   have:=M0 (ls:=ls) λx hx=>h x (DF _ hx)
   have:=JJ.mpr (h r (CA ..))
   rw [OE,jf,IL]
   simp?
def Sm.runs (h:Sm es):(parts j6 es es.length).length<=33/\∀r∈parts j6 es es.length,r.length<=30:=by
 have e:(parts j6 es es.length).flatten=es.filter j6:=by rw [sL,qN]
 constructor
 ·have:=M0 (ls:=parts j6 es es.length) λr u=>(rD es.length r u).1
  rw [e] at this
  have:=h.2
  simp?
 ·intro r u
  have:=(List.sublist_flatten_of_mem u).length_le
  rw [e] at this
  exact g9 this h.2
def tH {C l pb:ah} {es:0#h} {β:Rat} {wy:Wy} {H:Hp} {Q:VK} (hl:H l=some 0#R) (hR:Row H es 160) (hre:rising es) (h30:Sm es) (fb:c8 H pb β 150) (lI:0<=β) (k:∀(y X Z:ah) (xs:0#n) (H':Hp),ao H H'->H' y=some (.tup [.ref X,.ref Z])->H' X=some (.lst xs)->xs.length<=990->((wy=.ap\/wy=.jo)->xs.length<=60)->Q (.ref y) H'):wg C [.ref l,.str (GW wy),.ref pb] H Q E0:=by
 obtain ⟨D,E⟩:=h30.runs
 have hf:(parts j6 es es.length).flatten.length<=30:=by rw [sL,qN];exact h30.2
 have G:∀(u:Bool),wy=(if u=true then .ch else .sp)->vz u [.ref l,.ref pb] H Q E0:=λu e=>⟨l,pb,rfl,l,pb,es,160,150,β,u,rfl,hl,hR,hre,h30.1,D,E,fb.qt,by decide,by decide,by decide,λy X Z ps H' s A nX v hP B hT=>k y X Z _ H' s A v (by rw [Bu];exact B) λz=>by subst e;cases u <;> rcases z with z | z <;> cases z⟩
 exact ⟨l,pb,wy,rfl,λe=>⟨l,pb,es,β,160,150,rfl,hl,hR,hre,h30.1,fb.qt,lI,by decide,by decide,by decide,λy X Z xs H' s A v I=>k y X Z xs H' s A v 0#z λ_=>by simp?⟩,λe=>⟨l,pb,es,β,160,150,rfl,hl,hR,hre,h30.1,fb,lI,by decide,by decide,by decide,by decide,λy X Z xs H' s A v I=>k y X Z xs H' s A v 0#z λ_=>by simp?⟩,λe=>G false e,λe=>G true e⟩
def SA (xs:0#n) (n:Nat) (h:0<n):lF xs none (some (-(n:Int)))=xs.take (xs.length-n):=by
 have e:HT.JD xs.length xs.length (some (-(n:Int)))=xs.length-n:=by
  show (if -(n:Int)<0 then (-(n:Int)+(xs.length:Int)).toNat else min (-(n:Int)).toNat xs.length)=xs.length-n
  rw [if_pos 0#z]
  simp?
 unfold lF
 rw [e]
 rfl
inductive BN (vs:List V) (H:Hp) (Q:VK) (E_:XK):Prop where
 | mk (l pb:ah) (es:0#h) (β:Rat) (wy:Wy):vs=[.ref l,.str (GW wy),.ref pb]->H l=some 0#R->Row H es 160->rising es->Sm es->c8 H pb β 150->0<=β->(∀(R:ah) (xs:0#n) (H':Hp),ao H H'->H' R=some (.lst xs)->xs.length<=60->((wy=.sp\/wy=.ch)->xs=[])->Q (.ref R) H')->BN vs H Q E_
inductive RM (vs:List V) (H:Hp) (Q:VK) (E_:XK):Prop where
 | mk (l pb:ah) (es:0#h) (β:Rat) (wy:Wy) (u:Int):vs=[.ref l,.str (GW wy),.ref pb,.int u]->H l=some 0#R->Row H es 160->rising es->Sm es->c8 H pb β 150->0<=β->(∀(R:ah) (xs:0#n) (H':Hp),ao H H'->H' R=some (.lst xs)->Q (.ref R) H')->RM vs H Q E_
def N2 {P:fT} {w:dO} {K:bU} {mg:0#g} {base:cH} {f az:ah} {fd:ia} (F:fU K "told_by" BF f fd) (Eh:0#c 9 "apart" [cz,aJ] Ae) (AG:0#c 9 "joined" [cz,aJ] (vZ az)) (J0:0#c 8 "spans" [cz,aJ] (vz false)) (JX:0#c 8 "chain" [cz,aJ] (vz true)):0#b 10 f fd [cz,eN,aJ] (wg az):=by
 refine F.fq Rq 0#a
 obtain ⟨l,pb,wy,rfl,u,v,z,B⟩:=h
 apply bI ⟨_,(aq (bK (bx cN 0#H bG 1#a) (aA (aW (cg Eh hr 0#A 0#P))) bL) (aq (bK (bx cN 0#H bG 1#a) (aA (aW (cg AG hr 0#A 0#P))) bL) (aq (bK (bx cN 0#H bG 1#a) (aA (aW (cg J0 hr 0#A 0#P))) bL) (aA (aW (cg JX hr 0#A 0#P)))))),?_⟩
 cases wy with
 | ap=>
   refine cj (c:=true) 0#x ?_
   refine 0#M
   apply cD ?_
   exact u rfl
 | jo=>
   refine cj (c:=false) 0#x ?_
   refine 0#M
   apply bO ?_
   refine cj (c:=true) 0#x ?_
   refine 0#M
   apply cD ?_
   exact v rfl
 | sp=>
   refine cj (c:=false) 0#x ?_
   refine 0#M
   apply bO ?_
   refine cj (c:=false) 0#x ?_
   refine 0#M
   apply bO ?_
   refine cj (c:=true) 0#x ?_
   refine 0#M
   apply cD ?_
   exact z rfl
 | ch=>
   refine cj (c:=false) 0#x ?_
   refine 0#M
   apply bO ?_
   refine cj (c:=false) 0#x ?_
   refine 0#M
   apply bO ?_
   refine cj (c:=false) 0#x ?_
   refine 0#M
   apply bO ?_
   exact B rfl
def pY:dR 3 ["run",eN,aJ,"pieces"] lN:=0#t
def zG {P:fT} {w:dO} {K:bU} {mg:0#g} {base:cH} {f az:ah} {fd:ia} (F:fU K "certain_of_run" lN f fd) (iy:0#c 10 "told_by" [cz,eN,aJ] (wg az)):0#b 11 f fd ["run",eN,aJ] BN:=by
 refine F.fq pY 0#a
 obtain ⟨l,pb,es,β,wy,rfl,L,J,D,B,fb,M,k⟩:=h
 apply bI ⟨_,(aq (bK (iW (Jd.zP (bx cN 0#H bG 1#a) (Jd.sO (bx cN 0#H bG 1#a)))) (aA (aW (fM gT))) bL) (aq (aV 3 pY.nd (aO K (Jd.c3 iy hr 0#A 0#H 0#P))) (aA (aW (wM (bx cN 0#H bG 1#a) (uJ (slL K) 0#X uK (uL (iu eG aH))) (uJ (slL K) 0#X uK (uL (iu eG aH)))))))),?_⟩
 cases wy with
 | sp=>
   apply cj (c:=true) 0#x ?_
   apply cD ?_
   apply cD ?_
   refine aG (mk:=.lst) 0#w λR v s1 O e1=>?_
   exact k R [] v s1 e1 (jV _) λ_=>rfl
 | ch=>
   apply cj (c:=false) 0#x ?_
   apply bO ?_
   apply cj (c:=true) 0#x ?_
   apply cD ?_
   refine aG (mk:=.lst) 0#w λR v s1 O e1=>?_
   exact k R [] v s1 e1 (jV _) λ_=>rfl
 | ap=>
   apply cj (c:=false) 0#x ?_
   apply bO ?_
   apply cj (c:=false) 0#x ?_
   apply bO ?_
   apply tH L J D B fb M λy X Z ps v s1 N I _ u=>?_
   apply cj (c:=true) 0#x ?_
   refine cD ?_
   walk_at "vd"
   refine Cr I λS G s2 U e2=>?_
   rw [show (some (-1:Int))=some (-((1:Nat):Int)) from rfl,SA _ _ 0#y] at e2
   exact k S _ G 1#h e2 (g9 (by rw [IM];simp?) (u (.inl rfl))) λz=>by rcases z with z | z <;> cases z
 | jo=>
   apply cj (c:=false) 0#x ?_
   apply bO ?_
   apply cj (c:=false) 0#x ?_
   apply bO ?_
   apply tH L J D B fb M λy X Z ps v s1 N I _ u=>?_
   apply cj (c:=false) 0#x ?_
   refine bO ?_
   walk_at "vd"
   refine Cr I λS G s2 U e2=>?_
   rw [show (some (-2:Int))=some (-((2:Nat):Int)) from rfl,SA _ _ 0#y] at e2
   exact k S _ G 1#h e2 (g9 (by rw [IM];simp?) (u (.inr rfl))) λz=>by rcases z with z | z <;> cases z
def TN:dR 4 [cz,eN,aJ,aM,"parts"] Rm:=0#t
def abi {P:fT} {w:dO} {K:bU} {mg:0#g} {base:cH} {f az:ah} {fd:ia} (F:fU K "sure" Rm f fd) (T:Txt mg) (kh:0#c 1 "settled_entries" [cz,aM] BX) (mV:0#c 1 "parted_at_gap" ["settled"] GH) (iy:0#c 10 "told_by" [cz,eN,aJ] (wg az)) (lu:0#c 11 "certain_of_run" ["run",eN,aJ] BN):0#b 12 f fd [cz,eN,aJ,aM] RM:=by
 refine F.fq TN 0#a
 obtain ⟨l,pb,es,β,wy,u,rfl,hl,J,G,z,fb,Y,k⟩:=h
 have sub:(Oc es u).Sublist es:=Ui
 have B:(ahd es u).Sublist es:=(Um _ _).trans sub
 have v:(bhd es u).Sublist es:=(Uq _ _).trans sub
 apply bI ⟨_,(aq (aV 4 TN.nd (Jd.c1 mV hr (cg kh hr 0#A 0#X))) (aA (aW (aX Bq (aO K (Jd.c3 iy hr (aO K (aa 4)) 0#H 0#P)) (Jd.c3 lu hr (aO K (aa 4)) 0#H 0#P))))),?_⟩
 apply ⟨l,es,u,160,rfl,hl,J,z.1,λD H1 s1 nD eD=>?_⟩
 refine ⟨D,Oc es u,160,rfl,eD,λx I=>(J.up s1) x (sub.subset I),g9 sub.length_le z.1,λy A' B' H2 s2 ey eA eB=>?_⟩
 have M:=s1.trans s2
 rw?
 refine tH (es:=ahd es u) (β:=β) eA (λx I=>(J.up M) x (B.subset I)) (G.sublist B) (z.sub B) (fb.up M) Y λy3 X3 Z3 ps3 H3 O ey3 L U S=>?_
 have eyP:=O _ _ ey
 have N:=M.trans O
 rw?
 apply ⟨B',pb,bhd es u,β,wy,rfl,O _ _ eB,λx I=>(J.up N) x (v.subset I),G.sublist v,z.sub v,fb.up N,Y,λR4 ps4 H4 s4 e4 m6 Z=>?_⟩
 refine Jy (s4 _ _ L) e4 ?_
 refine aG (mk:=.lst) ?_ λR H5 s5 n5 e5=>?_
 ·rw [jf]
  cases wy with
  | ap=>have:=S (.inl rfl);simp?
  | jo=>have:=S (.inr rfl);simp?
  | sp=>rw [Z (.inl rfl)];exact g9 U 0#y
  | ch=>rw [Z (.inr rfl)];exact g9 U 0#y
 ·exact k R _ H5 (N.trans (s4.trans s5)) e5
noncomputable def Tc (q:Int×Int):Bool:=decide (1<=q.2)&&decide (cL q.1 q.2=1)
inductive RA (vs:List V) (H:Hp) (Q:VK) (E_:XK):Prop where
 | mk (p:ah) (a b:Int):vs=[.ref p]->H p=some (.tup [.int a,.int b])->Sz 8000 a->Sz 8000 b->(∀H',ao H H'->Q (.bl (Tc (a,b))) H')->RA vs H Q E_
def Gk:dR 1 ["pair"] qF:=0#t
def Fw (F:fU K "is_fraction" qF f fd) (gh:aai P w K mg base):0#b 3 f fd ["pair"] RA:=by
 refine F.fq Gk 0#a
 obtain ⟨p,a,b,rfl,hp,B,D,k⟩:=h
 apply bI ⟨_,(aA (aW (Jd.uR (pS Jq 1#d aH 1#a) (Jd.yc (pS cN (cg gh hr 1#d 1#d) aH 1#a))))),?_⟩
 unfold Tc at k
 refine cJ 0#K 0#K
 ·rw [jN (kO c)] at k
  rw?
  apply ⟨a,b,rfl,B,D,λv z=>?_⟩
  have:=k v z
  rw [Bool.true_and] at this
  have e:decide (((cL a b:Nat):Int)=1)=decide (cL a b=1):=JN.mpr 0#u
  rw [e]
  exact this
 ·rw [mJ (jF (gH.mpr c))] at k
  exact k H 0#V
def ab6 (h:es[i]?=some x):mo es i=x.2.1:=by unfold mo;rw [h];rfl
def ab9 (h:Qt t b q) (hq:0<=q):0<=t:=by
 have u:(0:Rat)<=(b:Rat):=by have:=cast_pos (b:=b) (by have:=h.pos;simp?);grind
 have:((0:Int):Rat)<=(t:Rat):=by rw [h.eq];exact adK hq u
 exact Ot.mp this
def WO (h:Fr t b q):Tc (t,b)=true:=by
 unfold Tc
 rw [jN (show (1:Int)<=b by have:=h.pos;simp?),jN h.co]
 rfl
inductive GP (vs:List V) (H:Hp) (Q:VK) (E_:XK):Prop where
 | mk (l:ah) (es:0#h) (n i:Nat):vs=[.ref l,.int (i:Int)]->H l=some 0#R->Row H es n->rising es->i<es.length->es.length<=40->n<=8000->(∀H',ao H H'->Q (.bl false) H')->GP vs H Q E_
inductive yE (vs:List V) (H:Hp) (Q:VK) (E_:XK):Prop where
 | mk (l:ah) (es:0#h) (n:Nat):vs=[.ref l]->H l=some 0#R->Row H es n->rising es->es.length<=40->n<=8000->(∀(R:ah) (H':Hp),ao H H'->H R=none->H' R=some 0#R->Q (.ref R) H')->yE vs H Q E_
inductive RN (vs:List V) (H:Hp) (Q:VK) (E_:XK):Prop where
 | mk (wy:Wy):vs=[.str (GW wy)]->Q .bM H->RN vs H Q E_
inductive LS (vs:List V) (H:Hp) (Q:VK) (E_:XK):Prop where
 | mk (p:ah) (t b:Int):vs=[.ref p]->H p=some (.tup [.int t,.int b])->0<=t->Q .bM H->LS vs H Q E_
inductive Rz (vs:List V) (H:Hp) (Q:VK) (E_:XK):Prop where
 | mk (l pb:ah) (es:0#h) (β:Rat) (wy:Wy):vs=[.ref l,.str (GW wy),.ref pb]->H l=some 0#R->Row H es 160->rising es->Sm es->c8 H pb β 150->0<=β->(∀(y X Z:ah) (xs:0#n) (H':Hp),ao H H'->H' y=some (.tup [.ref X,.ref Z])->H' X=some (.lst xs)->Q (.ref y) H')->Rz vs H Q E_
def Cu:dR 2 [cz,"place","value"] yg:=0#t
def NL (F:fU K "is_wrong" yg f fd) (T:Txt mg) (AB:Cn mg "MOST" 40) (qo:0#c 3 "is_fraction" ["pair"] RA):0#b 4 f fd [cz,"place"] GP:=by
 refine F.fq Cu 0#a
 obtain ⟨l,es,n,i,rfl,G,M,jJ,N,HE,O,k⟩:=h
 obtain ⟨x,D⟩:∃x,es[i]?=some x:=⟨_,jE N⟩
 obtain ⟨v,ev,hv,R⟩:=(M x (g8 D)).obj
 refine bI (Jd.cut 2 (λS H'=>S=[some (.ref l),some (.int (i:Int)),none]/\H'=H) ?_ λu hu L=>?_)
 ·refine ⟨_,(aq (aV 2 Cu.nd (aO K (cY (lX K) 0#A 0#H 0#B))) (aA (aW (Jd.uR (pS jr 0#P eF 1#a) (Jd.yc (Jd.QJ (Jd.c1 qo hr 0#P))))))),?_⟩
  rintro S U ⟨rfl,rfl⟩
  rw?
  apply ie G (fE D rfl) ?_
  apply ⟨rfl,?_⟩
  rcases R with rfl | ⟨p,q,rfl,R,t,b,Z,fr,zt,zb⟩
  ·refine bO ?_
   exact k U 0#V
  ·apply cD ?_
   refine ⟨p,t,b,rfl,Z,zt.mono O,zb.mono O,λY s2=>?_⟩
   rw [WO fr]
   rw?
   exact k Y s2
 apply ⟨_,(aq (bK (bx Jq 0#H (Jd.FL rfl AB) 1#a) (aA (aW j0)) bL) (aq (bK (iW (mw (bx iF 0#H aH 1#a) (mz (bx Jr (aO K (cY (lX K) 0#A 0#H 0#B)) (aO K (cY (lX K) 0#A (aX dF 0#H aH) 0#B)) 1#a)))) (aA (aW j0)) bL) hu)),?_⟩
 rw [mJ (show ¬(i:Int)>=40 by simp?)]
 apply bO ?_
 refine cJ 0#K 0#K
 ·have c:(i:Int)>0:=kO c
  obtain ⟨y,J⟩:∃y,es[i-1]?=some y:=⟨_,jE 0#z⟩
  obtain ⟨v',ev',_⟩:=(M y (g8 J)).obj
  have I:=jK jJ (show i-1<i by simp?) N
  rw [ab6 D,ab6 J] at I
  rw?
  apply ie G (fE D rfl) ?_
  apply ie G (fE J 0#z) ?_
  rw [mJ (show ¬x.2.1<=y.2.1 by simp?)]
  apply bO ?_
  exact L _ _ ⟨rfl,rfl⟩
 ·rw?
  apply bO ?_
  exact L _ _ ⟨rfl,rfl⟩
def Gj:dR 1 [cz,"place"] By:=0#t
def Qq (F:fU K "checked" By f fd) (T:Txt mg) (xB:0#c 4 "is_wrong" [cz,"place"] GP):0#b 5 f fd [cz] yE:=by
 refine F.fq Gj 0#a
 obtain ⟨l,es,n,rfl,G,M,O,L,N,k⟩:=h
 apply bI ⟨_,(aq (iV j9 rfl (E1 rfl T.range (cP (ir K T.kK 0#A))) (cG (i:=1) Gj.nd rfl 0#D) (aA (bK (gw (cg xB hr 0#A 0#H)) (aA Jd.o4) bL))) (aA (aW (Jd.rE yQ rfl T.Td Ua (cP 0#A))))),?_⟩
 apply jy (Bv ?_)
 refine gR (.inl (bS.of G)) ?_
 rw [aY]
 rw?
 refine ⟨_,rfl,by simp?,by simp?,iP (λi I z=>ao H z/\∃v:Option V,I=[some (.ref l),v]) ⟨ao.refl _,none,rfl⟩ ?_ ?_⟩
 ·rintro i I z B ⟨u,v,rfl⟩
  have B:i<es.length:=by simpa using B
  rw [show (0:Int)+(i:Int)=(i:Int) by simp?]
  rw?
  apply ⟨l,es,n,i,rfl,u _ _ G,M.up u,O,B,L,N,λH4 S=>?_⟩
  apply bO ?_
  exact ⟨u.trans S,_,rfl⟩
 ·rintro I z ⟨u,v,rfl⟩
  rw?
  refine ⟨l,_,rfl,.inl (bS.of (u _ _ G)),λR J=>?_⟩
  exact k R _ (u.trans (iG J _)) (u.free J) au
def z9:dR 1 [eN] pW:=0#t
def KS (F:fU K "check_way" pW f fd) (AI:mg "WAYS"=some (.ref xQ)) (hw:∀H,qR K H xQ [.str "apart",.str "joined",.str "spans",.str "chain"]):0#b 1 f fd [eN] RN:=by
 refine F.fq z9 0#a
 obtain ⟨wy,rfl,k⟩:=h
 apply bI ⟨_,(aA (bK (bx (NI K) 0#A (Jd.ab8 rfl AI) rfl) (aA Jd.o4) bL)),?_⟩
 refine ⟨xQ,_,rfl,.inr (hw H),rfl,by decide,?_⟩
 have e:O1 (.str (GW wy)) [V.str "apart",.str "joined",.str "spans",.str "chain"]=true:=by cases wy <;> decide +kernel
 rw [e]
 rw?
 apply bO ?_
 exact k
def vg:dR 1 [aJ] mh:=0#t
def Fq (F:fU K "check_bound" mh f fd):0#b 1 f fd [aJ] LS:=by
 refine F.fq vg 0#a
 obtain ⟨p,t,b,rfl,hp,h0,k⟩:=h
 apply bI ⟨_,(aA (bK (bx oZ 1#d aH 1#a) (aA Jd.o4) bL)),?_⟩
 rw [mJ (show ¬t<0 by simp?)]
 apply bO ?_
 exact k
def VM:dR 3 [cz,eN,aJ] Gd:=0#t
def VD {P:fT} {w:dO} {K:bU} {mg:0#g} {base:cH} {f az:ah} {fd:ia} (F:fU K "fewest" Gd f fd) (ur:0#c 1 "check_way" [eN] RN) (ql:0#c 1 "check_bound" [aJ] LS) (AF:0#c 5 "checked" [cz] yE) (iy:0#c 10 "told_by" [cz,eN,aJ] (wg az)):0#b 11 f fd [cz,eN,aJ] Rz:=by
 refine F.fq VM 0#a
 obtain ⟨l,Y,es,β,wy,rfl,S,z,D,u,B,G,k⟩:=h
 have v:=B
 obtain ⟨t,b,M,O,zt,zb⟩:=B
 have U:0<=t:=ab9 O.qt G
 apply bI ⟨_,(aq (dB (Jd.c1 ur hr 0#H) (hs:=cU)) (aq (dB (Jd.c1 ql hr 0#P) (hs:=cU)) (aA (aW (Jd.c3 iy hr (Jd.c1 AF hr 0#A) 0#H 0#P))))),?_⟩
 apply ⟨wy,rfl,?_⟩
 apply ⟨Y,t,b,rfl,M,U,?_⟩
 apply ⟨l,es,160,rfl,S,z,D,u.1,by decide,λR H1 s1 nR J=>?_⟩
 exact tH J (z.up s1) D u (v.up s1) G λy X Z xs I s2 N L _ _=>k y X Z xs I 1#h N L
noncomputable def cI {α:Type} (xs:List (Int×α)) (m:Int):Option α:=(xs.find? λx=>decide (x.1=m)).map (·.2)
noncomputable def i6 {α:Type} (xs:List (Int×α)) (m:Int) (y:α):List (Int×α):=if (xs.any λx=>decide (x.1=m))=true then xs.map (λx=>if x.1=m then (x.1,y) else x) else xs++[(m,y)]
noncomputable def uF {α:Type} (xs:List (Int×α)) (m:Int):List (Int×α):=xs.filter λx=>decide (x.1≠m)
noncomputable def t7 {α γ:Type} (f:α->γ) (xs:List (Int×α)):List (Int×γ):=xs.map λx=>(x.1,f x.2)
def DJ (xs:List (Int×α)) (m:Int):(xs.any λx=>decide (x.1=m))=(cI xs m).isSome:=by
 unfold cI
 induction xs with
 | nil=>rfl
 | cons x r ih=>
   rw [JR,DG]
   by_cases e:x.1=m
   ·simp [e]
   ·rw [mJ e,adV,ih]
def get_map (f:α->γ):cI (t7 f xs) m=(cI xs m).map f:=by
 unfold cI t7
 induction xs with
 | nil=>rfl
 | cons x r ih=>
   rw [uh,DG,DG]
   by_cases e:x.1=m
   ·simp [e]
   ·simp only [mJ e]
    exact ih
def zO (f:α->γ):i6 (t7 f xs) m (f y)=t7 f (i6 xs m y):=by
 unfold i6
 rw [DJ,DJ,get_map,CC]
 unfold t7
 split
 ·rw [Az,Az]
  refine Ox λx _=>?_
  show (if x.1=m then (x.1,f y) else (x.1,f x.2))=((if x.1=m then (x.1,y) else x).1,f (if x.1=m then (x.1,y) else x).2)
  split <;> rfl
 ·rw [jM];rfl
def MW (f:α->γ):uF (t7 f xs) m=t7 f (uF xs m):=by
 unfold uF t7
 rw [ZL]
 rfl
noncomputable def keyed {α:Type} (f:α->V) (xs:List (Int×α)):List (Key×V):=xs.map λx=>(Sum.inl x.1,f x.2)
def aau (a b:Int):decide ((Sum.inl a:Key)=Sum.inl b)=decide (a=b):=by
 by_cases e:a=b
 ·simp [e]
 ·rw [mJ e,mJ λz=>e (UE z)]
def gZ (f:α->V):tM (keyed f xs) (Sum.inl m)=(cI xs m).map f:=by
 unfold cI keyed tM
 induction xs with
 | nil=>rfl
 | cons x r ih=>
   rw [uh,DG,DG]
   show vG _ (match decide ((Sum.inl x.1:Key)=Sum.inl m) with | true=>_ | false=>_)=_
   rw [aau]
   by_cases e:x.1=m
   ·simp [e]
   ·simp only [mJ e]
    exact ih
def rJ (f:α->V):putK (keyed f xs) (Sum.inl m) (f y)=keyed f (i6 xs m y):=by
 unfold putK i6
 rw [DJ,GS,gZ,CC]
 unfold keyed
 split
 ·rw [Az,Az]
  refine Ox λx _=>?_
  show (if (Sum.inl x.1:Key)=Sum.inl m then (Sum.inl x.1,f y) else (Sum.inl x.1,f x.2))=((Sum.inl (if x.1=m then (x.1,y) else x).1:Key),f (if x.1=m then (x.1,y) else x).2)
  by_cases e:x.1=m
  ·rw [if_pos (by rw [e]),if_pos e]
  ·rw [if_neg λz=>e (UE z),if_neg e]
 ·rw [jM];rfl
def ED (f:α->V):Cd (keyed f xs) (Sum.inl m)=keyed f (uF xs m):=by
 unfold Cd uF keyed
 rw [ZL]
 congr 1
 refine List.filter_congr λx _=>?_
 show decide ((Sum.inl x.1:Key)≠Sum.inl m)=decide (x.1≠m)
 by_cases e:x.1=m
 ·simp [e]
 ·have u:¬(Sum.inl x.1:Key)=Sum.inl m:=λz=>e (UE z)
  simp [e,u]
def get_mem {y:α} (h:cI xs m=some y):(m,y)∈xs:=by
 unfold cI at h
 cases e:xs.find? λx=>decide (x.1=m) with
 | none=>rw [e] at h;cases h
 | some x=>
   rw [e] at h
   cases h
   have a:=List.find?_some e
   have b:=List.mem_of_find?_eq_some e
   rw [<- kO a]
   exact b
def get_none {xs:List (Int×α)}:cI xs m=none↔m∉xs.map (·.1):=by
 unfold cI
 rw [Option.map_eq_none_iff,List.find?_eq_none]
 constructor
 ·intro h v
  obtain ⟨x,u,e⟩:=kc.mp v
  exact absurd (jN e) (h x u)
 ·intro h x u e
  exact h (kO e▸List.mem_map_of_mem u)
def afg {y:α} (nd:(xs.map (·.1)).Nodup) (h:(m,y)∈xs):cI xs m=some y:=by
 induction xs with
 | nil=>cases h
 | cons x r ih=>
   obtain ⟨u,v⟩:=JO.mp nd
   unfold cI
   rw [DG]
   rcases kM.mp h with rfl | z
   ·simp
   ·have e:¬x.1=m:=λe=>u (kc.mpr ⟨_,z,e.symm⟩)
    simp only [mJ e]
    exact ih v z
def N5 {y:α}:(i6 xs m y).map (·.1)=if (cI xs m).isSome=true then xs.map (·.1) else xs.map (·.1)++[m]:=by
 unfold i6
 rw [DJ]
 split
 ·rw [Az]
  refine Ox λx _=>?_
  show (if x.1=m then (x.1,y) else x).1=x.1
  split <;> rfl
 ·rw [jM];rfl
def Q5 {y:α} (nd:(xs.map (·.1)).Nodup):((i6 xs m y).map (·.1)).Nodup:=by
 rw [N5]
 split
 ·exact nd
 ·rename_i c
  have z:=get_none.mp (acm.mp c)
  exact adi.mpr ⟨nd,acy _ _,λa u b v=>by
   obtain rfl:b=m:=by simpa using v
   exact λe=>z (e▸u)⟩
def pV {y:α} (h:z∈i6 xs m y):z=(m,y)\/z∈xs:=by
 unfold i6 at h
 split at h
 ·obtain ⟨x,u,e⟩:=kc.mp h
  by_cases c:x.1=m
  ·rw [if_pos c] at e
   exact .inl (by rw [<- e,c])
  ·rw [if_neg c] at e
   exact .inr (e▸u)
 ·rcases i8.mp h with z | z
  ·exact .inr z
  ·exact .inl (by simpa using z)
def Lp {y:α}:(i6 xs m y).length=if (cI xs m).isSome=true then xs.length else xs.length+1:=by
 have:=congrArg CJ (N5 (xs:=xs) (m:=m) (y:=y))
 rw [iI] at this
 rw [this]
 split
 ·rw [iI]
 ·rw [jf,iI];rfl
def aaw {xs:List (Int×α)} (nd:(xs.map (·.1)).Nodup):((uF xs m).map (·.1)).Nodup:=nd.sublist (Ui.map _)
def B8 {α:Type} (cs ls:List (Int×α)):Prop:=ls.Perm cs/\ls.Pairwise λa b=>a.1<b.1
def B8.uniq {cs:List (Int×α)} (h:B8 cs ls) (h':B8 cs ls'):ls=ls':=by
 refine List.Perm.eq_of_pairwise (le:=λa b:Int×α=>a.1<b.1) (λa b _ _ p q=>?_) h.2 h'.2 (h.1.trans h'.1.symm)
 simp?
local macro_rules | `(tactic| rw?) => `(tactic| walk_at "ve")
abbrev Cv:=Int×Option Rat
noncomputable def AU:Option (ah×Rat)->V
 | none=>.bM
 | some x=>.ref x.1
def ME (H:Hp) (d:ah) (cs:List Cv):Prop:=∃ks:List (Int×Option (ah×Rat)),H d=some (.dK (keyed AU ks))/\t7 (vG (·.2)) ks=cs/\∀x∈ks,Sz 160 x.1/\∀y,x.2=some y->c8 H y.1 y.2 160
noncomputable def Jo:0#m->V
 | none=>.bM
 | some i=>.int i
noncomputable def Ci (wy:Wy) (pb d:ah) (mk:0#m) (en:Bool):List (Str×V):=[("way",.str (GW wy)),("bound",.ref pb),("entries",.ref d),("mark",Jo mk),("ended",.bl en)]
def Xi:(Ci wy pb d mk en).lookup ("way":Str)=some (.str (GW wy)):=by kernel_rfl
def Np:(Ci wy pb d mk en).lookup ("bound":Str)=some (.ref pb):=by kernel_rfl
def sy:(Ci wy pb d mk en).lookup ("entries":Str)=some (.ref d):=by kernel_rfl
def sA:(Ci wy pb d mk en).lookup ("mark":Str)=some (Jo mk):=by kernel_rfl
def Qd:(Ci wy pb d mk en).lookup ("ended":Str)=some (.bl en):=by kernel_rfl
def aa2:aD "mark" (Jo mk') (Ci wy pb d mk en)=Ci wy pb d mk' en:=by kernel_rfl
def aa1:aD "ended" (.bl IY) (Ci wy pb d mk en)=Ci wy pb d mk IY:=by kernel_rfl
structure qv (cs:List Cv):Prop where
 nd:(cs.map (·.1)).Nodup
 len:cs.length<=40
 few:(cs.filter (·.2.isSome)).length<=30
def fm (C:ah) (H:Hp) (p d:ah) (wy:Wy) (β:Rat) (cs:List Cv) (mk:0#m) (en:Bool):Prop:=∃dx pb:ah,H p=some (.ins C dx (Ci wy pb d mk en))/\c8 H pb β 150/\0<=β/\ME H d cs/\qv cs
section
variable {H H':Hp} {p d C:ah} {wy:Wy} {β:Rat} {cs:List Cv} {mk:0#m} {en:Bool}
def ME.by (h:ME H d cs) (e:∀o,H d=some o->H' d=some o) (s:∀b xs,H b=some 0#Z->H' b=some 0#Z):ME H' d cs:=by
 obtain ⟨D,z,A,u⟩:=h
 refine ⟨D,e _ z,A,λx v=>⟨(u x v).1,λy B=>?_⟩⟩
 obtain ⟨t,b,a,r⟩:=(u x v).2 y B
 exact ⟨t,b,s _ _ a,r⟩
def ME.up (h:ME H d cs) (s:ao H H'):ME H' d cs:=h.by (λ_=>s _ _) λ_ _=>s _ _
def fm.up (h:0#j en) (s:ao H H'):fm C H' p d wy β cs mk en:=by
 obtain ⟨u,E,v,z,A,B,D⟩:=h
 exact ⟨u,E,s _ _ v,z.up s,A,B.up s,D⟩
def fm.ne (h:0#j en):d≠p:=λe=>by
 obtain ⟨dx,pb,h1,_,_,⟨ks,h4,_⟩,_⟩:=h
 rw [e,h1] at h4
 cases h4
def fm.tups (h:0#j en) (s:ao (qP p d H) H'):∀b xs,H b=some 0#Z->H' b=some 0#Z:=λb xs e=>by
 obtain ⟨dx,pb,h1,_,_,⟨ks,h4,_⟩,_⟩:=h
 refine s _ _ (by rw [iR];exact e;all_goals (rintro rfl;first | (rw [h1] at e;cases e) | (rw [h4] at e;cases e)))
def fm.store {cs':List Cv} (h:0#j en) (e:t7 (vG (·.2)) ks=cs') (hks:∀x∈ks,Sz 160 x.1/\∀y,x.2=some y->c8 H y.1 y.2 160) (hf:qv cs') :
 ao (qP p d H) (upd H d (.dK (keyed AU ks)))/\fm C (upd H d (.dK (keyed AU ks))) p d wy β cs' mk en:=by
 have v:ao (qP p d H) (upd H d (.dK (keyed AU ks))):=λb o e=>zX _ _ (Ly (p:=p) (L:=d) (.inr rfl) _ _ e)
 have A:=h.tups v
 have I:=h.ne
 obtain ⟨B,J,D,⟨t,b,a,r⟩,G,_⟩:=h
 refine ⟨v,B,J,by rw [aF (jx I)];exact D,⟨t,b,A _ _ a,r⟩,G,⟨ks,au,e,λx u=>⟨(hks x u).1,λz E=>?_⟩⟩,hf⟩
 obtain ⟨t,b,a,r⟩:=(hks x u).2 z E
 exact ⟨t,b,A _ _ a,r⟩
end
def We (mk:0#m) (m:Int):Bool:=mk.any λu=>decide (m<=u)
inductive gE (C cC:ah) (vs:List V) (H:Hp) (Q:VK) (E:XK):Prop where
 | mk (p d:ah) (wy:Wy) (β:Rat) (cs:List Cv) (mk:0#m) (en:Bool):vs=[.ref p]->0#j en->(en=true->E (.ref cC) none H)->(en=false->Q .bM H)->gE C cC vs H Q E
inductive jv (C cS:ah) (vs:List V) (H:Hp) (Q:VK) (E:XK):Prop where
 | mk (p d:ah) (wy:Wy) (β:Rat) (cs:List Cv) (mk:0#m) (en:Bool) (m:Int):vs=[.ref p,.int m]->0#j en->(We mk m=true->E (.ref cS) none H)->(We mk m=false->Q .bM H)->jv C cS vs H Q E
inductive Of (C cS cT cF:ah) (vs:List V) (H:Hp) (Q:VK) (E:XK):Prop where
 | mk (p d:ah) (wy:Wy) (β:Rat) (cs:List Cv) (mk:0#m) (en:Bool) (m:Int) (y:Option (ah×Rat)):vs=[.ref p,.int m,AU y]->0#j en->Sz 160 m->(∀z,y=some z->c8 H z.1 z.2 160)->(We mk m=true->E (.ref cS) none H)->(We mk m=false->(cI cs m).isSome=true->E (.ref cT) none H)->(We mk m=false->cI cs m=none->40<=cs.length->E (.ref cF) none H)->(We mk m=false->cI cs m=none->cs.length<40->qv (i6 cs m (y.map (·.2)))/\∀H',ao (qP p d H) H'->fm C H' p d wy β (i6 cs m (y.map (·.2))) mk en->Q .bM H')->Of C cS cT cF vs H Q E
def pD:dR 1 [aB] fZ:=0#t
abbrev cu K mg c:=Cl K mg "Keeper" c [eN,aJ,"entries","mark","ended"]
def nZ (F:i9 K "check_not_closed" "Keeper.check_not_closed" fZ f fd) (av:cu K mg af) (qS:Xc K mg "Closed" aU):0#s (mO P w) 1 f fd [aB] (gE af aU):=by
 refine i9.Qo F pD (λvs H Q E h=>?_) 0#U
 ·obtain ⟨p,d,wy,β,cs,mk,en,rfl,_⟩:=h
  rfl
 obtain ⟨p,d,wy,β,cs,mk,en,rfl,⟨dx,pb,u,_⟩,v,z⟩:=h
 apply bI ⟨_,(aA (bK (gw 0#S) (aA (wL qS rfl (cP bG))) bL)),?_⟩
 apply i7 av u Qd ?_
 refine cJ 0#K 0#K
 ·rw?
  exact ⟨show 1<=sizeLine by decide,v c⟩
 ·exact z (gH.mpr c)
def oq:dR 2 [aB,aM] fR:=0#t
def m7 (F:i9 K "check_not_settled" "Keeper.check_not_settled" fR f fd) (av:cu K mg af) (jn:Xc K mg "Settled" aK):0#s (mO P w) 1 f fd [aB,aM] (jv af aK):=by
 refine i9.Qo F oq (λvs H Q E h=>?_) 0#U
 ·obtain ⟨p,d,wy,β,cs,mk,en,m,rfl,_⟩:=h
  rfl
 obtain ⟨p,d,wy,β,cs,mk,en,m,rfl,⟨dx,pb,z,_⟩,D,B⟩:=h
 apply bI ⟨_,(aA (bK (iW (mw (bx jr 0#S eF 1#a) (mz (bx Jr 0#H 0#S 1#a)))) (aA (wL jn rfl (cP bG))) bL)),?_⟩
 apply i7 av z sA ?_
 cases mk with
 | none=>
   refine ⟨rfl,false,by simp [Jo],?_⟩
   refine bO ?_
   refine bO ?_
   exact B rfl
 | some u=>
   refine ⟨rfl,true,by simp [Jo],?_⟩
   apply cD ?_
   apply i7 (v:=.int u) av z sA ?_
   refine cJ 0#K 0#K
   ·rw?
    exact ⟨show 1<=sizeLine by decide,D c⟩
   ·exact B (gH.mpr c)
def Iw:dR 3 [aB,aM,"value"] sR:=0#t
def Fd (F:i9 K "lay" "Keeper.lay" sR f fd) (T:Txt mg) (AB:Cn mg "MOST" 40) (av:cu K mg af) (vO:Xc K mg "Taken" bA) (AJ:Xc K mg "Full" bR) (bD:0#r 1 af "check_not_settled" [aB,aM] (jv af aK) []):0#s (mO P w) 2 f fd [aB,aM,"value"] (Of af aK bA bR):=by
 refine i9.Qo F Iw (λvs H Q E h=>?_) 0#U
 ·obtain ⟨p,d,wy,β,cs,mk,en,m,y,rfl,_⟩:=h
  rfl
 obtain ⟨p,d,wy,β,cs,mk,en,m,y,rfl,hk,zm,hy,k1,k2,k3,R⟩:=h
 have B:=hk
 obtain ⟨dx,pb,D,fb,lI,⟨ks,J,u,N⟩,hf⟩:=hk
 have Z:=hr.units
 apply bI ⟨_,(aq (dB (Jd.tT bD av.cl dH 0#G 0#A (cP 0#H) (he:=bH) (hpl:=bZ)) (hs:=cU)) (aq (bK (bx (XR Z) 0#H 0#S rfl) (aA (wL vO rfl (cP bG))) bL) (aq (bK (bx Jq (eE ahH rfl T.kK ZO (cP 0#S) (he:=(by rfl)) (hpl:=bZ)) (Jd.FL rfl AB) 1#a) (aA (wL AJ rfl (cP bG))) bL) (aA (Jd.om Z 0#S 0#H 0#P))))),?_⟩
 apply sP D 0#Y ?_
 refine ⟨p,d,wy,β,cs,mk,en,m,rfl,B,λc=>k1 c,λI=>?_⟩
 have v:cI cs m=(cI ks m).map (vG (·.2)):=by rw [<- u,get_map]
 rw?
 apply i7 av D sy ?_
 refine ⟨d,_,rfl,kJ.k (k:=Sum.inl m) J,?_⟩
 rw [gZ]
 cases e:cI ks m with
 | some z=>
   rw [e] at v
   refine ⟨true,rfl,?_⟩
   apply cD ?_
   exact ⟨show 1<=sizeLine by decide,k2 I (by rw [v];rfl)⟩
 | none=>
   rw [e] at v
   refine ⟨false,rfl,?_⟩
   apply bO ?_
   apply i7 av D sy ?_
   refine ⟨d,_,rfl,J,?_⟩
   have hl:(keyed AU ks).length=cs.length:=by rw [<- u];unfold keyed t7;rw [iI,iI]
   rw [hl]
   rw?
   refine cJ 0#K 0#K
   ·rw?
    exact ⟨show 1<=sizeLine by decide,k3 I v (by have:=kO c;simp?)⟩
   have c1:cs.length<40:=by
    have:=jF (gH.mpr c)
    simp?
   obtain ⟨L,R⟩:=R I v c1
   rw?
   apply i7 av D sy ?_
   refine ⟨d,_,rfl,CS.k (k:=Sum.inl m) J (bg (by rw [hl];simp?)),?_⟩
   rw [rJ]
   obtain ⟨s1,M⟩:=B.store (ks:=i6 ks m y) (by rw [<- zO,u]) (λx O=>by
    rcases pV O with rfl | O
    ·exact ⟨zm,hy⟩
    ·exact N x O) L
   exact R _ s1 M
inductive Er
 | closed | pT | settled | taken | full | missing | zB | nY
noncomputable def wk (a b c d e g h i:ah):Er->ah
 | .closed=>a
 | .pT=>b
 | .settled=>c
 | .taken=>d
 | .full=>e
 | .missing=>g
 | .zB=>h
 | .nY=>i
section
variable (cs:List Cv) (mk:0#m) (en:Bool) (m b:Int)
noncomputable def HZ:Option Er:=if We mk m=true then some .settled else if (cI cs m).isSome=true then some .taken else if 40<=cs.length then some .full else none
noncomputable def wR:Option Er:=if en=true then some .closed else if b=0 then some .pT else HZ cs mk m
noncomputable def F7:Option Er:=if en=true then some .closed else HZ cs mk m
noncomputable def nh:Option Er:=if en=true then some .closed else if b=0 then some .pT else if We mk m=true then some .settled else if ((cI cs m).getD none).isSome=true then none else some .missing
noncomputable def o5:Option Er:=if en=true then some .closed else if We mk m=true then some .settled else if (cI cs m).isSome=true then none else some .missing
end
def xP (e:H v=some (.tup [.int t',.int b'])) (lo:Low t b t' b') (hb:b≠0) (zt:Sz n t) (zb:Sz n b):c8 H v ((t:Rat)/(b:Rat)) n:=by
 have hb':(b:Rat)≠0:=by exact_mod_cast hb
 exact ⟨t',b',e,Fr.Qn lo hb (by grind),zt.of_le lo.tb,zb.of_le lo.bb⟩
inductive JE (C:ah) (ea:Er->ah) (vs:List V) (H:Hp) (Q:VK) (E:XK):Prop where
 | mk (p d:ah) (wy:Wy) (β:Rat) (cs:List Cv) (mk:0#m) (en:Bool) (m t b:Int):vs=[.ref p,.int m,.int t,.int b]->0#j en->Sz 160 m->Sz 160 t->Sz 160 b->(∀e,wR cs mk en m b=some e->∀H',ao H H'->E (.ref (ea e)) none H')->(wR cs mk en m b=none->qv (i6 cs m (some ((t:Rat)/(b:Rat))))/\∀H',ao (qP p d H) H'->fm C H' p d wy β (i6 cs m (some ((t:Rat)/(b:Rat)))) mk en->Q .bM H')->JE C ea vs H Q E
inductive Od (C:ah) (ea:Er->ah) (vs:List V) (H:Hp) (Q:VK) (E:XK):Prop where
 | mk (p d:ah) (wy:Wy) (β:Rat) (cs:List Cv) (mk:0#m) (en:Bool) (m:Int):vs=[.ref p,.int m]->0#j en->Sz 160 m->(∀e,F7 cs mk en m=some e->E (.ref (ea e)) none H)->(F7 cs mk en m=none->qv (i6 cs m none)/\∀H',ao (qP p d H) H'->fm C H' p d wy β (i6 cs m none) mk en->Q .bM H')->Od C ea vs H Q E
inductive BU (C:ah) (ea:Er->ah) (vs:List V) (H:Hp) (Q:VK) (E:XK):Prop where
 | mk (p d:ah) (wy:Wy) (β:Rat) (cs:List Cv) (mk:0#m) (en:Bool) (m t b:Int):vs=[.ref p,.int m,.int t,.int b]->0#j en->Sz 160 m->Sz 160 t->Sz 160 b->(∀e,nh cs mk en m b=some e->∀H',ao H H'->E (.ref (ea e)) none H')->(nh cs mk en m b=none->qv (i6 cs m (some ((t:Rat)/(b:Rat))))/\∀H',ao (qP p d H) H'->fm C H' p d wy β (i6 cs m (some ((t:Rat)/(b:Rat)))) mk en->Q .bM H')->BU C ea vs H Q E
inductive Am (C:ah) (ea:Er->ah) (vs:List V) (H:Hp) (Q:VK) (E:XK):Prop where
 | mk (p d:ah) (wy:Wy) (β:Rat) (cs:List Cv) (mk:0#m) (en:Bool) (m:Int):vs=[.ref p,.int m]->0#j en->(∀e,o5 cs mk en m=some e->E (.ref (ea e)) none H)->(o5 cs mk en m=none->∀H',ao (qP p d H) H'->fm C H' p d wy β (uF cs m) mk en->Q .bM H')->Am C ea vs H Q E
def qv.drop (h:qv cs) (m:Int):qv (uF cs m):=⟨aaw h.nd,g9 (Ub _ _) h.len,g9 (Ui.filter _).length_le h.few⟩
def wU:dR 4 [aB,aM,"top",cK,"value"] sU:=0#t
def Fe (F:CU K "put" "Keeper.put" sU f fd tk) (av:cu K mg af) (qQ:DnX P w K mg base 3 "ratio" ["top",cK] (Ak aN)) (aE:0#r 1 af "check_not_closed" [aB] (gE af aU) []) (iK:0#r 2 af "lay" [aB,aM,"value"] (Of af aK bA bR) []):0#s (mO P w) 4 f fd [aB,aM,"top",cK] (JE af 0#I):=by
 refine CU.Qo F wU (λvs H Q E h=>?_) 0#U
 ·obtain ⟨p,d,wy,β,cs,mk,en,m,t,b,rfl,_⟩:=h
  rfl
 obtain ⟨p,d,wy,β,cs,mk,en,m,t,b,rfl,R,zm,zt,Z,u,L⟩:=h
 have J:=R
 obtain ⟨dx,pb,S,_⟩:=R
 unfold wR at u L
 apply bI ⟨_,(aq (dB (Jd.x9 aE av.cl dH 0#G 0#A) (hs:=cU)) (aq (aV 4 wU.nd (Jd.x8 qQ dH 0#G rfl (bN 0#P 0#X) (he:=bH) (hpl:=(cO bH bZ)))) (aA (dB (Jd.tT iK av.cl dH 0#G 0#A (bN 0#H (aa 4)) (he:=bH) (hpl:=(cO bH bZ))) (hs:=cU))))),?_⟩
 apply sP S 0#Y ?_
 refine ⟨p,d,wy,β,cs,mk,en,rfl,J,λc=>u .closed (if_pos c) H 0#V,λc0=>?_⟩
 rw [if_neg (by rw [c0];simp)] at u L
 rw?
 refine ⟨t,b,rfl,zt.mono 0#y,Z.mono 0#y,λc=>u .pT (if_pos c) H 0#V,λO v t' b' M B ev lo=>?_⟩
 rw [if_neg O] at u L
 have fv:c8 M v ((t:Rat)/(b:Rat)) 160:=xP ev lo O zt Z
 rw?
 apply sP (B _ _ S) 0#Y ?_
 unfold HZ at u L
 refine ⟨p,d,wy,β,cs,mk,en,m,some (v,(t:Rat)/(b:Rat)),rfl,J.up B,zm,λz hz=>by cases hz;exact fv,λc=>u .settled (if_pos c) M B,λc D=>u .taken (by rw [if_neg (by rw [c];simp),if_pos D]) M B,λc D c2=>u .full (by rw [if_neg (by rw [c];simp),if_neg (by rw [D];simp),if_pos c2]) M B,λc D c2=>?_⟩
 obtain ⟨a1,a2⟩:=L (by rw [if_neg (by rw [c];simp),if_neg (by rw [D];simp),if_neg 0#z])
 apply ⟨a1,λH2 s2 N=>?_⟩
 exact a2 H2 (λb o e=>s2 _ _ (Lx B _ _ e)) N
def Iv:dR 2 [aB,aM] sQ:=0#t
def Fc (F:i9 K "gap" "Keeper.gap" sQ f fd) (av:cu K mg af) (aE:0#r 1 af "check_not_closed" [aB] (gE af aU) []) (iK:0#r 2 af "lay" [aB,aM,"value"] (Of af aK bA bR) []):0#s (mO P w) 3 f fd [aB,aM] (Od af 0#I):=by
 refine i9.Qo F Iv (λvs H Q E h=>?_) 0#U
 ·obtain ⟨p,d,wy,β,cs,mk,en,m,rfl,_⟩:=h
  rfl
 obtain ⟨p,d,wy,β,cs,mk,en,m,rfl,L,Z,u,D⟩:=h
 have B:=L
 obtain ⟨dx,pb,M,_⟩:=L
 unfold F7 at u D
 apply bI ⟨_,(aq (dB (Jd.x9 aE av.cl dH 0#G 0#A) (hs:=cU)) (aA (dB (Jd.tT iK av.cl dH 0#G 0#A (bN 0#H eF) (he:=bH) (hpl:=(cO pG bZ))) (hs:=cU)))),?_⟩
 apply sP M 0#Y ?_
 refine ⟨p,d,wy,β,cs,mk,en,rfl,B,λc=>u .closed (if_pos c),λO=>?_⟩
 rw [if_neg (by rw [O];simp)] at u D
 rw?
 apply sP M 0#Y ?_
 unfold HZ at u D
 refine ⟨p,d,wy,β,cs,mk,en,m,none,rfl,B,Z,λz R=>(nomatch R),λc=>u .settled (if_pos c),λc v=>u .taken (by rw [if_neg (by rw [c];simp),if_pos v]),λc v c2=>u .full (by rw [if_neg (by rw [c];simp),if_neg (by rw [v];simp),if_pos c2]),λc v c2=>?_⟩
 obtain ⟨a1,a2⟩:=D (by rw [if_neg (by rw [c];simp),if_neg (by rw [v];simp),if_neg 0#z])
 apply ⟨a1,λN S J=>?_⟩
 exact a2 N S J
def ve:dR 4 [aB,aM,"top",cK,"value"] qA:=0#t
def Dh (F:CU K "mend" "Keeper.mend" qA f fd tk) (av:cu K mg af) (jm:Xc K mg "Missing" aQ) (qQ:DnX P w K mg base 3 "ratio" ["top",cK] (Ak aN)) (aE:0#r 1 af "check_not_closed" [aB] (gE af aU) []) (bD:0#r 1 af "check_not_settled" [aB,aM] (jv af aK) []):0#s (mO P w) 4 f fd [aB,aM,"top",cK] (BU af 0#I):=by
 refine CU.Qo F ve (λvs H Q E h=>?_) 0#U
 ·obtain ⟨p,d,wy,β,cs,mk,en,m,t,b,rfl,_⟩:=h
  rfl
 obtain ⟨p,d,wy,β,cs,mk,en,m,t,b,rfl,hk,zm,zt,zb,u,N⟩:=h
 have L:=hk
 have eU:=hr.units
 obtain ⟨dx,pb,hp,_,_,⟨ks,hd,D,O⟩,hf⟩:=hk
 unfold nh at u N
 apply bI ⟨_,(aq (dB (Jd.x9 aE av.cl dH 0#G 0#A) (hs:=cU)) (aq (aV 4 ve.nd (Jd.x8 qQ dH 0#G rfl (bN 0#P 0#X) (he:=bH) (hpl:=(cO bH bZ)))) (aq (dB (Jd.tT bD av.cl dH 0#G 0#A (cP 0#H) (he:=bH) (hpl:=bZ)) (hs:=cU)) (aq (bK (bx sI (Jd.ab1 eU 0#S 0#H) eF 1#a) (aA (wL jm rfl (cP bG))) bL) (aA (Jd.om eU 0#S 0#H (aa 4))))))),?_⟩
 apply sP hp 0#Y ?_
 refine ⟨p,d,wy,β,cs,mk,en,rfl,L,λc=>u .closed (if_pos c) H 0#V,λc0=>?_⟩
 rw [if_neg (by rw [c0];simp)] at u N
 rw?
 refine ⟨t,b,rfl,zt.mono 0#y,zb.mono 0#y,λc=>u .pT (if_pos c) H 0#V,λhb v t' b' R B ev lo=>?_⟩
 rw [if_neg hb] at u N
 have fv:c8 R v ((t:Rat)/(b:Rat)) 160:=xP ev lo hb zt zb
 have M:=B _ _ hp
 have J:=B _ _ hd
 rw?
 apply sP M 0#Y ?_
 refine ⟨p,d,wy,β,cs,mk,en,m,rfl,L.up B,λc=>u .settled (if_pos c) R B,λc=>?_⟩
 rw [if_neg (by rw [c];simp)] at u N
 have hg:cI cs m=(cI ks m).map (vG (·.2)):=by rw [<- D,get_map]
 rw?
 apply i7 av M sy ?_
 apply ⟨d,rfl,.inl ⟨_,.inl J⟩,?_⟩
 refine ⟨_,kJ.k (k:=Sum.inl m) J,?_⟩
 rw [gZ]
 have ac:((cI cs m).getD none).isSome=false->E (.ref aQ) none R:=λz=>u .missing (if_neg (by rw [z];simp)) R B
 have hz:(((cI ks m).map AU).getD .bM=.bM/\((cI cs m).getD none).isSome=false)\/(∃x,((cI ks m).map AU).getD .bM=.ref x)/\((cI cs m).getD none).isSome=true:=by
  rw [hg]
  cases cI ks m with
  | none=>exact .inl ⟨rfl,rfl⟩
  | some z=>cases z with
    | none=>exact .inl ⟨rfl,rfl⟩
    | some x=>exact .inr ⟨⟨x.1,rfl⟩,rfl⟩
 rw?
 rcases hz with ⟨e1,e2⟩ | ⟨⟨x,e1⟩,e2⟩
 ·rw [e1]
  refine ⟨rfl,true,by simp,?_⟩
  apply cD ?_
  exact ⟨show 1<=sizeLine by decide,ac e2⟩
 ·rw [e1]
  refine ⟨rfl,false,by simp,?_⟩
  refine bO ?_
  rw [if_pos e2] at N
  obtain ⟨a1,a2⟩:=N rfl
  rw?
  apply i7 av M sy ?_
  have hl:(keyed AU ks).length=cs.length:=by rw [<- D];unfold keyed t7;rw [iI,iI]
  refine ⟨d,_,rfl,CS.k (k:=Sum.inl m) J (bg (by rw [hl];have:=hf.len;simp?)),?_⟩
  rw [show V.ref v=AU (some (v,(t:Rat)/(b:Rat))) from rfl,rJ]
  obtain ⟨s2,ad⟩:=(L.up B).store (ks:=i6 ks m (some (v,(t:Rat)/(b:Rat)))) (by rw [<- zO,D];rfl) (λx Z=>by
   rcases pV Z with rfl | Z
   ·exact ⟨zm,λy hy=>by cases hy;exact fv⟩
   ·exact ⟨(O x Z).1,λy hy=>((O x Z).2 y hy).up B⟩) a1
  exact a2 _ (λb o e=>s2 _ _ (Lx B _ _ e)) ad
def BJ:dR 2 [aB,aM] nq:=0#t
def zE (F:i9 K "strike" "Keeper.strike" nq f fd) (av:cu K mg af) (jm:Xc K mg "Missing" aQ) (aE:0#r 1 af "check_not_closed" [aB] (gE af aU) []) (bD:0#r 1 af "check_not_settled" [aB,aM] (jv af aK) []):0#s (mO P w) 3 f fd [aB,aM] (Am af 0#I):=by
 refine i9.Qo F BJ (λvs H Q E h=>?_) 0#U
 ·obtain ⟨p,d,wy,β,cs,mk,en,m,rfl,_⟩:=h
  rfl
 obtain ⟨p,d,wy,β,cs,mk,en,m,rfl,R,v,L⟩:=h
 have u:=R
 have eU:=hr.units
 obtain ⟨dx,pb,J,_,_,⟨ks,M,B,O⟩,hf⟩:=R
 unfold o5 at v L
 apply bI ⟨_,(aq (dB (Jd.x9 aE av.cl dH 0#G 0#A) (hs:=cU)) (aq (dB (Jd.tT bD av.cl dH 0#G 0#A (cP 0#H) (he:=bH) (hpl:=bZ)) (hs:=cU)) (aq (bK (bx (Tg eU) 0#H 0#S rfl) (aA (wL jm rfl (cP bG))) bL) (aA (dB (Jd.ahV 0#S 0#H) (hs:=cU)))))),?_⟩
 apply sP J 0#Y ?_
 refine ⟨p,d,wy,β,cs,mk,en,rfl,u,λc=>v .closed (if_pos c),λZ=>?_⟩
 rw [if_neg (by rw [Z];simp)] at v L
 rw?
 apply sP J 0#Y ?_
 refine ⟨p,d,wy,β,cs,mk,en,m,rfl,u,λc=>v .settled (if_pos c),λc=>?_⟩
 rw [if_neg (by rw [c];simp)] at v L
 have D:cI cs m=(cI ks m).map (vG (·.2)):=by rw [<- B,get_map]
 rw?
 apply i7 av J sy ?_
 refine ⟨d,_,rfl,kJ.k (k:=Sum.inl m) M,?_⟩
 rw [gZ]
 cases e:cI ks m with
 | none=>
   rw [e] at D
   refine ⟨true,rfl,?_⟩
   apply cD ?_
   exact ⟨show 1<=sizeLine by decide,v .missing (if_neg (by rw [D];simp))⟩
 | some z=>
   rw [e] at D
   refine ⟨false,rfl,?_⟩
   apply bO ?_
   apply i7 av J sy ?_
   apply ⟨d,rfl,.inl ⟨_,.inl M⟩,?_⟩
   refine ⟨_,Sum.inl m,AU z,M,rfl,by rw [gZ,e];rfl,?_⟩
   rw [ED]
   obtain ⟨s1,N⟩:=u.store (ks:=uF ks m) (by rw [<- MW,B]) (λx hx=>O x (wW.mp hx).1) (hf.drop m)
   exact L (if_pos (by rw [D];rfl)) _ s1 N
def TQ {cs:List Cv} {ns:List Int} (nd:(cs.map (·.1)).Nodup) (hp:ns.Perm (cs.map (·.1))) (hs:ns.Pairwise (·<=·)):B8 cs (ns.map λm=>(m,(cI cs m).getD none)):=by
 constructor
 ·have e:(cs.map (·.1)).map (λm=>(m,(cI cs m).getD none))=cs:=by
   rw [Az]
   refine (Ox λx u=>?_).trans (List.map_id' cs)
   show (x.1,(cI cs x.1).getD none)=x
   rw [afg nd (show (x.1,x.2)∈cs from u)]
   rfl
  have:=hp.map λm=>(m,(cI cs m).getD none)
  rw [e] at this
  exact this
 ·rw [adk]
  exact ajt (λa b p q=>show a<b by simp?) hs (hp.nodup_iff.mpr nd)
def SK (zm:Sz 160 m) (hz:∀y,z=some y->c8 H y.1 y.2 160) (s:ao H H') (ee:H' e=some (.tup [.int m,AU z])):oU H' (e,m,z.map (·.2)) 160:=by
 cases z with
 | none=>exact ⟨zm,ee⟩
 | some y=>exact ⟨zm,y.1,ee,(hz y rfl).up s⟩
inductive GK (C:ah) (vs:List V) (H:Hp) (Q:VK) (E_:XK):Prop where
 | mk (p d:ah) (wy:Wy) (β:Rat) (cs:List Cv) (mk:0#m) (en:Bool):vs=[.ref p]->0#j en->(∀(R:ah) (es:0#h) (H':Hp),ao H H'->H R=none->H' R=some 0#R->Row H' es 160->B8 cs (es.map (·.2))->Q (.ref R) H')->GK C vs H Q E_
inductive we (C:ah) (vs:List V) (H:Hp) (Q:VK) (E_:XK):Prop where
 | mk (p d:ah) (wy:Wy) (β:Rat) (cs:List Cv) (mk:0#m) (en:Bool):vs=[.ref p]->0#j en->(∀(R:ah) (xs:0#n) (H':Hp),ao H H'->H' R=some (.lst xs)->Q (.ref R) H')->we C vs H Q E_
def TJ {cs:List Cv} (h:B8 cs (es.map (·.2))):rising es:=(adk (f:=λx:En=>x.2) (R:=λa b:Cv=>a.1<b.1)).mp h.2
def qv.sm (h:qv cs) (hs:B8 cs (es.map (·.2))):Sm es:=by
 have e1:=hs.1.length_eq
 rw [iI] at e1
 refine ⟨by rw [e1];exact h.len,?_⟩
 have:=(hs.1.filter (·.2.isSome)).length_eq
 rw [ZL,iI] at this
 exact g9 (ZW this) h.few
def Iz:dR 1 [aB] sV:=0#t
def Il (F:i9 K "row" "Keeper.row" sV f fd) (T:Txt mg) (av:cu K mg af):0#b 1 f fd [aB] (GK af):=by
 refine F.fq Iz 0#a
 obtain ⟨p,d,wy,β,cs,mk,en,rfl,hk,k⟩:=h
 have hk0:=hk
 have eU:=hr.units
 obtain ⟨dx,pb,hp,_,_,⟨ks,hd,L,ae⟩,hf⟩:=hk
 apply bI ⟨_,(aA (aW (pR (O:=[aM]) (N':=[aB]) (cap:=[0]) rfl (gQ K (eE (YF rfl) rfl T.TR acs (cP 0#S) (he:=(by rfl)) (hpl:=bZ))) (λ_ _ _ _ _=>(cG (i:=0) (show mL [("moment":Str),("self":Str)] by decide +kernel) rfl 0#D)) (λ_ _ _ _ _=>oX) (λ_ _ _ _ _=>(b9 (eV 0#A (eV (kP eU (cQ K 0#H) 0#A 0#B) gT An) bH))) rfl ⟨0#T,trivial⟩ rfl 0#x rfl 0#x))),?_⟩
 apply lJ ?_
 apply i7 av hp sy ?_
 have J:(keyed AU ks).map (·.1)=(cs.map (·.1)).map Sum.inl:=by rw [<- L];unfold keyed t7;rw [Az,Az,Az];rfl
 refine TF hd J (by rw [iI];have:=hf.len;simp?) λS M H1 R nS eS EW W8=>?_
 refine ⟨S,rfl,⟨_,bS.of eS⟩,?_⟩
 have ac:=R _ _ hd
 have ag:=R _ _ hp
 refine d8 (xs:=M.map V.int) dm (λH3 U=>bS.of (U _ _ eS)) (by rw [iI,EW.length_eq,iI];have:=hf.len;simp?) (λi ys G=>∃es:List En,ys=vals es/\Row G es 160/\es.map (·.2)=(M.take i).map (λm=>(m,(cI cs m).getD none))) ⟨[],rfl,λx v=>absurd v 0#w,rfl⟩ ?_ ?_
 ·rintro D i x ys H3 nQ N N0 h0 hD eD U v hy ⟨es,rfl,I,u⟩ kY kN
  rw [gF] at v
  cases hm:M[i]? with
  | none=>rw [hm] at v;cases v
  | some m=>
    rw [hm] at v
    cases v
    have tk:M.take (i+1)=M.take i++[m]:=by rw [yI,hm];rfl
    have ad:m∈cs.map (·.1):=EW.mem_iff.mp (g8 hm)
    have Y:cI cs m=(cI ks m).map (vG (·.2)):=by rw [<- L,get_map]
    cases hz:cI ks m with
    | none=>rw [hz] at Y;exact absurd ad (get_none.mp Y)
    | some z=>
      rw [hz] at Y
      apply jB h0 ?_
      apply cD ?_
      apply i7 av (U _ _ ag) sy ?_
      apply ⟨d,AU z,rfl,(by have:=kJ.k (k:=Sum.inl m) (U _ _ ac);rw [gZ,hz] at this;exact this),?_⟩
      refine aG (mk:=.tup) 0#w λe H4 Z n4 e4=>?_
      have v:=ae _ (get_mem hz)
      have fe:=SK (H:=H3) v.1 (λy hy=>((v.2 y hy).up R).up U) Z e4
      refine kY _ H4 Z ⟨es++[(e,m,z.map (·.2))],gr es (e,m,z.map (·.2)),(I.up (rK Z)).snoc (fe.rm (Z _ _ eD)),?_⟩
      rw [tk,jM,jM,u,uh,uh,Y]
      rfl
 rintro O ys H6 hO eO s6 hy ⟨es,rfl,I,u⟩
 rw [iI,qN] at u
 exact k O es H6 (R.trans s6) (R.free hO) eO (I.up jt) (by rw [u];exact TQ hf.nd EW W8)
def Gi:dR 1 [aB] qC:=0#t
def Fg (F:i9 K "told" "Keeper.told" qC f fd) (av:cu K mg af) (fD:Dm P w K mg base 1 af "row" [aB] (GK af)) (Ei:0#c 11 "fewest" [cz,eN,aJ] Rz):0#b 12 f fd [aB] (we af):=by
 refine F.fq Gi 0#a
 obtain ⟨p,d,wy,β,cs,mk,en,rfl,B,k⟩:=h
 have u:=B
 obtain ⟨dx,O,v,fb,N,_,M⟩:=B
 apply bI ⟨_,(aA (aW (aO K (Jd.c3 Ei hr (rq fD av.cl 0#G 0#A) 0#S 0#S)))),?_⟩
 apply F3 v 0#Y ?_
 apply ⟨p,d,wy,β,cs,mk,en,rfl,u,λR es H1 s1 nR I L z=>?_⟩
 apply i7 av (s1 _ _ v) Xi ?_
 apply i7 av (s1 _ _ v) Np ?_
 apply ⟨R,O,es,β,wy,rfl,I,L,TJ z,M.sm z,fb.up s1,N,λy X Z U D s2 ey J=>?_⟩
 exact k X U D 1#h J
def Gh:dR 1 [aB] qB:=0#t
def Ff {P:fT} {w:dO} {K:bU} {mg:0#g} {base:cH} {f af:ah} {fd:ia} (F:i9 K "sure" "Keeper.sure" qB f fd) (av:cu K mg af) (fD:Dm P w K mg base 1 af "row" [aB] (GK af)) (qg:Dm P w K mg base 12 af "told" [aB] (we af)) (oR:0#c 12 "sure_certain" [cz,eN,aJ,aM] RM):0#b 13 f fd [aB] (we af):=by
 refine F.fq Gh 0#a
 obtain ⟨p,d,wy,β,cs,mk,en,rfl,L,k⟩:=h
 have B:=L
 obtain ⟨dx,pb,D,fb,lI,_,Z⟩:=L
 apply bI ⟨_,(aq (bK (gw 0#S) (aA (aW (rq qg av.cl 0#G 0#A))) bL) (aq (bK (bx sI 0#S eF 1#a) (aA (aW (fM gT))) bL) (aA (aW (ko oR 0#G rfl (Jd.a4 (rq fD av.cl 0#G 0#A) 0#S 0#S 0#S) (he:=yF) (hpl:=(cO (by rfl) (cO (by rfl) (cO (by rfl) bZ))))))))),?_⟩
 apply i7 av D Qd ?_
 refine cJ 0#K 0#K
 ·rw?
  apply F3 D 0#Y ?_
  exact ⟨p,d,wy,β,cs,mk,en,rfl,B,k⟩
 rw?
 apply i7 av D sA ?_
 cases mk with
 | none=>
   refine ⟨rfl,true,by simp [Jo],?_⟩
   apply cD ?_
   refine aG (mk:=.lst) 0#w λR I s1 n1 e1=>?_
   exact k R [] I s1 e1
 | some u=>
   refine ⟨rfl,false,by simp [Jo],?_⟩
   apply bO ?_
   apply F3 D 0#Y ?_
   refine ⟨p,d,wy,β,cs,some u,en,rfl,B,λR es I s1 nR N U J=>?_⟩
   have z:=s1 _ _ D
   rw?
   apply i7 av z Xi ?_
   apply i7 av z Np ?_
   apply i7 (v:=.int u) av z sA ?_
   exact ⟨R,pb,es,β,wy,u,rfl,N,U,TJ J,Z.sm J,fb.up s1,lI,λT xs M s2 O=>k T xs M 1#h O⟩
noncomputable def zW (mk:0#m) (en:Bool) (m:Int):Option Er:=if en=true then some .closed else if (mk.any λu=>decide (m<u))=true then some .settled else none
def DZ (en:Bool):Option Er:=if en=true then some .closed else none
inductive Al (C:ah) (ea:Er->ah) (vs:List V) (H:Hp) (Q:VK) (E:XK):Prop where
 | mk (p d:ah) (wy:Wy) (β:Rat) (cs:List Cv) (mk:0#m) (en:Bool) (m:Int):vs=[.ref p,.int m]->0#j en->(∀e,zW mk en m=some e->E (.ref (ea e)) none H)->(zW mk en m=none->∀(R:ah) (xs:0#n) (H':Hp),ao (rm p H) H'->fm C H' p d wy β cs (some m) en->H' R=some (.lst xs)->Q (.ref R) H')->Al C ea vs H Q E
inductive D8 (C:ah) (ea:Er->ah) (vs:List V) (H:Hp) (Q:VK) (E:XK):Prop where
 | mk (p d:ah) (wy:Wy) (β:Rat) (cs:List Cv) (mk:0#m) (en:Bool):vs=[.ref p]->0#j en->(∀e,DZ en=some e->E (.ref (ea e)) none H)->(DZ en=none->∀(R:ah) (xs:0#n) (H':Hp),ao (rm p H) H'->fm C H' p d wy β cs mk true->H' R=some (.lst xs)->Q (.ref R) H')->D8 C ea vs H Q E
def fm.air (h:0#j en) (hp:H p=some (.ins C dx (Ci wy pb d mk en))) (e:fs=Ci wy pb d mk' IY):fm C (upd H p (.ins C dx fs)) p d wy β cs mk' IY:=by
 subst e
 have E:=h.ne
 obtain ⟨dx',u,v,⟨t,b,a,r⟩,D,A,B⟩:=h
 rw [hp] at v
 have e:=congrArg (λo=>match o with | some (HO.ins _ _ (_::(_,.ref x)::_))=>some x | _=>none) v
 obtain rfl:pb=u:=by simpa [Ci] using e
 have z:∀b xs,H b=some 0#Z->upd H p (.ins C dx (Ci wy pb d mk' IY)) b=some 0#Z:=λb xs e=>by
  rw [aF]
  ·exact e
  ·rintro rfl
   rw [hp] at e
   cases e
 exact ⟨dx,pb,au,⟨t,b,z _ _ a,r⟩,D,A.by (λo e=>by rw [aF E];exact e) z,B⟩
inductive RE (C:ah) (vs:List V) (H:Hp) (Q:VK) (E_:XK):Prop where
 | mk (p d:ah) (wy:Wy) (β:Rat) (cs:List Cv) (mk:0#m) (en:Bool):vs=[.ref p]->0#j en->Q (Jo mk) H->RE C vs H Q E_
inductive LW (C:ah) (vs:List V) (H:Hp) (Q:VK) (E_:XK):Prop where
 | mk (p d:ah) (wy:Wy) (β:Rat) (cs:List Cv) (mk:0#m) (en:Bool):vs=[.ref p]->0#j en->Q (.bl en) H->LW C vs H Q E_
noncomputable def Xe (x:Str):Bool:=O1 (.str x) [V.str "apart",.str "joined",.str "spans",.str "chain"]
inductive RO (cW:ah) (vs:List V) (H:Hp) (Q:VK) (E:XK):Prop where
 | mk (x:Str):vs=[.str x]->(Xe x=false->E (.ref cW) none H)->(Xe x=true->Q .bM H)->RO cW vs H Q E
inductive Gy (cB:ah) (vs:List V) (H:Hp) (Q:VK) (E:XK):Prop where
 | mk (p:ah) (t b:Int):vs=[.ref p]->H p=some (.tup [.int t,.int b])->(t<0->E (.ref cB) none H)->(0<=t->Q .bM H)->Gy cB vs H Q E
inductive Ag (C cW cB:ah) (vs:List V) (H:Hp) (Q:VK) (E:XK):Prop where
 | mk (p dx pb:ah) (x:Str) (β:Rat):vs=[.ref p,.str x,.ref pb]->H p=some (.ins C dx [])->c8 H pb β 150->(Xe x=false->E (.ref cW) none H)->(Xe x=true->β<0->E (.ref cB) none H)->(∀wy,x=GW wy->0<=β->∀(d:ah) (H':Hp),ao (rm p H) H'->H d=none->fm C H' p d wy β [] none false->Q .bM H')->Ag C cW cB vs H Q E
def ahb (h:Fr t b q):0<=t↔0<=q:=by
 have u:(0:Rat)<(b:Rat):=cast_pos (b:=b) (by have:=h.pos;simp?)
 have e:=h.qt.eq
 constructor
 ·intro z
  have v:((0:Int):Rat)<=(t:Rat):=Ot.mpr z
  rw [e] at v
  refine kH.mp λc=>?_
  have:=T3 c u
  grind
 ·exact λz=>ab9 h.qt z
def agK (h:Xe x=true):∃wy,x=GW wy:=by
 have e:x = "apart"\/x = "joined"\/x = "spans"\/x = "chain":=by
  have q:∀a:Str,WH (.str a) (.str x)=true->x=a:=λa h=>by
   have h:(a==x)=true:=h
   exact (tR.mp h).symm
  have h:_:=h
  simp [Xe,O1] at h
  rcases h with h | h | h | h
  ·exact .inl (q _ h)
  ·exact .inr (.inl (q _ h))
  ·exact .inr (.inr (.inl (q _ h)))
  ·exact .inr (.inr (.inr (q _ h)))
 rcases e with e | e | e | e
 ·exact ⟨.ap,e⟩
 ·exact ⟨.jo,e⟩
 ·exact ⟨.sp,e⟩
 ·exact ⟨.ch,e⟩
def rL:dR 2 [aB,aM,"ahead"] nk:=0#t
def zD {P:fT} {w:dO} {K:bU} {mg:0#g} {base:cH} {f af aU aK bA bR aQ aN bu aL:ah} {fd:ia} (F:i9 K "settle" "Keeper.settle" nk f fd) (T:Txt mg) (av:cu K mg af) (jn:Xc K mg "Settled" aK) (aE:0#r 1 af "check_not_closed" [aB] (gE af aU) []) (fJ:Dm P w K mg base 13 af "sure" [aB] (we af)):0#s (mO P w) 14 f fd [aB,aM] (Al af 0#I):=by
 refine i9.Qo F rL (λvs H Q E h=>?_) 0#U
 ·obtain ⟨p,d,wy,β,cs,mk,en,m,rfl,_⟩:=h
  rfl
 obtain ⟨p,d,wy,β,cs,mk,en,m,rfl,hk,k1,Z⟩:=h
 have z:=hk
 obtain ⟨J,D,N,_⟩:=hk
 unfold zW at k1 Z
 refine bI (Jd.cut 2 (λσ H'=>σ=[some (.ref p),some (.int m),none]/\H'=H/\((mk.any λu=>decide (m<u))=false)/\en=false) ?_ λu hu SW=>?_)
 ·refine ⟨_,(aq (aV 2 rL.nd (rq fJ av.cl 0#G 0#A)) (aq (gA K 0#A 0#H) (aA (aW (uJ (slL K) (rq fJ av.cl 0#G 0#A) (uL (ir K T.kK 0#P)) uK))))),?_⟩
  rintro σ H1 ⟨rfl,rfl,c1,rfl⟩
  rw [if_neg 0#w,if_neg (by rw [c1];simp)] at Z
  have Z:=Z rfl
  rw?
  apply F3 N 0#Y ?_
  refine ⟨p,d,wy,β,cs,mk,false,rfl,z,λR ps H2 s2 eR=>?_⟩
  have B:=s2 _ _ N
  rw?
  refine yd av B (show 5<1000 by decide) ?_
  rw [show aD ("mark":Str) (.int m) (Ci wy D d mk false)=Ci wy D d (some m) false from aa2 (mk':=some m)]
  have P4:=(z.up s2).air (mk':=some m) (IY:=false) B rfl
  have s3:ao (rm p H1) (upd H2 p (.ins af J (Ci wy D d (some m) false))):=λb o e=>Ct _ _ _ _ _ (rK s2 _ _ e)
  have L:upd H2 p (.ins af J (Ci wy D d (some m) false)) R=some (.lst ps):=by rw [aF (by rintro rfl;rw [B] at eR;cases eR)];exact eR
  have O:upd H2 p (.ins af J (Ci wy D d (some m) false)) p=some (.ins af J (Ci wy D d (some m) false)):=au
  generalize upd H2 p (.ins af J (Ci wy D d (some m) false))=H3 at P4 s3 L O ⊢
  walk_at "vd"
  refine F3 O 0#Y ?_
  walk_at "vd"
  refine ⟨p,d,wy,β,cs,some m,false,rfl,P4,λR4 ps4 H4 s4 ad=>?_⟩
  walk_at "vd"
  refine gR (.inl (bS.of (s4 _ _ L))) ?_
  refine 0#M
  walk_at "vd"
  refine Cr ad λS H5 s5 n5 e5=>?_
  have ac:=s4.trans s5
  exact Z S _ H5 (s3.trans ac) (P4.up ac) e5
 apply ⟨_,(aq (dB (Jd.x9 aE av.cl dH 0#G 0#A) (hs:=cU)) (aq (bK (iW (mw (bx jr 0#S eF 1#a) (mz (bx oZ 0#H 0#S 1#a)))) (aA (wL jn rfl (cP bG))) bL) hu)),?_⟩
 apply sP N 0#Y ?_
 refine ⟨p,d,wy,β,cs,mk,en,rfl,z,λc=>k1 .closed (if_pos c),λc0=>?_⟩
 rw [if_neg (by rw [c0];simp)] at k1
 rw?
 apply i7 av N sA ?_
 cases mk with
 | none=>
   refine ⟨rfl,false,by simp [Jo],?_⟩
   refine bO ?_
   refine bO ?_
   exact SW _ _ ⟨rfl,rfl,rfl,c0⟩
 | some v=>
   refine ⟨rfl,true,by simp [Jo],?_⟩
   apply cD ?_
   apply i7 (v:=.int v) av N sA ?_
   refine cJ 0#K 0#K
   ·rw?
    exact ⟨show 1<=sizeLine by decide,k1 .settled (if_pos c)⟩
   ·exact SW _ _ ⟨rfl,rfl,gH.mpr c,c0⟩
def tU:dR 1 [aB,"ahead"] o7:=0#t
def Bb {P:fT} {w:dO} {K:bU} {mg:0#g} {base:cH} {f af aU aK bA bR aQ aN bu aL:ah} {fd:ia} (F:i9 K "close" "Keeper.close" o7 f fd) (T:Txt mg) (av:cu K mg af) (aE:0#r 1 af "check_not_closed" [aB] (gE af aU) []) (fJ:Dm P w K mg base 13 af "sure" [aB] (we af)):0#s (mO P w) 14 f fd [aB] (D8 af 0#I):=by
 refine i9.Qo F tU (λvs H Q E h=>?_) 0#U
 ·obtain ⟨p,d,wy,β,cs,mk,en,rfl,_⟩:=h
  rfl
 obtain ⟨p,d,wy,β,cs,mk,en,rfl,hk,k1,O⟩:=h
 have u:=hk
 obtain ⟨z,J,hp,_⟩:=hk
 unfold DZ at k1 O
 apply bI ⟨_,(aq (dB (Jd.x9 aE av.cl dH 0#G 0#A) (hs:=cU)) (aq (aV 1 tU.nd (rq fJ av.cl 0#G 0#A)) (aq (gA K 0#A j0) (aA (aW (uJ (slL K) (rq fJ av.cl 0#G 0#A) (uL (ir K T.kK 0#H)) uK)))))),?_⟩
 apply sP hp 0#Y ?_
 refine ⟨p,d,wy,β,cs,mk,en,rfl,u,λc=>k1 .closed (if_pos c),λc0=>?_⟩
 have O:=O (if_neg (by rw [c0];simp))
 rw?
 apply F3 hp 0#Y ?_
 refine ⟨p,d,wy,β,cs,mk,en,rfl,u,λR ps N s2 eR=>?_⟩
 have v:=s2 _ _ hp
 rw?
 refine yd av v (show 5<1000 by decide) ?_
 rw [aa1]
 have Z:=(u.up s2).air (mk':=mk) (IY:=true) v rfl
 have s3:ao (rm p H) (upd N p (.ins af z (Ci wy J d mk true))):=λb o e=>Ct _ _ _ _ _ (rK s2 _ _ e)
 have B:upd N p (.ins af z (Ci wy J d mk true)) R=some (.lst ps):=by rw [aF (by rintro rfl;rw [v] at eR;cases eR)];exact eR
 have D:upd N p (.ins af z (Ci wy J d mk true)) p=some (.ins af z (Ci wy J d mk true)):=au
 generalize upd N p (.ins af z (Ci wy J d mk true))=H3 at Z s3 B D ⊢
 walk_at "vd"
 refine F3 D 0#Y ?_
 walk_at "vd"
 refine ⟨p,d,wy,β,cs,mk,true,rfl,Z,λR4 ps4 H4 s4 ac=>?_⟩
 walk_at "vd"
 refine gR (.inl (bS.of (s4 _ _ B))) ?_
 refine 0#M
 walk_at "vd"
 refine Cr ac λS H5 s5 n5 e5=>?_
 have L:=s4.trans s5
 exact O S _ H5 (s3.trans L) (Z.up L) e5
def zZ:dR 1 [aB] lM:=0#t
def zF (F:i9 K "settled" "Keeper.settled" lM f fd) (av:cu K mg af):0#b 1 f fd [aB] (RE af):=by
 refine F.fq zZ 0#a
 obtain ⟨p,d,wy,β,cs,mk,en,rfl,⟨dx,pb,u,_⟩,k⟩:=h
 apply bI ⟨_,(aA (aW 0#S)),?_⟩
 exact i7 av u sA k
def BI:dR 1 [aB] nj:=0#t
def Bd (F:i9 K "closed" "Keeper.closed" nj f fd) (av:cu K mg af):0#b 1 f fd [aB] (LW af):=by
 refine F.fq BI 0#a
 obtain ⟨p,d,wy,β,cs,mk,en,rfl,⟨dx,pb,u,_⟩,k⟩:=h
 apply bI ⟨_,(aA (aW 0#S)),?_⟩
 exact i7 av u Qd k
def Ik (F:fU K "check_way" pW f fd) (vN:Xc K mg "NoWay" bu) (AI:mg "WAYS"=some (.ref xQ)) (hw:∀H,qR K H xQ [.str "apart",.str "joined",.str "spans",.str "chain"]):0#s (mO P w) 1 f fd [eN] (RO bu):=by
 refine i9.Qo F z9 (λvs H Q E h=>?_) 0#U
 ·obtain ⟨x,rfl,_⟩:=h
  rfl
 obtain ⟨x,rfl,u,v⟩:=h
 apply bI ⟨_,(aA (bK (bx (NI K) 0#A (Jd.ab8 rfl AI) rfl) (aA (wL vN rfl (cP bG))) bL)),?_⟩
 refine ⟨xQ,_,rfl,.inr (hw H),rfl,by decide,?_⟩
 cases c:O1 (.str x) [V.str "apart",.str "joined",.str "spans",.str "chain"] with
 | true=>
   refine ⟨false,rfl,?_⟩
   refine bO ?_
   exact v c
 | false=>
   refine ⟨true,rfl,?_⟩
   apply cD ?_
   exact ⟨show 1<=sizeLine by decide,u c⟩
def Di (F:fU K "check_bound" mh f fd) (oB:Xc K mg "NoBound" aL):0#s (mO P w) 1 f fd [aJ] (Gy aL):=by
 refine i9.Qo F vg (λvs H Q E h=>?_) 0#U
 ·obtain ⟨p,t,b,rfl,_⟩:=h
  rfl
 obtain ⟨p,t,b,rfl,hp,u,v⟩:=h
 apply bI ⟨_,(aA (bK (bx oZ 1#d aH 1#a) (aA (wL oB rfl (cP bG))) bL)),?_⟩
 refine cJ 0#K 0#K
 ·rw?
  exact ⟨show 1<=sizeLine by decide,u (kO c)⟩
 ·exact v (by have:=jF (gH.mpr c);simp?)
def Gg:dR 3 [aB,eN,aJ] qz:=0#t
def Dg (F:i9 K "__init__" "Keeper.__init__" qz f fd) (av:cu K mg af) (rT:DnX P w K mg base 1 "check_way" [eN] (RO bu)) (oM:DnX P w K mg base 1 "check_bound" [aJ] (Gy aL)):0#s (mO P w) 2 f fd [aB,eN,aJ] (Ag af bu aL):=by
 refine i9.Qo F Gg (λvs H Q E h=>?_) 0#U
 ·obtain ⟨p,O,J,x,β,rfl,_⟩:=h
  rfl
 obtain ⟨p,O,J,x,β,rfl,S,u,k1,k2,k3⟩:=h
 have hb0:=u
 obtain ⟨t,b,B,R,zt,zb⟩:=u
 have D:0<=t↔0<=β:=ahb R
 apply bI ⟨_,(aq (dB (Jd.x8 rT dH 0#G rfl (cP 0#H) (he:=bH) (hpl:=bZ)) (hs:=cU)) (aq (dB (Jd.x8 oM dH 0#G rfl (cP 0#P) (he:=bH) (hpl:=bZ)) (hs:=cU)) (aq (gA K 0#A 0#H) (aq (gA K 0#A 0#P) (aq (gA K 0#A Jd.zM) (aq (gA K 0#A eF) (aA (gA K 0#A j0)))))))),?_⟩
 apply ⟨x,rfl,k1,λc=>?_⟩
 refine ⟨J,t,b,rfl,B,λN=>k2 c (CL.mp λz=>by have:=D.mpr z;simp?),λN=>?_⟩
 have Y:=D.mp N
 obtain ⟨wy,rfl⟩:=agK c
 rw?
 apply yd av S (show 0<1000 by decide) ?_
 apply yd av au (show 1<1000 by decide) ?_
 refine Tw λd H1 Z L ed=>?_
 have M:=Z _ _ au
 have I:d≠p:=by rintro rfl;rw [au] at L;cases L
 rw?
 apply yd av M (show 2<1000 by decide) ?_
 apply yd av au (show 3<1000 by decide) ?_
 refine yd av au (show 4<1000 by decide) ?_
 have ne:∀b,b≠p->H b≠none->H1 b=H b:=λb u hn=>by
  cases z:H b with
  | none=>exact absurd z hn
  | some o=>exact Z _ _ (by rw [aF u,aF u];exact z)
 have v:J≠p:=by rintro rfl;rw [S] at B;cases B
 refine k3 wy rfl Y d _ (λb o e=>?_) (by rw [aF I,aF I] at L;exact L) ⟨O,J,(by rw [au];kernel_rfl),⟨t,b,by rw [aF v,aF v,aF v,ne J v (by rw [B];simp)];exact B,R,zt,zb⟩,Y,⟨[],by rw [aF I,aF I,aF I];exact ed,rfl,λx hx=>absurd hx 0#w⟩,ZP,jV _,jV _⟩
 have u:b≠p:=by
  rintro rfl
  rw [show rm b H b=none from if_pos rfl] at e
  cases e
 rw [kQ u] at e
 rw [aF u,aF u,aF u,ne b u (by rw [e];simp)]
 exact e
noncomputable def WI:Er->Nat
 | .closed=>0
 | .pT=>1
 | .settled=>2
 | .taken=>3
 | .full=>4
 | .missing=>5
 | .zB=>7
 | .nY=>8
noncomputable def HC:Er->Str
 | .closed => "Closed"
 | .pT => "NoRatio"
 | .settled => "Settled"
 | .taken => "Taken"
 | .full => "Full"
 | .missing => "Missing"
 | .zB => "NoWay"
 | .nY => "NoBound"
structure Wh (K:bU) (ea:Er->ah) (cs:List ah) (L:ah):Prop where
 xq:∀e,Xq K (ea e)
 exm:∀e,vI K (.ref (ea e)) (.ref L)=some true
 kit:∀(e:Er) (k:Nat) (C:ah),cs[k]?=some C->Hi K (.ref (ea e)) (.ref C)=some (WI e==k)
def erI:Er->Nat
 | .zB=>6
 | .nY=>7
 | e=>WI e
def aeW (h1:aes [a,b,c,d,e,g,h,i] (xqB K)=true) (h2:xw (λC=>xw (λD=>Hi K (.ref C) (.ref D)) [a,b,c,d,e,g,t,h,i]) [a,b,c,d,e,g,h,i]=xw (λi=>xw (λk=>some (i==k)) (jg 9)) [0,1,2,3,4,5,7,8])
 (h3:xw (λC=>vI K (.ref C) (.ref L)) [a,b,c,d,e,g,h,i]=ow 8 (some true)):Wh K (wk a b c d e g h i) [a,b,c,d,e,g,t,h,i] L:=by
 have u:∀r,[a,b,c,d,e,g,h,i][erI r]?=some (wk a b c d e g h i r):=λr=>by cases r <;> rfl
 have A:∀r,[0,1,2,3,4,5,7,8][erI r]?=some (WI r):=λr=>by cases r <;> rfl
 refine ⟨λr=>aiz (ZF.mp h1 _ (g8 (u r))),λr=>?_,λr k C z=>?_⟩
 ·have:=congrArg (·[erI r]?) h3
  simp only [gF,u,Oo] at this
  rw [if_pos (by cases r <;> decide)] at this
  exact uf this
 ·have v:k<9:=(tP.mp z).1
  have:=congrArg (·[erI r]?) h2
  simp only [gF,u,A] at this
  have:=congrArg (·[k]?) (uf this)
  simp only [gF,z,OY v] at this
  exact uf this
def L4 (ea:Er->ah):ah->bq->Option ah->Hp->VK->Prop:=λ_ c dx H Q=>∃r:Er,c=.ref (ea r)/\dx=none/\∀(l:ah) (H':Hp),ao H H'->H l=none->H' l=some (.lst [.str (HC r)])->Q (.ref l) H'
noncomputable def nl (j:Nat) (r:Er):0#n:=if WI r<j then [.str (HC r)] else []
def akh (h:WI r=j):nl j r=[]/\nl (j+1) r=[.str (HC r)]:=by
 unfold nl
 rw [if_neg 0#z,if_pos 0#z]
 exact ⟨rfl,rfl⟩
def akg (h:WI r≠j):nl (j+1) r=nl j r:=by
 unfold nl
 by_cases c:WI r<j
 ·rw [if_pos 0#z,if_pos c]
 ·rw [if_neg 0#z,if_neg c]
def zA (hE:Wh K ea cs L) (hc:c=.ref (ea r)) (hd:dx=none) (hC:cs[j]?=some C) (hn:WI r=j->HC r=nm) (hl:H l=some (.lst (nl j r)))
 (q:∀H',ao (rm l H) H'->H' l=some (.lst (nl (j+1) r))->rest D [some (.ref e),some (.ref l)] H'):DC (YS (tB (tCB (afZ K e c dx) (fY (VQ 0) (fY (tC (V.ref C)) pH)))) (TV (tBM K "list" zQ (VQ 1) (fY (tC (V.str nm)) pH))) TX) rest D [some (.ref e),some (.ref l)] H:=by
 rw?
 subst hd
 refine ⟨ea r,.ref C,.ref C,_,rfl,.own C,hc,λd u=>(by cases u),hE.xq r,hE.kit r j C hC,?_⟩
 refine 0#M
 by_cases z:WI r=j
 ·obtain ⟨a,b⟩:=akh z
  rw [show (WI r==j)=true by simp [z]]
  apply cD ?_
  rw [a] at hl
  apply ⟨.inl ⟨rfl,_,bS.of hl⟩,?_⟩
  refine gB hl (show 0<sizeLine by decide) ?_
  exact q _ (Ct _ _ _) (by rw [au,b,hn z];rfl)
 ·rw [show (WI r==j)=false by simp [z]]
  refine bO ?_
  exact q H jt (by rw [akg z];exact hl)
def Aa:dR 1 ["_law_e","_law_names"] u6:=0#t
def Ij (F:fU K "_law_named" u6 f fd) (T:Txt mg) (qS:Xc K mg "Closed" aU) (oE:Xc K mg "NoRatio" aN) (jn:Xc K mg "Settled" aK) (vO:Xc K mg "Taken" bA) (AJ:Xc K mg "Full" bR) (jm:Xc K mg "Missing" aQ) (Eo:Xc K mg "TooFew" ki) (vN:Xc K mg "NoWay" bu) (oB:Xc K mg "NoBound" aL) (hE:Wh K 0#I [aU,aN,aK,bA,bR,aQ,ki,bu,aL] fK):FnN P w K mg base 1 f fd "_law_e" (L4 0#I):=by
 refine ae7 F Aa λcdv e' u B outer s H Q hr L h=>?_
 obtain ⟨r,v,z,k⟩:=h
 have M:(e',u)∈[(e',u)]:=JM.mpr rfl
 have J:u.cls=u.cls:=rfl
 have D:u.dict=u.dict:=rfl
 apply bI ⟨_,(aq (aV 1 Aa.nd (fM gT)) (aq (bK (gw (eE (Ky K M J D L) rfl T.dz B0 (bN 0#A (Jd.zN rfl qS)) (he:=bH) (hpl:=(cO bH bZ)))) (aA (dB (d9 K 0#H bG) (hs:=cU))) bL) (aq (bK (gw (eE (Ky K M J D L) rfl T.dz B0 (bN 0#A (Jd.zN rfl oE)) (he:=bH) (hpl:=(cO bH bZ)))) (aA (dB (d9 K 0#H bG) (hs:=cU))) bL) (aq (bK (gw (eE (Ky K M J D L) rfl T.dz B0 (bN 0#A (Jd.zN rfl jn)) (he:=bH) (hpl:=(cO bH bZ)))) (aA (dB (d9 K 0#H bG) (hs:=cU))) bL) (aq (bK (gw (eE (Ky K M J D L) rfl T.dz B0 (bN 0#A (Jd.zN rfl vO)) (he:=bH) (hpl:=(cO bH bZ)))) (aA (dB (d9 K 0#H bG) (hs:=cU))) bL) (aq (bK (gw (eE (Ky K M J D L) rfl T.dz B0 (bN 0#A (Jd.zN rfl AJ)) (he:=bH) (hpl:=(cO bH bZ)))) (aA (dB (d9 K 0#H bG) (hs:=cU))) bL) (aq (bK (gw (eE (Ky K M J D L) rfl T.dz B0 (bN 0#A (Jd.zN rfl jm)) (he:=bH) (hpl:=(cO bH bZ)))) (aA (dB (d9 K 0#H bG) (hs:=cU))) bL) (aq (bK (gw (eE (Ky K M J D L) rfl T.dz B0 (bN 0#A (Jd.zN rfl Eo)) (he:=bH) (hpl:=(cO bH bZ)))) (aA (dB (d9 K 0#H bG) (hs:=cU))) bL) (aq (bK (gw (eE (Ky K M J D L) rfl T.dz B0 (bN 0#A (Jd.zN rfl vN)) (he:=bH) (hpl:=(cO bH bZ)))) (aA (dB (d9 K 0#H bG) (hs:=cU))) bL) (aq (bK (gw (eE (Ky K M J D L) rfl T.dz B0 (bN 0#A (Jd.zN rfl oB)) (he:=bH) (hpl:=(cO bH bZ)))) (aA (dB (d9 K 0#H bG) (hs:=cU))) bL) (aA (aW 0#H)))))))))))),?_⟩
 refine aG (mk:=.lst) 0#w λl H1 s1 n1 e1=>?_
 have E:∀{G G':Hp},ao H G->ao (rm l G) G'->ao H G':=λs s' b o h=>s' _ _ (by rw [kQ (by rintro rfl;rw [n1] at h;cases h)];exact s _ _ h)
 refine zA hE v z (j:=0) rfl (λh=>by cases r <;> first | rfl | cases h) e1 λH2 N e2=>?_
 have N:=E s1 N
 refine zA hE v z (j:=1) rfl (λh=>by cases r <;> first | rfl | cases h) e2 λH3 O e3=>?_
 have O:=E N O
 refine zA hE v z (j:=2) rfl (λh=>by cases r <;> first | rfl | cases h) e3 λH4 R e4=>?_
 have R:=E O R
 refine zA hE v z (j:=3) rfl (λh=>by cases r <;> first | rfl | cases h) e4 λH5 S e5=>?_
 have S:=E R S
 refine zA hE v z (j:=4) rfl (λh=>by cases r <;> first | rfl | cases h) e5 λH6 U e6=>?_
 have U:=E S U
 refine zA hE v z (j:=5) rfl (λh=>by cases r <;> first | rfl | cases h) e6 λH7 Y e7=>?_
 have Y:=E U Y
 refine zA hE v z (j:=6) rfl (λh=>by cases r <;> first | rfl | cases h) e7 λH8 Z e8=>?_
 have Z:=E Y Z
 refine zA hE v z (j:=7) rfl (λh=>by cases r <;> first | rfl | cases h) e8 λH9 s9 e9=>?_
 have s9:=E Z s9
 apply zA hE v z (j:=8) rfl (λh=>by cases r <;> first | rfl | cases h) e9 λum uU Ho=>?_
 refine k l um (E s9 uU) n1 ?_
 rw [Ho]
 cases r <;> rfl
def oH (h:H p=some (.tup [x,y,z,u])) (q:R ((((σ.set i (some x)).set j (some y)).set k (some z)).set l (some u)) H):U3 K 4 (wJ (kj i) (wJ (kj j) (wJ (kj k) (wJ (kj l) WT)))) (.ref p) σ H R:=
 ⟨p,_,rfl,qR.of h,rfl,x,_,rfl,y,_,rfl,z,_,rfl,u,_,rfl,rfl,q⟩
inductive Dw
 | put | fit | gap | KH | KJ | qM | settle | close
noncomputable def Mw:Dw->Str
 | .put => "put"
 | .fit => "fit"
 | .gap => "gap"
 | .KH => "mend"
 | .KJ => "match"
 | .qM => "strike"
 | .settle => "settle"
 | .close => "close"
def Ej (H:Hp) (e:ah) (w:Dw) (m t b:Int):Prop:=H e=some (.tup [.str (Mw w),.int m,.int t,.int b])/\Sz 160 m/\Sz 160 t/\Sz 160 b
def Ej.up (h:Ej H e w m t b) (s:ao H H'):Ej H' e w m t b:=⟨s _ _ h.1,h.2⟩
section
variable (cs:List Cv) (mk:0#m) (en:Bool) (w:Dw) (m t b:Int)
noncomputable def N8:Option Er:=match w with
 | .put=>wR cs mk en m b
 | .fit=>wR cs mk en m 1
 | .gap=>F7 cs mk en m
 | .KH=>nh cs mk en m b
 | .KJ=>nh cs mk en m 1
 | .qM=>o5 cs mk en m
 | .settle=>zW mk en m
 | .close=>DZ en
noncomputable def Ss:List Cv:=match w with
 | .put=>i6 cs m (some ((t:Rat)/(b:Rat)))
 | .KH=>i6 cs m (some ((t:Rat)/(b:Rat)))
 | .fit=>i6 cs m (some ((t:Rat)/((1:Int):Rat)))
 | .KJ=>i6 cs m (some ((t:Rat)/((1:Int):Rat)))
 | .gap=>i6 cs m none
 | .qM=>uF cs m
 | _=>cs
def apM:0#m:=match w with
 | .settle=>some m
 | _=>mk
def apE:Bool:=match w with
 | .close=>true
 | _=>en
end
def Wj (w:Dw) (v:V) (H:Hp):Prop:=((w=.settle\/w=.close)/\∃(R:ah) (xs:0#n),v=.ref R/\H R=some (.lst xs))\/((w≠.settle/\w≠.close)/\v=.bM)
def Wj.up (h:Wj w v H) (s:ao H H'):Wj w v H':=by
 rcases h with ⟨a,R,u,b,c⟩ | h
 ·exact .inl ⟨a,R,u,b,s _ _ c⟩
 ·exact .inr h
inductive RJ (C:ah) (ea:Er->ah) (vs:List V) (H:Hp) (Q:VK) (E:XK):Prop where
 | mk (p d e:ah) (wy:Wy) (β:Rat) (cs:List Cv) (mk:0#m) (en:Bool) (w:Dw) (m t b:Int):vs=[.ref p,.ref e]->0#j en->Ej H e w m t b->(∀e,N8 cs mk en w m b=some e->∀H',ao H H'->E (.ref (ea e)) none H')->(N8 cs mk en w m b=none->qv (Ss cs w m t b)/\∀(v:V) (H':Hp),ao (qP p d H) H'->fm C H' p d wy β (Ss cs w m t b) (apM mk w m) (apE en w)->Wj w v H'->Q v H')->RJ C ea vs H Q E
inductive Rw (C:ah) (vs:List V) (H:Hp) (Q:VK) (E_:XK):Prop where
 | mk (p d e:ah) (wy:Wy) (β:Rat) (cs:List Cv) (mk:0#m) (en:Bool) (w:Dw) (m t b:Int):vs=[.ref p,.ref e]->0#j en->Ej H e w m t b->(∀e,N8 cs mk en w m b=some e->∀(y l:ah) (H':Hp),ao H H'->H' y=some (.tup [.str "no",.ref l])->H' l=some (.lst [.str (HC e)])->Q (.ref y) H')->(N8 cs mk en w m b=none->qv (Ss cs w m t b)/\∀(y:ah) (v:V) (H':Hp),ao (qP p d H) H'->fm C H' p d wy β (Ss cs w m t b) (apM mk w m) (apE en w)->Wj w v H'->H' y=some (.tup [.str "yes",v])->Q (.ref y) H')->Rw C vs H Q E_
def TL (s:ao (rm p H) H'):ao (qP p d H) H':=λb o e=>s _ _ (rK jt _ _ e)
def mD:dR 2 [bX,aP,"_law_what",eK,dD,cZ] yo:=0#t
def KP (F:fU K "_law_said" yo f fd) (av:cu K mg af) (qf:0#r 4 af "put" [aB,aM,"top",cK] (JE af 0#I) []) (oJ:0#r 4 af "put" [aB,aM,"top",cK] (JE af 0#I) [.int 1]) (iJ:0#r 3 af "gap" [aB,aM] (Od af 0#I) [])
 (oK:0#r 4 af "mend" [aB,aM,"top",cK] (BU af 0#I) []) (mP:0#r 4 af "mend" [aB,aM,"top",cK] (BU af 0#I) [.int 1]) (kZ:0#r 3 af "strike" [aB,aM] (Am af 0#I) [])
 (kX:0#r 14 af "settle" [aB,aM] (Al af 0#I) []) (mQ:0#r 14 af "close" [aB] (D8 af 0#I) []):0#s (mO P w) 15 f fd [bX,aP] (RJ af 0#I):=by
 refine i9.Qo F mD (λvs H Q E h=>?_) 0#U
 ·obtain ⟨p,d,e,wy,β,cs,mk,en,w,m,t,b,rfl,_⟩:=h
  rfl
 obtain ⟨p,d,e,wy,β,cs,mk,en,w,m,t,b,rfl,hk,⟨he,O,S,zb⟩,L,N⟩:=h
 have v:=hk
 obtain ⟨dx,pb,J,_⟩:=hk
 apply bI ⟨_,(aq (Jd.qy 0#H (Jd.QM K (n:=4) rfl (iE (cG (i:=2) mD.nd rfl 0#D) (iE (cG (i:=3) mD.nd rfl 0#D) (iE (cG (i:=4) mD.nd rfl 0#D) (iE (cG (i:=5) mD.nd rfl 0#D) rj)))))) (aq (bK (bx cN 0#P bG 1#a) (aA (aW (Jd.tT qf av.cl dH 0#G 0#A (Jd.a3 0#X (aa 4) (aa 5)) (he:=bH) (hpl:=(cO bH (cO bH bZ)))))) bL) (aq (bK (bx cN 0#P bG 1#a) (aA (aW (Jd.tT oJ av.cl dH 0#G 0#A (bN 0#X (aa 4)) (he:=bH) (hpl:=(cO bH bZ))))) bL) (aq (bK (bx cN 0#P bG 1#a) (aA (aW (Jd.tT iJ av.cl dH 0#G 0#A (cP 0#X) (he:=bH) (hpl:=bZ)))) bL) (aq (bK (bx cN 0#P bG 1#a) (aA (aW (Jd.tT oK av.cl dH 0#G 0#A (Jd.a3 0#X (aa 4) (aa 5)) (he:=bH) (hpl:=(cO bH (cO bH bZ)))))) bL) (aq (bK (bx cN 0#P bG 1#a) (aA (aW (Jd.tT mP av.cl dH 0#G 0#A (bN 0#X (aa 4)) (he:=bH) (hpl:=(cO bH bZ))))) bL) (aq (bK (bx cN 0#P bG 1#a) (aA (aW (Jd.tT kZ av.cl dH 0#G 0#A (cP 0#X) (he:=bH) (hpl:=bZ)))) bL) (aq (bK (bx cN 0#P bG 1#a) (aA (aW (Jd.tT kX av.cl dH 0#G 0#A (cP 0#X) (he:=bH) (hpl:=bZ)))) bL) (aA (aW (Jd.x9 mQ av.cl dH 0#G 0#A))))))))))),?_⟩
 apply Cq ?_
 apply oH he ?_
 by_cases h0:w=.put
 ·subst h0
  refine cj (c:=true) 0#x ?_
  refine 0#M
  apply cD ?_
  apply sP J 0#Y ?_
  refine ⟨p,d,wy,β,cs,mk,en,m,t,b,rfl,v,O,S,zb,L,λc=>?_⟩
  obtain ⟨a1,a2⟩:=N c
  exact ⟨a1,λz B u=>a2 .bM z B u (.inr ⟨⟨by simp,by simp⟩,rfl⟩)⟩
 refine cj (c:=false) (by cases w <;> first | decide +kernel | exact absurd rfl h0) ?_
 refine 0#M
 apply bO ?_
 by_cases h1:w=.fit
 ·subst h1
  refine cj (c:=true) 0#x ?_
  refine 0#M
  apply cD ?_
  apply sP J 0#Y ?_
  refine ⟨p,d,wy,β,cs,mk,en,m,t,1,rfl,v,O,S,by decide,L,λc=>?_⟩
  obtain ⟨a1,a2⟩:=N c
  exact ⟨a1,λz B u=>a2 .bM z B u (.inr ⟨⟨by simp,by simp⟩,rfl⟩)⟩
 refine cj (c:=false) (by cases w <;> first | decide +kernel | exact absurd rfl h1) ?_
 refine 0#M
 apply bO ?_
 by_cases h2:w=.gap
 ·subst h2
  refine cj (c:=true) 0#x ?_
  refine 0#M
  apply cD ?_
  apply sP J 0#Y ?_
  refine ⟨p,d,wy,β,cs,mk,en,m,rfl,v,O,λe h=>L e h H 0#V,λc=>?_⟩
  obtain ⟨a1,a2⟩:=N c
  exact ⟨a1,λz B u=>a2 .bM z B u (.inr ⟨⟨by simp,by simp⟩,rfl⟩)⟩
 refine cj (c:=false) (by cases w <;> first | decide +kernel | exact absurd rfl h2) ?_
 refine 0#M
 apply bO ?_
 by_cases h3:w=.KH
 ·subst h3
  refine cj (c:=true) 0#x ?_
  refine 0#M
  apply cD ?_
  apply sP J 0#Y ?_
  refine ⟨p,d,wy,β,cs,mk,en,m,t,b,rfl,v,O,S,zb,L,λc=>?_⟩
  obtain ⟨a1,a2⟩:=N c
  exact ⟨a1,λz B u=>a2 .bM z B u (.inr ⟨⟨by simp,by simp⟩,rfl⟩)⟩
 refine cj (c:=false) (by cases w <;> first | decide +kernel | exact absurd rfl h3) ?_
 refine 0#M
 apply bO ?_
 by_cases h4:w=.KJ
 ·subst h4
  refine cj (c:=true) 0#x ?_
  refine 0#M
  apply cD ?_
  apply sP J 0#Y ?_
  refine ⟨p,d,wy,β,cs,mk,en,m,t,1,rfl,v,O,S,by decide,L,λc=>?_⟩
  obtain ⟨a1,a2⟩:=N c
  exact ⟨a1,λz B u=>a2 .bM z B u (.inr ⟨⟨by simp,by simp⟩,rfl⟩)⟩
 refine cj (c:=false) (by cases w <;> first | decide +kernel | exact absurd rfl h4) ?_
 refine 0#M
 apply bO ?_
 by_cases h5:w=.qM
 ·subst h5
  refine cj (c:=true) 0#x ?_
  refine 0#M
  apply cD ?_
  apply sP J 0#Y ?_
  refine ⟨p,d,wy,β,cs,mk,en,m,rfl,v,λe h=>L e h H 0#V,λc z B u=>?_⟩
  exact (N c).2 .bM z B u (.inr ⟨⟨by simp,by simp⟩,rfl⟩)
 refine cj (c:=false) (by cases w <;> first | decide +kernel | exact absurd rfl h5) ?_
 refine 0#M
 apply bO ?_
 by_cases h6:w=.settle
 ·subst h6
  refine cj (c:=true) 0#x ?_
  refine 0#M
  apply cD ?_
  apply sP J 0#Y ?_
  refine ⟨p,d,wy,β,cs,mk,en,m,rfl,v,λe h=>L e h H 0#V,λc R xs z B u Z=>?_⟩
  exact (N c).2 (.ref R) z (TL B) u (.inl ⟨.inl rfl,R,xs,rfl,Z⟩)
 refine cj (c:=false) (by cases w <;> first | decide +kernel | exact absurd rfl h6) ?_
 refine 0#M
 apply bO ?_
 obtain rfl:w=.close:=by cases w <;> first | rfl | contradiction
 apply sP J 0#Y ?_
 refine ⟨p,d,wy,β,cs,mk,en,rfl,v,λe h=>L e h H 0#V,λc R xs z B u Z=>?_⟩
 exact (N c).2 (.ref R) z (TL B) u (.inl ⟨.inr rfl,R,xs,rfl,Z⟩)
def vh:dR 2 [bX,aP,"_law_found","_law_e"] yj:=0#t
def NQ (F:fU K "_law_done" yj f fd) (jZ:Xc K mg "LathError" fK) (hE:Wh K 0#I [aU,aN,aK,bA,bR,aQ,ki,bu,aL] fK) (uo:DnX P w K mg base 15 "_law_said" [bX,aP] (RJ af 0#I)) (jj:DnN P w K mg base 1 "_law_named" "_law_e" (L4 0#I)):0#b 16 f fd [bX,aP] (Rw af):=by
 refine F.fq vh 0#a
 obtain ⟨p,d,e,wy,β,cs,mk,en,w,m,t,b,rfl,U,S,k1,k2⟩:=h
 apply bI ⟨_,(aq (Jd.vW (j:=3) vh.nd rfl rfl rfl jZ.at_ rfl rfl (λZ xe' E' O=>(aA (nK (i:=2) vh.nd rfl 0#D (Jd.x8 uo O 0#G rfl (eV 0#A (eV 0#H gT bH) bH) (he:=bH) (hpl:=(cO bH bZ))) (hs:=cU)))) (λe' ob' c' dx' Z qZ qW lH qY=>(aA (aW (b9 (eV bG (eV (Jd.X5 jj hr 0#y qZ qW lH qY rfl 0#X) gT yF) pG)))))) (aA (aW (b9 (bN bG 0#P))))),?_⟩
 refine ⟨p,d,e,wy,β,cs,mk,en,w,m,t,b,rfl,U,S,λr z M s1=>⟨hE.exm r,λe2 σ' B=>?_⟩,λc=>?_⟩
 ·obtain ⟨x0,x1,x2,x3,rfl⟩:=aa4 B
  rw?
  apply ⟨rfl,r,rfl,rfl,λl J s2 nl_ R=>?_⟩
  refine aG (mk:=.tup) 0#w λy N L n3 e3=>?_
  exact k1 r z y l N ((s1.trans s2).trans L) e3 (L _ _ R)
 ·obtain ⟨a1,a2⟩:=k2 c
  apply ⟨a1,λv M s1 u Y=>?_⟩
  refine aG (mk:=.tup) 0#w λy J s2 n2 e2=>?_
  exact a2 y v J 1#h (u.up s2) (Y.up s2) e2
def Nl (Pb:Bool->Hp->Prop) (test:∀B:Bool->Hp->Prop,(∀r H1,Pb r H1->B r H1)->c σ H B) (yes:∀H1,Pb true H1->s1 D σ H1) (no:∀H1,Pb false H1->s2 D σ H1):YS c s1 s2 D σ H:=
 ah8 (test _ λr H1 h=>by
  cases r with
  | true=>rw [if_pos rfl];exact yes H1 h
  | false=>rw [if_neg pJ];exact no H1 h)
noncomputable def sJ (dl:ah) (mk:0#m) (en:Bool):List (Key×V):=[(.inr "at",.ref dl),(.inr "until",Jo mk),(.inr "ended",.bl en)]
def ahT:tM (sJ dl mk en) (Sum.inr ("at":Str))=some (.ref dl):=by kernel_rfl
def XT:tM (sJ dl mk en) (Sum.inr ("until":Str))=some (Jo mk):=by kernel_rfl
def afT:tM (sJ dl mk en) (Sum.inr ("ended":Str))=some (.bl en):=by kernel_rfl
def abn:putK (sJ dl mk en) (Sum.inr ("until":Str)) (Jo mk')=sJ dl mk' en:=by kernel_rfl
def abm:putK (sJ dl mk en) (Sum.inr ("ended":Str)) (.bl IY)=sJ dl mk IY:=by kernel_rfl
def iC (H:Hp) (o dl:ah) (cs:List Cv) (mk:0#m) (en:Bool):Prop:=H o=some (.dK (sJ dl mk en))/\ME H dl cs/\qv cs
def iC.up (h:iC H o dl cs mk en) (s:ao H H'):iC H' o dl cs mk en:=⟨s _ _ h.1,h.2.1.up s,h.2.2⟩
def iC.gAt (h:iC H o dl cs mk en):kJ H o (.str "at") (some (.ref dl)):=by have:=kJ.k (k:=Sum.inr ("at":Str)) h.1;rw [ahT] at this;exact this
def iC.gUn (h:iC H o dl cs mk en):kJ H o (.str "until") (some (Jo mk)):=by have:=kJ.k (k:=Sum.inr ("until":Str)) h.1;rw [XT] at this;exact this
def iC.gEn (h:iC H o dl cs mk en):kJ H o (.str "ended") (some (.bl en)):=by have:=kJ.k (k:=Sum.inr ("ended":Str)) h.1;rw [afT] at this;exact this
def iC.ne (h:iC H o dl cs mk en):dl≠o:=λe=>by
 obtain ⟨h1,⟨ks,h2,_⟩,_⟩:=h
 rw [e,h1] at h2
 have h2:=HO.dK.inj (uf h2)
 cases ks <;> simp [sJ,keyed] at h2
noncomputable def erV:Option Er->V
 | none=>.bM
 | some e=>.str (HC e)
section
variable (cs:List Cv) (mk:0#m) (en:Bool) (w:Dw) (m b:Int)
def C9:Bool:=match w with
 | .put=>true
 | .KH=>true
 | _=>false
def ahD:Bool:=match w with
 | .close=>true
 | _=>false
def afx:Bool:=match w with
 | .settle=>true
 | _=>false
noncomputable def shE:Option Er:=if en=true then some .closed else if (C9 w&&decide (b=0))=true then some .pT else if ahD w=true then none else match mk with
 | none=>none
 | some u=>if (afx w&&decide (m=u))=true then none else if m<=u then some .settled else none
end
def Kx (w:Dw):Bool:=match w with
 | .put=>true
 | .fit=>true
 | .gap=>true
 | _=>false
def Qa (w:Dw):Bool:=match w with
 | .qM=>true
 | _=>false
def aaV (w:Dw):Bool:=match w with
 | .KH=>true
 | .KJ=>true
 | _=>false
noncomputable def rfR (cs:List Cv) (w:Dw) (m:Int):Option Er:=if (Kx w&&(cI cs m).isSome)=true then some .taken else if (Kx w&&decide (40<=cs.length))=true then some .full else if (Qa w&&!(cI cs m).isSome)=true then some .missing else if (aaV w&&!((cI cs m).getD none).isSome)=true then some .missing else none
def Kz {α:Type} [Decidable c] {x y z:Option α}:(if c then x else y).or z=if c then x.or z else y.or z:=by split <;> rfl
def ifd {α:Type} [Decidable c] {x y:α}:(if c then x else y)=if decide c=true then x else y:=by by_cases h:c <;> simp [h]
def agt:(match mk with | none=>none | some u=>if (s&&decide (m=u))=true then none else if m<=u then some Er.settled else none)=if (if s=true then mk.any λu=>decide (m<u) else We mk m)=true then some .settled else none:=by
 cases mk with
 | none=>cases s <;> rfl
 | some u=>
   cases s
   ·exact ifd (c:=m<=u)
   ·show (if (true&&decide (m=u))=true then none else if m<=u then some Er.settled else none)=if decide (m<u)=true then some Er.settled else none
    by_cases e:m=u
    ·rw [if_pos (show (true&&decide (m=u))=true from jN e)]
     exact (if_neg λz=>ad7 (kO z) e).symm
    ·rw [if_neg (show ¬(true&&decide (m=u))=true from λz=>e (kO z))]
     by_cases l:m<u
     ·exact (if_pos (vF l)).trans (if_pos (jN l)).symm
     ·exact (if_neg λz=>l (Int.lt_iff_le_and_ne.mpr ⟨z,e⟩)).trans (if_neg λz=>l (kO z)).symm
def ago:N8 cs mk en w m b=(shE mk en w m b).or (rfR cs w m):=by
 unfold shE rfR
 rw [agt,Kz,Kz,Kz,Kz]
 have u:(if en=true then some Er.closed else HZ cs mk m)=if en=true then some .closed else if We mk m=true then some .settled else if (cI cs m).isSome=true then some .taken else if decide (40<=cs.length)=true then some .full else none:=by
  unfold HZ
  rw [ifd (c:=40<=cs.length)]
 cases w
 ·show wR cs mk en m b=_
  unfold wR HZ
  rw [ifd (c:=b=0),ifd (c:=40<=cs.length)]
  rfl
 ·exact u
 ·exact u
 ·show nh cs mk en m b=_
  unfold nh
  rw [ifd (c:=b=0)]
  cases ((cI cs m).getD none).isSome <;> rfl
 ·show nh cs mk en m 1=_
  unfold nh
  cases ((cI cs m).getD none).isSome <;> rfl
 ·show o5 cs mk en m=_
  unfold o5
  cases (cI cs m).isSome <;> rfl
 ·rfl
 ·rfl
inductive BW (vs:List V) (H:Hp) (Q:VK) (E_:XK):Prop where
 | mk (o dl e:ah) (cs:List Cv) (mk:0#m) (en:Bool) (w:Dw) (m t b:Int):vs=[.ref o,.ref e]->iC H o dl cs mk en->Ej H e w m t b->(∀H',ao H H'->Q (erV (N8 cs mk en w m b)) H')->BW vs H Q E_
inductive RK (vs:List V) (H:Hp) (Q:VK) (E_:XK):Prop where
 | mk (o dl e:ah) (cs:List Cv) (mk:0#m) (en:Bool) (w:Dw) (m t b:Int):vs=[.ref o,.ref e]->iC H o dl cs mk en->Ej H e w m t b->(∀H',ao H H'->Q (erV (shE mk en w m b)) H')->RK vs H Q E_
def mE:dR 2 [bV,aP,"_law_what",eK,dD,cZ] yp:=0#t
def NT (F:fU K "_law_shut" yp f fd):0#b 1 f fd [bV,aP] RK:=by
 refine F.fq mE 0#a
 obtain ⟨o,dl,e,cs,mk,en,w,m,t,b,rfl,L,⟨R,zm,zt,zb⟩,k⟩:=h
 have I:=hr.units
 have U:O1 (.str (Mw w)) [V.str "put",.str "mend"]=C9 w:=by cases w <;> decide +kernel
 have Y:decide (Mw w=("close":Str))=ahD w:=by cases w <;> decide +kernel
 have Z:decide (Mw w=("settle":Str))=afx w:=by cases w <;> decide +kernel
 unfold shE at k
 refine bI (Jd.cut 3 (λO H'=>O=[some (.ref o),some (.ref e),some (.str (Mw w)),some (.int m),some (.int t),some (.int b)]/\ao H H'/\en=false/\(C9 w&&decide (b=0))=false) ?_ λu S N=>?_)
 ·refine ⟨_,(aq (bK (iW (Jd.zP (bx cN 0#P bG 1#a) (Jd.sO (bx sI (kP I 0#A bG 0#B) eF 1#a)))) (aA (aW eF)) bL) (aq (bK (iW (mw (bx cN 0#P bG 1#a) (mz (bx cN 0#X (kP I 0#A bG 0#B) 1#a)))) (aA (aW eF)) bL) (aq (bK (bx Jr 0#X (kP I 0#A bG 0#B) 1#a) (aA (aW bG)) bL) (aA (aW eF))))),?_⟩
  rintro O z ⟨rfl,v,rfl,c1⟩
  rw [if_neg 0#w,if_neg (by rw [c1];simp)] at k
  rw?
  refine cj Y ?_
  refine 0#M
  refine cJ 0#K 0#K
  ·rw [if_pos c] at k
   apply cD ?_
   exact k z v
  rw [if_neg c] at k
  rw?
  apply ⟨o,_,rfl,(L.up v).gUn,?_⟩
  cases mk with
  | none=>
    refine ⟨rfl,true,by simp [Jo],?_⟩
    apply cD ?_
    exact k z v
  | some u=>
    refine ⟨rfl,false,by simp [Jo],?_⟩
    refine bO ?_
    have J:kJ z o (.str "until") (some (.int u)):=(L.up v).gUn
    rw?
    refine cj Z ?_
    refine ⟨afx w,rfl,?_⟩
    refine cJ (λc2=>?_) (λc2=>?_)
    ·rw?
     apply ⟨o,_,rfl,J,?_⟩
     refine cJ (λc3=>?_) (λc3=>?_)
     ·rw?
      dsimp only at k
      rw [if_pos (by rw [c2,c3];rfl)] at k
      exact k z v
     dsimp only at k
     rw [if_neg (by rw [c2,gH.mpr c3];simp)] at k
     rw?
     apply ⟨o,_,rfl,J,?_⟩
     refine cJ (λG=>?_) (λG=>?_)
     ·rw?
      rw [if_pos (kO G)] at k
      exact k z v
     ·rw?
      rw [if_neg (jF (gH.mpr G))] at k
      exact k z v
    ·dsimp only at k
     rw [if_neg (by rw [gH.mpr c2];simp)] at k
     apply bO ?_
     apply ⟨o,_,rfl,J,?_⟩
     refine cJ (λG=>?_) (λG=>?_)
     ·rw?
      rw [if_pos (kO G)] at k
      exact k z v
     ·rw?
      rw [if_neg (jF (gH.mpr G))] at k
      exact k z v
 apply ⟨_,(aq (Jd.qy 0#H (Jd.QM K (n:=4) rfl (iE (cG (i:=2) mE.nd rfl 0#D) (iE (cG (i:=3) mE.nd rfl 0#D) (iE (cG (i:=4) mE.nd rfl 0#D) (iE (cG (i:=5) mE.nd rfl 0#D) rj)))))) (aq (bK (gw (kP I 0#A bG 0#B)) (aA (aW bG)) bL) (aq (bK (iW (mw (bx (EY K) 0#P (b9 (bN bG bG)) rfl) (mz (bx cN (aa 5) aH 1#a)))) (aA (aW bG)) bL) S))),?_⟩
 apply Cq ?_
 apply oH R ?_
 apply ⟨o,_,rfl,L.gEn,?_⟩
 refine cJ 0#K 0#K
 ·rw [if_pos c] at k
  rw?
  exact k H 0#V
 rw [if_neg c] at k
 have c:=gH.mpr c
 rw?
 refine aG (mk:=.tup) 0#w λy z v n1 e1=>?_
 refine ⟨y,_,rfl,.inr (qR.of e1),rfl,rfl,?_⟩
 rw [U]
 refine ⟨C9 w,rfl,?_⟩
 refine cJ (λc1=>?_) (λc1=>?_)
 ·rw?
  refine cJ (λc2=>?_) (λc2=>?_)
  ·rw [if_pos (by rw [c1,c2];rfl)] at k
   rw?
   exact k z v
  ·exact N _ _ ⟨rfl,v,c,by rw [gH.mpr c2,adJ]⟩
 ·refine bO ?_
  exact N _ _ ⟨rfl,v,c,by rw [gH.mpr c1];rfl⟩
def jc:dR 2 [bV,aP,"_law_what",eK,dD,cZ] qG:=0#t
def Fy (F:fU K "_law_refused" qG f fd) (T:Txt mg) (rX:0#c 1 "_law_shut" [bV,aP] RK):0#b 2 f fd [bV,aP] BW:=by
 refine F.fq jc 0#a
 obtain ⟨o,I,e,cs,mk,en,w,m,t,b,rfl,N,hd,k⟩:=h
 have he:=hd.1
 have J:=hr.units
 obtain ⟨O,v,S,hks⟩:=N.2.1
 have L:cI cs m=(cI O m).map (vG (·.2)):=by rw [<- S,get_map]
 have q1:O1 (.str (Mw w)) [V.str "put",.str "fit",.str "gap"]=Kx w:=by cases w <;> decide +kernel
 have q2:decide (Mw w=("strike":Str))=Qa w:=by cases w <;> decide +kernel
 have q3:O1 (.str (Mw w)) [V.str "mend",.str "match"]=aaV w:=by cases w <;> decide +kernel
 rw [ago] at k
 refine bI (Jd.cut 3 (λσ H'=>σ=[some (.ref o),some (.ref e),some (.str (Mw w)),some (.int m),some (.int t),some (.int b)]/\ao H H'/\shE mk en w m b=none/\(Kx w=true->(cI cs m).isSome=false/\cs.length<40)) ?_ λu hu SW=>?_)
 ·refine ⟨_,(aq (bK (iW (mw (bx cN 0#P bG 1#a) (mz (bx (Tg J) 0#X (kP J 0#A bG 0#B) rfl)))) (aA (aW bG)) bL) (aq (bK (iW (mw (bx (EY K) 0#P (b9 (bN bG bG)) rfl) (mz (bx sI (Jd.ab1 J (kP J 0#A bG 0#B) 0#X) eF 1#a)))) (aA (aW bG)) bL) (aA (aW eF)))),?_⟩
  rintro σ H1 ⟨rfl,s1,c0,c1⟩
  have ac:=s1 _ _ v
  have C7:=N.up s1
  rw [c0] at k
  have k:∀H',ao H H'->Q (erV (rfR cs w m)) H':=k
  unfold rfR at k
  have Eu:(Kx w&&((cI cs m).isSome||decide (40<=cs.length)))=false:=by
   cases z:Kx w with
   | false=>rfl
   | true=>obtain ⟨a,b⟩:=c1 z;rw [a,mJ 0#z];rfl
  rw [if_neg (λz=>by cases x:Kx w <;> rw [x] at Eu z <;> simp_all),if_neg (λz=>by cases x:Kx w <;> rw [x] at Eu z <;> simp_all)] at k
  have g1:kJ H1 I (.int m) ((cI O m).map AU):=by have:=kJ.k (k:=Sum.inl m) ac;rw [gZ] at this;exact this
  have i1:(cI cs m).isSome=((cI O m).map AU).isSome:=by rw [L,CC,CC]
  with_reducible refine Yl ?_
  refine Nl (λr H'=>ao H H'/\r=(Qa w&&!(cI cs m).isSome)) (λB R=>?_) (λG ⟨s2,c2⟩=>?_) (λG ⟨s2,c2⟩=>?_)
  ·rw?
   refine cj q2 ?_
   refine ⟨Qa w,rfl,?_⟩
   refine cJ 0#K 0#K
   ·rw?
    refine ⟨o,_,rfl,C7.gAt,?_⟩
    refine ⟨I,_,rfl,g1,?_⟩
    refine ⟨_,rfl,R _ _ ⟨s1,?_⟩⟩
    rw [c,i1]
    rfl
   ·refine R _ _ ⟨s1,?_⟩
    rw [gH.mpr c]
    rfl
  ·rw [if_pos c2.symm] at k
   rw?
   exact k G s2
  rw [if_neg (by rw [<- c2];simp)] at k
  have g2:=s2 _ _ v
  with_reducible refine Q8 ?_
  with_reducible refine Yl ?_
  refine Nl (λr H'=>ao H H'/\r=(aaV w&&!((cI cs m).getD none).isSome)) (λB R=>?_) (λH3 ⟨s3,c3⟩=>?_) (λH3 ⟨s3,c3⟩=>?_)
  ·rw?
   refine aG (mk:=.tup) 0#w λy H3 s3 n3 e3=>?_
   refine ⟨y,_,rfl,.inr (qR.of e3),rfl,rfl,?_⟩
   rw [q3]
   refine ⟨aaV w,rfl,?_⟩
   have lZ:=s2.trans s3
   have Y:=lZ _ _ v
   refine cJ 0#K 0#K
   ·rw?
    refine ⟨o,_,rfl,(N.up lZ).gAt,?_⟩
    apply ⟨I,rfl,.inl ⟨_,.inl Y⟩,?_⟩
    refine ⟨_,kJ.k (k:=Sum.inl m) Y,?_⟩
    rw [gZ]
    rw?
    refine ⟨rfl,_,rfl,R _ _ ⟨lZ,?_⟩⟩
    rw [c,L]
    cases cI O m with
    | none=>rfl
    | some z=>cases z <;> rfl
   ·refine R _ _ ⟨lZ,?_⟩
    rw [gH.mpr c]
    rfl
  ·rw [if_pos c3.symm] at k
   rw?
   exact k H3 s3
  ·rw [if_neg (by rw [<- c3];simp)] at k
   rw?
   exact k H3 s3
 apply ⟨_,(aq (Jd.qy 0#H (Jd.QM K (n:=4) rfl (iE (cG (i:=2) jc.nd rfl 0#D) (iE (cG (i:=3) jc.nd rfl 0#D) (iE (cG (i:=4) jc.nd rfl 0#D) (iE (cG (i:=5) jc.nd rfl 0#D) rj)))))) (aq (bK (bx jr (cg rX hr 0#A 0#H) eF 1#a) (aA (aW (cg rX hr 0#A 0#H))) bL) (aq (bK (bx (EY K) 0#P (b9 (Jd.a3 bG bG bG)) rfl) (aq (bK (bx (XR J) 0#X (kP J 0#A bG 0#B) rfl) (aA (aW bG)) bL) (aA (bK (bx Jq (eE ahH rfl T.kK ZO (cP (kP J 0#A bG 0#B)) (he:=An) (hpl:=bZ)) aH 1#a) (aA (aW bG)) bL))) bL) hu))),?_⟩
 apply Cq ?_
 apply oH he ?_
 apply ⟨o,I,e,cs,mk,en,w,m,t,b,rfl,N,hd,λH1 s1=>?_⟩
 cases hs:shE mk en w m b with
 | some r=>
   refine ⟨rfl,true,by simp [erV],?_⟩
   apply cD ?_
   refine ⟨o,I,e,cs,mk,en,w,m,t,b,rfl,N.up s1,hd.up s1,λG s2=>?_⟩
   rw [hs] at k ⊢
   exact k G 1#h
 | none=>
   refine ⟨rfl,false,by simp [erV],?_⟩
   apply bO ?_
   refine aG (mk:=.tup) 0#w λy G s2 n2 e2=>?_
   refine ⟨y,_,rfl,.inr (qR.of e2),rfl,rfl,?_⟩
   rw [q1]
   refine ⟨Kx w,rfl,?_⟩
   have M:=s1.trans s2
   refine cJ (λc1=>?_) (λc1=>?_)
   ·have k:∀H',ao H H'->Q (erV (rfR cs w m)) H':=by rw [hs] at k;exact k
    unfold rfR at k
    have U:=M _ _ v
    have Z:=N.up M
    rw?
    refine ⟨o,_,rfl,Z.gAt,?_⟩
    refine ⟨I,_,rfl,kJ.k (k:=Sum.inl m) U,?_⟩
    rw [gZ]
    cases hz:cI O m with
    | some z=>
      rw [hz] at L
      rw [if_pos (by rw [c1,L];rfl)] at k
      refine ⟨true,rfl,?_⟩
      apply cD ?_
      exact k G M
    | none=>
      rw [hz] at L
      rw [if_neg (by rw [L];simp)] at k
      refine ⟨false,rfl,?_⟩
      apply bO ?_
      apply ⟨o,_,rfl,Z.gAt,?_⟩
      refine ⟨I,_,rfl,U,?_⟩
      rw [show (keyed AU O).length=cs.length by rw [<- S];unfold keyed t7;rw [iI,iI]]
      rw?
      refine cJ 0#K 0#K
      ·rw [if_pos (by rw [c1,jN (by have:=kO c;simp?)];rfl)] at k
       rw?
       exact k G M
      ·exact SW _ _ ⟨rfl,M,hs,λ_=>⟨by rw [L];rfl,by have:=jF (gH.mpr c);simp?⟩⟩
   ·exact SW _ _ ⟨rfl,M,hs,λz=>absurd z c1⟩
def iC.tups (h:iC H o dl cs mk en) (s:ao (qP o dl H) H'):∀b xs,H b=some 0#Z->H' b=some 0#Z:=λb xs e=>by
 obtain ⟨h1,⟨ks,h4,_⟩,_⟩:=h
 refine s _ _ (by rw [iR];exact e;all_goals (rintro rfl;first | (rw [h1] at e;cases e) | (rw [h4] at e;cases e)))
def iC.store {cs':List Cv} (h:iC H o dl cs mk en) (e:t7 (vG (·.2)) ks=cs') (hks:∀x∈ks,Sz 160 x.1/\∀y,x.2=some y->c8 H y.1 y.2 160) (hf:qv cs') :
 ao (qP o dl H) (upd H dl (.dK (keyed AU ks)))/\iC (upd H dl (.dK (keyed AU ks))) o dl cs' mk en:=by
 have A:ao (qP o dl H) (upd H dl (.dK (keyed AU ks))):=λb u e=>zX _ _ (Ly (p:=o) (L:=dl) (.inr rfl) _ _ e)
 have D:=h.tups A
 refine ⟨A,by rw [aF (jx h.ne)];exact h.1,⟨ks,au,e,λx v=>⟨(hks x v).1,λz B=>?_⟩⟩,hf⟩
 obtain ⟨t,b,a,r⟩:=(hks x v).2 z B
 exact ⟨t,b,D _ _ a,r⟩
def iC.set (h:iC H o dl cs mk en) (mk':0#m) (IY:Bool):ao (qP o dl H) (upd H o (.dK (sJ dl mk' IY)))/\iC (upd H o (.dK (sJ dl mk' IY))) o dl cs mk' IY:=by
 have v:ao (qP o dl H) (upd H o (.dK (sJ dl mk' IY))):=λb u e=>zX _ _ (Ly (p:=o) (L:=dl) (.inl rfl) _ _ e)
 exact ⟨v,au,h.2.1.by (λu e=>by rw [aF h.ne];exact e) (h.tups v),h.2.2⟩
def isV (w:Dw):Bool:=C9 w||match w with
 | .fit=>true
 | .KJ=>true
 | _=>false
noncomputable def vlD (w:Dw) (t b:Int):Rat:=if C9 w=true then (t:Rat)/(b:Rat) else (t:Rat)/((1:Int):Rat)
inductive Mh (vs:List V) (H:Hp) (Q:VK) (E_:XK):Prop where
 | mk (e:ah) (w:Dw) (m t b:Int):vs=[.ref e]->Ej H e w m t b->isV w=true->(C9 w=true->b≠0)->(∀(v:ah) (H':Hp),ao H H'->c8 H' v (vlD w t b) 160->Q (.ref v) H')->Mh vs H Q E_
inductive LP (vs:List V) (H:Hp) (Q:VK) (E_:XK):Prop where
 | mk (o dl e:ah) (cs:List Cv) (mk:0#m) (en:Bool) (w:Dw) (m t b:Int):vs=[.ref o,.ref e]->iC H o dl cs mk en->Ej H e w m t b->(C9 w=true->b≠0)->(Qa w=true->(cI cs m).isSome=true)->qv (Ss cs w m t b)->(∀H',ao (qP o dl H) H'->iC H' o dl (Ss cs w m t b) (apM mk w m) (apE en w)->Q .bM H')->LP vs H Q E_
def kD:dR 1 [aP,"_law_what",eK,dD,cZ] u9:=0#t
abbrev aeB P w K mg base:=Dn P w K mg base 1 "_law_ratio" [dD,cZ] L7
def K1 (F:fU K "_law_value" u9 f fd) (dZ:aeB P w K mg base):0#b 2 f fd [aP] Mh:=by
 refine F.fq kD 0#a
 obtain ⟨e,w,m,t,b,rfl,⟨O,zm,L,I⟩,R,J,k⟩:=h
 have S:O1 (.str (Mw w)) [V.str "fit",.str "match"]=!C9 w:=by cases w <;> first | decide +kernel | cases R
 unfold vlD at k
 apply bI ⟨_,(aq (Jd.qy 0#A (Jd.QM K (n:=4) rfl (iE (cG (i:=1) kD.nd rfl 0#D) (iE (cG (i:=2) kD.nd rfl 0#D) (iE (cG (i:=3) kD.nd rfl 0#D) (iE (cG (i:=4) kD.nd rfl 0#D) rj)))))) (aq (bK (bx (EY K) 0#H (b9 (bN bG bG)) rfl) (aA (aW (cg dZ hr 0#X aH))) bL) (aq (bK (bx oZ (aa 4) aH 1#a) (aA (aW (cg dZ hr (iu eG 0#X) (iu eG (aa 4))))) bL) (aA (aW (cg dZ hr 0#X (aa 4))))))),?_⟩
 apply Cq ?_
 apply oH O ?_
 refine aG (mk:=.tup) 0#w λy H1 s1 n1 e1=>?_
 refine ⟨y,_,rfl,.inr (qR.of e1),rfl,rfl,?_⟩
 rw [S]
 cases hp:C9 w with
 | false=>
   rw [hp,if_neg 0#w] at k
   refine ⟨true,rfl,?_⟩
   apply cD ?_
   refine ⟨t,1,rfl,by decide,by decide,λv N M u s2 B G=>?_⟩
   exact k v u 1#h (xP B G 0#y L 0#y)
 | true=>
   rw [hp,if_pos rfl] at k
   have J:=J hp
   refine ⟨false,rfl,?_⟩
   apply bO ?_
   refine cJ 0#K 0#K
   ·have c:=kO c
    rw?
    refine ⟨-t,-b,rfl,by simp?,(I.neg).mono 0#y,λv N M u s2 B G=>?_⟩
    have:=xP (n:=160) B G 0#z L.neg I.neg
    rw [show ((-t:Int):Rat)/((-b:Int):Rat)=(t:Rat)/(b:Rat) by rw [OM,OM];grind] at this
    exact k v u 1#h this
   ·have c:=jF (gH.mpr c)
    rw?
    refine ⟨t,b,rfl,by simp?,I.mono 0#y,λv N M u s2 B G=>?_⟩
    exact k v u 1#h (xP B G J L I)
def kB:dR 2 [bV,aP,"_law_what",eK,dD,cZ] uZ:=0#t
def KY (F:fU K "_law_apply" uZ f fd) (uy:0#c 2 "_law_value" [aP] Mh):0#b 3 f fd [bV,aP] LP:=by
 refine F.fq kB 0#a
 obtain ⟨o,dl,e,cs,mk,en,w,m,t,b,rfl,ho,hd,hb,hs,hf,k⟩:=h
 have Y:=hr.units
 obtain ⟨he,zm,zt,zb⟩:=hd
 have q1:O1 (.str (Mw w)) [V.str "put",.str "fit",.str "mend",.str "match"]=isV w:=by cases w <;> decide +kernel
 obtain ⟨ks,ac,L,I⟩:=ho.2.1
 have hg:cI cs m=(cI ks m).map (vG (·.2)):=by rw [<- L,get_map]
 have hl:(keyed AU ks).length<sizeLine:=bg (by have:=ho.2.2.len;rw [<- L] at this;unfold keyed t7 at *;rw [iI] at *;simp?)
 apply bI ⟨_,(aq (Jd.qy 0#H (Jd.QM K (n:=4) rfl (iE (cG (i:=2) kB.nd rfl 0#D) (iE (cG (i:=3) kB.nd rfl 0#D) (iE (cG (i:=4) kB.nd rfl 0#D) (iE (cG (i:=5) kB.nd rfl 0#D) rj)))))) (aq (bK (bx (EY K) 0#P (b9 (Jd.a4 bG bG bG bG)) rfl) (aA (Jd.om Y (kP Y 0#A bG 0#B) 0#X (Jd.c1 uy hr 0#H))) bL) (aq (bK (bx cN 0#P bG 1#a) (aA (Jd.om Y (kP Y 0#A bG 0#B) 0#X eF)) bL) (aq (bK (bx cN 0#P bG 1#a) (aA (dB (Jd.ahV (kP Y 0#A bG 0#B) 0#X) (hs:=cU))) bL) (aq (bK (bx cN 0#P bG 1#a) (aA (Jd.om Y 0#A bG 0#X)) bL) (aA (bK (bx cN 0#P bG 1#a) (aA (Jd.om Y 0#A bG j0)) bL))))))),?_⟩
 apply Cq ?_
 apply oH he ?_
 refine aG (mk:=.tup) 0#w λy H1 s1 n1 e1=>?_
 refine ⟨y,_,rfl,.inr (qR.of e1),rfl,rfl,?_⟩
 rw [q1]
 refine ⟨isV w,rfl,?_⟩
 have U:=ho.up s1
 have Z:=s1 _ _ ac
 have on:∀{G:Hp},ao (qP o dl H1) G->ao (qP o dl H) G:=λN b u e=>N _ _ (Lx s1 _ _ e)
 refine cJ (λO=>?_) (λO=>?_)
 ·rw?
  refine ⟨e,w,m,t,b,rfl,⟨s1 _ _ he,zm,zt,zb⟩,O,hb,λv H2 s2 fv=>?_⟩
  have fV:=s1.trans s2
  rw?
  apply ⟨o,_,rfl,(ho.up fV).gAt,?_⟩
  refine ⟨dl,_,rfl,CS.k (k:=Sum.inl m) (fV _ _ ac) hl,?_⟩
  rw [show V.ref v=AU (some (v,vlD w t b)) from rfl,rJ]
  obtain ⟨N,R⟩:=(ho.up fV).store (ks:=i6 ks m (some (v,vlD w t b))) (cs':=Ss cs w m t b) (by rw [<- zO,L];cases w <;> first | rfl | cases O) (λx J=>by
   rcases pV J with rfl | J
   ·exact ⟨zm,λy S=>by cases S;exact fv⟩
   ·exact ⟨(I x J).1,λy S=>((I x J).2 y S).up fV⟩) hf
  have lZ:ao (qP o dl H) _:=λb u e=>N _ _ (Lx fV _ _ e)
  have z1:apM mk w m=mk:=by cases w <;> first | rfl | cases O
  have z2:apE en w=en:=by cases w <;> first | rfl | cases O
  have k3:=k _ lZ (by rw [z1,z2];exact R)
  iterate 4
   rw?
   refine cj (c:=false) (by cases w <;> first | decide +kernel | cases O) ?_
   refine 0#M
   refine bO ?_
  exact k3
 rw?
 cases w with
 | put=>exact absurd rfl O
 | fit=>exact absurd rfl O
 | KH=>exact absurd rfl O
 | KJ=>exact absurd rfl O
 | gap=>
   refine cj (c:=true) 0#x ?_
   refine 0#M
   apply cD ?_
   apply ⟨o,_,rfl,U.gAt,?_⟩
   refine ⟨dl,_,rfl,CS.k (k:=Sum.inl m) Z hl,?_⟩
   rw [show V.bM=AU none from rfl,rJ]
   obtain ⟨N,R⟩:=U.store (ks:=i6 ks m none) (cs':=Ss cs .gap m t b) (by rw [<- zO,L];rfl) (λx J=>by
    rcases pV J with rfl | J
    ·exact ⟨zm,λy S=>by cases S⟩
    ·exact ⟨(I x J).1,λy S=>((I x J).2 y S).up s1⟩) hf
   have k3:=k _ (on N) R
   rw?
   refine cj (c:=false) 0#x ?_
   refine 0#M
   apply bO ?_
   refine cj (c:=false) 0#x ?_
   refine 0#M
   apply bO ?_
   refine cj (c:=false) 0#x ?_
   refine 0#M
   apply bO ?_
   exact k3
 | qM=>
   refine cj (c:=false) 0#x ?_
   refine 0#M
   apply bO ?_
   refine cj (c:=true) 0#x ?_
   refine 0#M
   apply cD ?_
   refine ⟨o,_,rfl,U.gAt,?_⟩
   apply ⟨dl,rfl,.inl ⟨_,.inl Z⟩,?_⟩
   obtain ⟨z,hz⟩:∃z,cI ks m=some z:=by
    have:=hs rfl
    rw [hg,CC] at this
    exact Om.mp this
   refine ⟨_,Sum.inl m,AU z,Z,rfl,by rw [gZ,hz];rfl,?_⟩
   rw [ED]
   obtain ⟨N,R⟩:=U.store (ks:=uF ks m) (cs':=Ss cs .qM m t b) (by rw [<- MW,L];rfl) (λx J=>⟨(I x (wW.mp J).1).1,λy S=>((I x (wW.mp J).1).2 y S).up s1⟩) hf
   have k3:=k _ (on N) R
   rw?
   refine cj (c:=false) 0#x ?_
   refine 0#M
   apply bO ?_
   refine cj (c:=false) 0#x ?_
   refine 0#M
   apply bO ?_
   exact k3
 | settle=>
   refine cj (c:=false) 0#x ?_
   refine 0#M
   apply bO ?_
   refine cj (c:=false) 0#x ?_
   refine 0#M
   apply bO ?_
   refine cj (c:=true) 0#x ?_
   refine 0#M
   apply cD ?_
   refine ⟨o,_,rfl,CS.k (k:=Sum.inr ("until":Str)) U.1 (show 3<sizeLine by decide),?_⟩
   rw [show V.int m=Jo (some m) from rfl,abn]
   obtain ⟨N,R⟩:=U.set (some m) en
   have k3:=k _ (on N) R
   rw?
   refine cj (c:=false) 0#x ?_
   refine 0#M
   apply bO ?_
   exact k3
 | close=>
   refine cj (c:=false) 0#x ?_
   refine 0#M
   apply bO ?_
   refine cj (c:=false) 0#x ?_
   refine 0#M
   apply bO ?_
   refine cj (c:=false) 0#x ?_
   refine 0#M
   apply bO ?_
   refine cj (c:=true) 0#x ?_
   refine 0#M
   apply cD ?_
   refine ⟨o,_,rfl,CS.k (k:=Sum.inr ("ended":Str)) U.1 (show 3<sizeLine by decide),?_⟩
   rw [abm]
   obtain ⟨N,R⟩:=U.set mk true
   exact k _ (on N) R
def vV:∀{xs:0#n} {k:Nat},k<xs.length->∃v,v∈xs/\uD xs (k:Int)=some v:=λ{xs k} h=>⟨xs[k],Ut h,iS (jE h)⟩
inductive L8 (vs:List V) (H:Hp) (Q:VK) (E_:XK):Prop where
 | mk (o dl:ah) (cs:List Cv) (mk:0#m) (en:Bool):vs=[.ref o]->iC H o dl cs mk en->(∀(R:ah) (es:0#h) (H':Hp),ao H H'->H R=none->H' R=some 0#R->Row H' es 160->B8 cs (es.map (·.2))->Q (.ref R) H')->L8 vs H Q E_
inductive LU (K:bU) (vs:List V) (H:Hp) (Q:VK) (E_:XK):Prop where
 | mk (a:ah) (ns:List Int) (i sc:Int):vs=[.ref a,.int i,.int sc]->bS K H a 1#i->0<=i->i<900->Sz 62 sc->(∀(e:ah) (w:Dw) (m t b:Int) (H':Hp),ao H H'->H' e=some (.tup [.str (Mw w),.int m,.int t,.int b])->-3<=m->m<=8->Sz 70 t->Sz 41 b->Q (.ref e) H')->LU K vs H Q E_
def N9:dR 1 [bV] ym:=0#t
def NS (F:fU K "_law_rows" ym f fd) (T:Txt mg):0#b 1 f fd [bV] L8:=by
 refine F.fq N9 0#a
 obtain ⟨o,dl,cs,mk,en,rfl,U,k⟩:=h
 have eU:=hr.units
 obtain ⟨ks,hd,L,ad⟩:=U.2.1
 have hf:=U.2.2
 apply bI ⟨_,(aA (aW (pR (O:=[eK]) (N':=[bV]) (cap:=[0]) rfl (gQ K (eE (YF rfl) rfl T.TR acs (cP (kP eU 0#A bG 0#B)) (he:=An) (hpl:=bZ))) (λ_ _ _ _ _=>(cG (i:=0) (show mL [("_law_moment":Str),("_law_own":Str)] by decide +kernel) rfl 0#D)) (λ_ _ _ _ _=>oX) (λ_ _ _ _ _=>(b9 (eV 0#A (eV (kP eU (kP eU 0#H bG 0#B) 0#A 0#B) gT An) bH))) rfl ⟨0#T,trivial⟩ rfl 0#x rfl 0#x))),?_⟩
 apply lJ ?_
 apply ⟨o,_,rfl,U.gAt,?_⟩
 have J:(keyed AU ks).map (·.1)=(cs.map (·.1)).map Sum.inl:=by rw [<- L];unfold keyed t7;rw [Az,Az,Az];rfl
 refine TF hd J (by rw [iI];have:=hf.len;simp?) λS M H1 s1 nS eS Z W8=>?_
 refine ⟨S,rfl,⟨_,bS.of eS⟩,?_⟩
 refine d8 (xs:=M.map V.int) dm (λH3 s3=>bS.of (s3 _ _ eS)) (by rw [iI,Z.length_eq,iI];have:=hf.len;simp?) (λi ys G=>∃es:List En,ys=vals es/\Row G es 160/\es.map (·.2)=(M.take i).map (λm=>(m,(cI cs m).getD none))) ⟨[],rfl,λx v=>absurd v 0#w,rfl⟩ ?_ ?_
 ·rintro D i x ys H3 nQ N N0 h0 hD eD s3 v hy ⟨es,rfl,I,u⟩ kY kN
  rw [gF] at v
  cases hm:M[i]? with
  | none=>rw [hm] at v;cases v
  | some m=>
    rw [hm] at v
    cases v
    have tk:M.take (i+1)=M.take i++[m]:=by rw [yI,hm];rfl
    have ac:m∈cs.map (·.1):=Z.mem_iff.mp (g8 hm)
    have R:cI cs m=(cI ks m).map (vG (·.2)):=by rw [<- L,get_map]
    cases hz:cI ks m with
    | none=>rw [hz] at R;exact absurd ac (get_none.mp R)
    | some z=>
      rw [hz] at R
      have JC:=s1.trans s3
      apply jB h0 ?_
      apply cD ?_
      apply ⟨o,_,rfl,(U.up JC).gAt,?_⟩
      apply ⟨dl,AU z,rfl,(by have:=kJ.k (k:=Sum.inl m) (JC _ _ hd);rw [gZ,hz] at this;exact this),?_⟩
      refine aG (mk:=.tup) 0#w λe H4 Y n4 e4=>?_
      have v:=ad _ (get_mem hz)
      have fe:=SK (H:=H3) v.1 (λy hy=>(v.2 y hy).up JC) Y e4
      refine kY _ H4 Y ⟨es++[(e,m,z.map (·.2))],gr es (e,m,z.map (·.2)),(I.up (rK Y)).snoc (fe.rm (Y _ _ eD)),?_⟩
      rw [tk,jM,jM,u,uh,uh,R]
      rfl
 rintro O ys H6 hO eO s6 hy ⟨es,rfl,I,u⟩
 rw [iI,qN] at u
 exact k O es H6 (s1.trans s6) (s1.free hO) eO (I.up jt) (by rw [u];exact TQ hf.nd Z W8)
def j4:dR 3 [cy,dY,"_law_scale",fH,"_law_deeds",cZ] yi:=0#t
abbrev abV P w K mg base:=Dn P w K mg base 3 "_law_row" [cy,dY,"_law_sizes"] (YK K)
def NP (F:fU K "_law_deed" yi f fd) (oA:abV P w K mg base):0#b 4 f fd [cy,dY,"_law_scale"] (LU K):=by
 refine F.fq j4 0#a
 obtain ⟨a,ns,i,sc,rfl,hS,hi,N,zs,k⟩:=h
 apply bI ⟨_,(aq (aV 3 j4.nd (Jd.c3 oA hr 0#A 0#H (fM (Jd.a4 aH aH aH aH)))) (aq (aV 4 j4.nd (fM (eV bG (eV bG (eV bG (eV bG (Jd.a4 bG bG bG bG) pG) pG) pG) pG))) (aq (aV 4 j4.nd (aX Bq (aa 4) (fM (eV bG (Jd.a4 bG bG bG bG) pG)))) (aq (aV 4 j4.nd (aX Bq (aa 4) (fM (Jd.a3 bG bG bG)))) (aq (aV 5 j4.nd (cY (lX K) (fM (eV aH (eV aH (eV (iu eG aH) (eV aH (eV aH (Jd.a4 aH (iu eG aH) (aX FI aH aH) aH) pG) pG) akH) pG) pG)) (Jd.iL K 0#X) 0#B)) (aA (aW (b9 (Jd.a4 (cY (lX K) (aa 4) (Jd.iL K 0#X) 0#B) (aX dF (Jd.iL K 0#X) aH) (aX bE (aX dF (Jd.iL K 0#X) aH) 0#P) (aa 5)))))))))),?_⟩
 apply aG (mk:=.lst) 0#w λl1 H1 Y n1 e1=>?_
 refine ⟨a,ns,i,l1,[16,12,25,9],rfl,Y.seq hS,hi,N,e1,by decide,by decide,λlw xs H2 s2 n2 e2 v D=>?_⟩
 obtain ⟨I,g0,a0,b0⟩:=jQ v D 0 (z:=16) rfl
 obtain ⟨x1,g1,a1,b1⟩:=jQ v D 1 (z:=12) rfl
 obtain ⟨R,g2,a2,b2⟩:=jQ v D 2 (z:=25) rfl
 obtain ⟨J,g3,a3,b3⟩:=jQ v D 3 (z:=9) rfl
 rw?
 apply aG (mk:=.lst) 0#w λl3 H3 s3 n3 e3=>?_
 apply aG (mk:=.lst) 0#w λl4 H4 Z n4 e4=>?_
 refine Jy (Z _ _ e3) e4 ?_
 apply aG (mk:=.lst) 0#w λl5 H5 s5 n5 e5=>?_
 apply aG (mk:=.lst) 0#w λl6 H6 s6 n6 e6=>?_
 refine Jy (s6 _ _ e5) e6 ?_
 refine aG (mk:=.lst) 0#w λl7 H7 s7 n7 e7=>?_
 have G:=s3.trans (Z.trans (s5.trans (s6.trans s7)))
 rw?
 refine aG (mk:=.lst) 0#w λl8 H8 O n8 e8=>?_
 have M:=O _ _ (G _ _ e2)
 rw?
 refine ie M (eW g3 0#z) ?_
 obtain ⟨b,S,eb⟩:=vV (xs:=[V.int 1,.int 2,.int (-3),.int 1,.int 0,.int 6,.int (-1),.int (10 ^ G8 12),.int 4]) (k:=J.toNat) (by show J.toNat<9;simp?)
 obtain ⟨b,rfl,zb⟩:∃z:Int,b=.int z/\Sz 41 z:=by
  simp only [kM,CF,CN] at S
  rcases S with rfl | rfl | rfl | rfl | rfl | rfl | rfl | rfl | rfl <;> exact ⟨_,rfl,by decide +kernel⟩
 apply ie e8 (show uD _ J=_ by rw [show J=((J.toNat:Nat):Int) by simp?];exact eb) ?_
 refine ie M (eW g0 0#z) ?_
 obtain ⟨u,U,eu⟩:=vV (xs:=[V.str "put",.str "put",.str "put",.str "put",.str "fit",.str "fit",.str "gap",.str "gap"]++[V.str "mend",.str "mend",.str "match",.str "strike",.str "strike"]++[V.str "settle",.str "settle",.str "close"]) (k:=I.toNat) (by show I.toNat<16;simp?)
 obtain ⟨w,rfl⟩:∃w:Dw,u=.str (Mw w):=by
  simp only [i8,kM,CF,CN] at U
  rcases U with (((rfl | rfl | rfl | rfl | rfl | rfl | rfl | rfl) | rfl | rfl | rfl | rfl | rfl) | rfl | rfl | rfl)
  all_goals first | exact ⟨.put,rfl⟩ | exact ⟨.fit,rfl⟩ | exact ⟨.gap,rfl⟩ | exact ⟨.KH,rfl⟩ | exact ⟨.KJ,rfl⟩ | exact ⟨.qM,rfl⟩ | exact ⟨.settle,rfl⟩ | exact ⟨.close,rfl⟩
 apply ie (O _ _ e7) (show uD _ I=_ by rw [show I=((I.toNat:Nat):Int) by simp?];exact eu) ?_
 apply ie M (eW g1 0#z) ?_
 apply ie M (eW g2 0#z) ?_
 have L:Sz 8 (R-12):=show (R-12).natAbs<2 ^ 8 by simp?
 apply jP (dG L zs) ?_
 refine aG (mk:=.tup) 0#w λe H9 s9 n9 e9=>?_
 exact k e w (x1-3) ((R-12)*sc) b H9 (Y.trans (s2.trans (G.trans (O.trans s9)))) e9 0#z 0#z (L.mul zs) zb
inductive GC (C:ah) (vs:List V) (H:Hp) (Q:VK) (E_:XK):Prop where
 | mk (p d o dl:ah) (wy:Wy) (β:Rat) (cs:List Cv) (mk:0#m) (en:Bool) (tn:Int):vs=[.ref p,.ref o,.int tn]->0#j en->iC H o dl cs mk en->0<=tn->(∀H',ao H H'->Q (.bl true) H')->GC C vs H Q E_
noncomputable def Wc (p d o dl:ah) (H:Hp):Hp:=qP p d (qP o dl H)
inductive RL (C:ah) (vs:List V) (H:Hp) (Q:VK) (E_:XK):Prop where
 | mk (p d o dl e:ah) (wy:Wy) (β:Rat) (cs:List Cv) (mk:0#m) (en:Bool) (w:Dw) (m t b:Int):vs=[.ref p,.ref o,.ref e]->0#j en->iC H o dl cs mk en->d≠dl->Ej H e w m t b->(N8 cs mk en w m b=none->qv (Ss cs w m t b))->(∀e,N8 cs mk en w m b=some e->∀H',ao H H'->Q (.bl true) H')->(N8 cs mk en w m b=none->∀H',ao (Wc p d o dl H) H'->fm C H' p d wy β (Ss cs w m t b) (apM mk w m) (apE en w)->iC H' o dl (Ss cs w m t b) (apM mk w m) (apE en w)->Q (.bl true) H')->RL C vs H Q E_
def ahJ (q:Q (.bl false) H):Ye (Jo mk) (Jo mk) H Q:=by
 cases mk with
 | none=>exact ⟨.none,.none,.bM,.bM,rfl,rfl,q⟩
 | some i=>
   refine ⟨.int i,.int i,.int i,.int i,rfl,rfl,?_⟩
   have:tY (.int i) (.int i)=true:=by simp [tY]
   rw [this]
   exact q
def agY (q:Q (.bl false) H):Ye (.bl b) (.bl b) H Q:=by
 refine ⟨.bool b,.bool b,.bl b,.bl b,rfl,rfl,?_⟩
 have:tY (.bool b) (.bool b)=true:=by cases b <;> rfl
 rw [this]
 exact q
def ahO (ey:H y=some (.tup [.str "no",.ref l])) (el:H l=some (.lst [.str (HC r)])) (ey':H y'=some (.tup [.str "no",.ref l'])) (el':H l'=some (.lst [erV (some r)])) (q:Q (.bl true) H):abw (.ref y) (.ref y') H Q:=by
 refine ⟨.tuple [.str "no",.list [.str (HC r)]],.tuple [.str "no",.list [.str (HC r)]],.tup ey (.cons (.str _) (.cons (.lst el (.cons (.str _) .nil)) .nil)),.tup ey' (.cons (.str _) (.cons (.lst el' (.cons (.str _) .nil)) .nil)),by cases r <;> decide +kernel,by cases r <;> decide +kernel,?_⟩
 rw [show tY (.tuple [.str "no",.list [.str (HC r)]]) (.tuple [.str "no",.list [.str (HC r)]])=true by cases r <;> decide +kernel]
 exact q
def agL (ey:H y=some (.tup [.str "yes",.bM])) (ey':H y'=some (.tup [.str "yes",.bM])) (q:Q (.bl true) H):abw (.ref y) (.ref y') H Q:=by
 refine ⟨.tuple [.str "yes",.none],.tuple [.str "yes",.none],.tup ey (.cons (.str _) (.cons .bM .nil)),.tup ey' (.cons (.str _) (.cons .bM .nil)),by decide +kernel,by decide +kernel,?_⟩
 rw [show tY (.tuple [.str "yes",.none]) (.tuple [.str "yes",.none])=true by decide +kernel]
 exact q
def abC (h:N8 cs mk en w m b=none):(C9 w=true->b≠0)/\(Qa w=true->(cI cs m).isSome=true):=by
 cases w <;> simp [N8,wR,nh,o5,C9,Qa] at h ⊢ <;> grind
def Y0 (hk:0#j en) (ho:iC H o dl cs' mk' IY):o≠p/\o≠d/\dl≠p:=by
 obtain ⟨dx,pb,z,_,_,⟨B,A,_⟩,_⟩:=hk
 obtain ⟨u,⟨ks',v,_⟩,_⟩:=ho
 refine ⟨λe=>?_,λe=>?_,λe=>?_⟩
 ·rw [e,z] at u;cases u
 ·rw [e,A] at u
  have u:=HO.dK.inj (uf u)
  cases B <;> simp [sJ,keyed] at u
 ·rw [e,z] at v;cases v
def iC.frame (ho:iC H o dl cs' mk' IY) (hk:0#j en) (ne:d≠dl) (s:ao (qP p d H) H'):iC H' o dl cs' mk' IY:=by
 obtain ⟨v,z,A⟩:=Y0 hk ho
 exact ⟨s _ _ (by rw [iR v z];exact ho.1),ho.2.1.by (λu e=>s _ _ (by rw [iR A (jx ne)];exact e)) (hk.tups s),ho.2.2⟩
def fm.frame (hk:0#j en) (ho:iC H o dl cs' mk' IY) (ne:d≠dl) (s:ao (qP o dl H) H'):fm C H' p d wy β cs mk en:=by
 obtain ⟨G,I,J⟩:=Y0 hk ho
 have v:=ho.tups s
 obtain ⟨z,L,A,⟨t,b,a,r⟩,B,D,E⟩:=hk
 exact ⟨z,L,s _ _ (by rw [iR (jx G) (jx J)];exact A),⟨t,b,v _ _ a,r⟩,B,D.by (λu e=>s _ _ (by rw [iR (jx I) ne];exact e)) v,E⟩
def Lz (e:Wc p d o dl H b=some u):b≠p/\b≠d/\b≠o/\b≠dl/\H b=some u:=by
 unfold Wc qP rm at e
 repeat' split at e
 all_goals first | cases e | exact ⟨by assumption,by assumption,by assumption,by assumption,e⟩
def iQ:dR 3 [bX,bV,"_law_turn","_law_k","_law_ask","_law_found"] sY:=0#t
def Io (F:fU K "_law_looked" sY f fd) (T:Txt mg) (av:cu K mg af) (fD:Dm P w K mg base 1 af "row" [aB] (GK af)) (lg:Dm P w K mg base 1 af "settled" [aB] (RE af)) (mS:Dm P w K mg base 1 af "closed" [aB] (LW af)) (xE:0#c 1 "_law_rows" [bV] L8):0#b 2 f fd [bX,bV,"_law_turn"] (GC af):=by
 refine F.fq iQ 0#a
 obtain ⟨p,d,o,dl,wy,β,cs,mk,en,N,rfl,hk,ho,ht,k⟩:=h
 have J:=hr.units
 obtain ⟨dx,pb,hp,_⟩:=id hk
 apply bI ⟨_,(aq (iV j9 rfl (E1 rfl T.range (cP aH)) (cG (i:=3) iQ.nd rfl 0#D) (aq (aV 4 iQ.nd (aX kq (aX dN 0#X 0#P) aH)) (aq (bK (bx cN (aa 4) aH 1#a) (aq (aV 5 iQ.nd (rq fD av.cl 0#G 0#A)) (aq (bK (iW (Jd.zP (Jd.sN (gw (eE (aaX K) rfl T.dz B0 (bN (aa 5) (Jd.Jv rfl T.Td Ua)) (he:=bH) (hpl:=(cO bH bZ))))) (Jd.sO (bx (K5 J) (aa 5) (Jd.c1 xE hr 0#H) 1#a)))) (aA (aW j0)) bL) (aA (dB (d9 K (aa 5) (b9 (bN aH eF))) (hs:=cU))))) bL) (aq (bK (bx cN (aa 4) aH 1#a) (aq (aV 5 iQ.nd (rq lg av.cl 0#G 0#A)) (aA (bK (iW (Jd.zP (gw (eE (aaX K) rfl T.dz B0 (bN (aa 5) (Jd.Jv rfl T.abZ acG)) (he:=bH) (hpl:=(cO bH bZ)))) (Jd.sO (bx (K5 J) (aa 5) (kP J 0#H bG 0#B) 1#a)))) (aA (aW j0)) bL))) bL) (aA (bK (bx cN (aa 4) aH 1#a) (aq (aV 5 iQ.nd (rq mS av.cl 0#G 0#A)) (aA (bK (iW (Jd.zP (Jd.sN (gw (eE (aaX K) rfl T.dz B0 (bN (aa 5) (Jd.Jv rfl T.abZ acG)) (he:=bH) (hpl:=(cO bH bZ))))) (Jd.sO (bx (K5 J) (aa 5) (kP J 0#H bG 0#B) 1#a)))) (aA (aW j0)) bL))) bL)))))) (aA (aW j0))),?_⟩
 apply jy (Bv ?_)
 refine ⟨3,rfl,by decide,by decide,iP (n:=3) (λj σ I=>Xs3 λv3 v4 v5:Option V=>σ=[some (.ref p),some (.ref o),some (.int N),v3,v4,v5]/\ao H I) ?_ ?_ ?_⟩
 ·exact ⟨none,none,none,rfl,ao.refl _⟩
 ·rintro j σ I hj ⟨v3,v4,v5,rfl,u⟩
  refine fP λM Bk RR hM _ _=>?_
  have U:=hk.up u
  have S:=ho.up u
  have v:=u _ _ hp
  rw?
  have hq:(0+(j:Int)+N) % 3=0\/(0+(j:Int)+N) % 3=1\/(0+(j:Int)+N) % 3=2:=by simp?
  generalize (0+(j:Int)+N) % 3=q at hq ⊢
  rcases hq with rfl | rfl | rfl
  ·apply cD ?_
   apply F3 v 0#Y ?_
   apply ⟨p,d,wy,β,cs,mk,en,rfl,U,λR es H4 s4 nR O hR hS=>?_⟩
   apply Tz (.lst O) Xj ?_
   apply bO ?_
   apply ⟨o,dl,cs,mk,en,rfl,S.up s4,λR' es' H5 L nR' Z SW ac=>?_⟩
   apply abD (hR.up L) SW (L _ _ O) Z (hS.uniq ac) ?_
   apply bO ?_
   apply ⟨.inl ⟨rfl,_,bS.of (L _ _ O)⟩,?_⟩
   apply aG (mk:=.tup) 0#w λz H6 s6 n6 e6=>?_
   apply gB (s6 _ _ (L _ _ O)) (by rw [aY];exact bg (by have:=hS.1.length_eq;rw [iI] at this;have:=ho.2.2.len;simp?)) ?_
   apply bO ?_
   refine bO ?_
   exact hM _ _ ⟨_,_,_,rfl,u.trans (bP (s4.trans (L.trans s6)) nR)⟩
  ·apply bO ?_
   apply cD ?_
   apply F3 v 0#Y ?_
   apply ⟨p,d,wy,β,cs,mk,en,rfl,U,?_⟩
   have ty:∃tv,xM K I (Jo mk) tv/\Hi K tv (.type "bool")=some false:=by
    cases mk with
    | none=>exact ⟨_,.bM,by kernel_rfl⟩
    | some i=>exact ⟨_,.int i,afE⟩
   obtain ⟨tv,ty,kt⟩:=ty
   apply Tz ty kt ?_
   apply bO ?_
   refine ⟨o,_,rfl,S.gUn,?_⟩
   apply ahJ ?_
   apply bO ?_
   refine bO ?_
   exact hM _ _ ⟨_,_,_,rfl,u⟩
  ·apply bO ?_
   apply bO ?_
   apply cD ?_
   apply F3 v 0#Y ?_
   apply ⟨p,d,wy,β,cs,mk,en,rfl,U,?_⟩
   apply Tz (.bl en) afD ?_
   apply bO ?_
   refine ⟨o,_,rfl,S.gEn,?_⟩
   apply agY ?_
   refine bO ?_
   exact hM _ _ ⟨_,_,_,rfl,u⟩
 ·rintro σ I ⟨v3,v4,v5,rfl,u⟩
  rw?
  exact k I u
def vn:dR 3 [bX,bV,aP,"_law_due","_law_found"] yq:=0#t
abbrev abW P w K mg base:=Dn P w K mg base 2 "_law_refused" [bV,aP] BW
def NU (F:fU K "_law_step" yq f fd) (T:Txt mg) (iM:abW P w K mg base) (xD:0#c 16 "_law_done" [bX,aP] (Rw af)) (uw:0#c 3 "_law_apply" [bV,aP] LP):0#b 17 f fd [bX,bV,aP] (RL af):=by
 refine F.fq vn 0#a
 obtain ⟨p,d,o,dl,e,wy,β,cs,mk,en,w,m,t,b,rfl,hk,ho,Y,hd,hf,k1,U⟩:=h
 have eU:=hr.units
 apply bI ⟨_,(aq (aV 3 vn.nd (cg iM hr 0#H 0#P)) (aq (aV 4 vn.nd (cg xD hr 0#A 0#P)) (aq (bK (bx jr 0#X eF 1#a) (aA (aW (pS (K4 eU) (aa 4) (b9 (bN bG (fM (cP 0#X)))) 1#a))) bL) (aq (dB (cg uw hr 0#H 0#P) (hs:=cU)) (aq (bK (bx (EY K) (aO K 0#P) (b9 (bN bG bG)) rfl) (aA (aW (Jd.uR (pS cN (aO K (aa 4)) bG 1#a) (Jd.yc (eE (aaX K) rfl T.dz B0 (bN (aO K (aa 4)) (Jd.Jv rfl T.Td Ua)) (he:=An) (hpl:=(cO bH bZ))))))) bL) (aA (aW (pS (K4 eU) (aa 4) (b9 (bN bG eF)) 1#a)))))))),?_⟩
 apply ⟨o,dl,e,cs,mk,en,w,m,t,b,rfl,ho,hd,λH1 G=>?_⟩
 refine ⟨p,d,e,wy,β,cs,mk,en,w,m,t,b,rfl,hk.up G,hd.up G,λr S y l H2 Z ey el=>?_,λc=>⟨hf c,λy v H2 Z ai hv ey=>?_⟩⟩
 ·have k1:=k1 r S
  rw [S]
  rw?
  refine ⟨rfl,true,by simp [erV],?_⟩
  apply cD ?_
  apply aG (mk:=.lst) 0#w λl3 H3 I n3 e3=>?_
  refine aG (mk:=.tup) 0#w λy3 H4 D n4 e4=>?_
  have J:=I.trans D
  refine ahO (J _ _ ey) (J _ _ el) e4 (D _ _ e3) ?_
  exact k1 H4 (G.trans (Z.trans J))
 ·have U:=U c
  rw [c]
  rw?
  refine ⟨rfl,false,by simp [erV],?_⟩
  apply bO ?_
  have O:=hk.up G
  have C7:=ho.up G
  have B:=C7.frame O Y Z
  have N:=O.tups Z _ _ (G _ _ hd.1)
  obtain ⟨r1,r2⟩:=abC c
  refine ⟨o,dl,e,cs,mk,en,w,m,t,b,rfl,B,⟨N,hd.2⟩,r1,r2,hf c,λH3 I Jf=>?_⟩
  have P4:=ai.frame B Y I
  have ag:=B.tups I _ _ N
  have ad:=B.tups I _ _ ey
  have lZ:ao (Wc p d o dl H) H3:=λb u e=>by
   obtain ⟨n1,n2,n3,n4,e⟩:=Lz e
   exact I _ _ (by rw [iR n3 n4];exact Z _ _ (by rw [iR n1 n2];exact G _ _ e))
  have k3:=U H3 lZ P4 Jf
  rw?
  refine aG (mk:=.tup) 0#w λz H4 D n4 e4=>?_
  have he4:=D _ _ ag
  have ae:=D _ _ ad
  have k4:=U H4 (lZ.trans D) (P4.up D) (Jf.up D)
  refine ⟨z,_,rfl,.inr (qR.of e4),rfl,rfl,?_⟩
  rcases hv with ⟨hw,R,xs,rfl,L⟩ | ⟨⟨hw,aj⟩,rfl⟩
  ·have ac:H3 R=some (.lst xs):=I _ _ (by
    rw [iR (by rintro rfl;rw [B.1] at L;cases L) (by rintro rfl;obtain ⟨ks,h,_⟩:=B.2.1;rw [h] at L;cases L)]
    exact L)
   rw [show O1 (.str (Mw w)) [V.str "settle",.str "close"]=true by rcases hw with rfl | rfl <;> decide +kernel]
   refine ⟨true,rfl,?_⟩
   apply cD ?_
   refine cj (c:=true) 0#x ?_
   refine 0#M
   apply cD ?_
   refine Tz (.lst (D _ _ ac)) Xj ?_
   exact k4
  ·rw [show O1 (.str (Mw w)) [V.str "settle",.str "close"]=false by cases w <;> first | decide +kernel | exact absurd rfl hw | exact absurd rfl aj]
   refine ⟨false,rfl,?_⟩
   apply bO ?_
   refine aG (mk:=.tup) 0#w λz5 H5 s5 n5 e5=>?_
   refine agL (s5 _ _ ae) e5 ?_
   exact U H5 (lZ.trans (D.trans s5)) (P4.up (D.trans s5)) (Jf.up (D.trans s5))
inductive Rx (vs:List V) (H:Hp) (Q:VK) (E_:XK):Prop where
 | mk (x:Str) (t:Int):vs=[.str x,.int t]->Sz 140 t->(Xe x=false\/t<0)->(∀(l:ah) (r:Er) (H':Hp),ao H H'->H' l=some (.lst [.str (HC r)])->(Xe x=false->r=.zB)->(Xe x=true->r=.nY)->Q (.ref l) H')->Rx vs H Q E_
inductive LV (vs:List V) (H:Hp) (Q:VK) (E_:XK):Prop where
 | mk (l:ah) (xs:List Int) (x0 x1:Int):vs=[.ref l]->H l=some (.lst (xs.map V.int))->xs[0]?=some x0->xs[1]?=some x1->0<=x0->x0<4->0<=x1->x1<9->(∀H',ao H H'->Q (.bl true) H')->LV vs H Q E_
def DV (el:H l=some (.lst [.str (HC r)])):Den H (.ref l) (.list [.str (HC r)])/\G5 (.list [.str (HC r)])=true/\tY (.list [.str (HC r)]) (.list [.str (HC r)])=true:=⟨.lst el (.cons (.str _) .nil),by cases r <;> decide +kernel,by cases r <;> decide +kernel⟩
def afQ (el:H l=some (.lst [.str (HC r)])) (el':H l'=some (.lst [.str (HC r)])) (q:Q (.bl true) H):abw (.ref l) (.ref l') H Q:=by
 obtain ⟨a,b,c⟩:=DV el
 refine ⟨_,_,a,(DV el').1,b,b,?_⟩
 rw [c]
 exact q
def afR (el:H l=some (.lst [.str (HC r)])) (el':H l'=some (.lst [.str (HC r)])) (q:Q (.bl false) H):Ye (.ref l) (.ref l') H Q:=by
 obtain ⟨a,b,c⟩:=DV el
 refine ⟨_,_,a,(DV el').1,b,b,?_⟩
 rw [c]
 exact q
def vm:dR 2 ["_law_way",dD,bX,"_law_e"] yk:=0#t
def NR (F:fU K "_law_door" yk f fd) (jZ:Xc K mg "LathError" fK) (hE:Wh K 0#I [aU,aN,aK,bA,bR,aQ,ki,bu,aL] fK) (dZ:aeB P w K mg base) (oz:Kg P w K mg base 2 "Keeper" af [aB,eN,aJ] (Ag af bu aL)) (jj:DnN P w K mg base 1 "_law_named" "_law_e" (L4 0#I)):0#b 4 f fd ["_law_way",dD] Rx:=by
 refine F.fq vm 0#a
 obtain ⟨x,t,rfl,zt,ht,k⟩:=h
 apply bI ⟨_,(aq (Jd.vW (j:=3) vm.nd rfl rfl rfl jZ.at_ rfl rfl (λic xe' E' S3=>(aA (nK (i:=2) vm.nd rfl 0#D (Jd.ahU oz S3 0#G rfl (eV 0#A (eV (ko dZ 0#G rfl (eV 0#H (eV aH gT pG) bH) (he:=bH) (hpl:=(cO pG bZ))) gT yF) bH) (he:=bH) (hpl:=(cO yF bZ))) (hs:=cU)))) (λe' ob' B dx' ic qZ qW lH qY=>(aA (aW (Jd.X5 jj hr 0#y qZ qW lH qY rfl 0#X))))) (aA Jd.o4)),?_⟩
 apply ⟨t,2,rfl,by decide,by decide,λv t' b' L s1 ev lo=>?_⟩
 intro z u nz O nzx
 have S:ao L (upd (upd L u (.own z)) z (.ins af u [])):=bP (iG O _) nz
 have Z:upd (upd L u (.own z)) z (.ins af u []) z=some (.ins af u []):=au
 generalize upd (upd L u (.own z)) z (.ins af u [])=H2 at S Z ⊢
 have fv:c8 H2 v ((t:Rat)/((2:Int):Rat)) 150:=(xP ev lo 0#y (zt.mono 0#y) 0#y).up S
 have fV:=s1.trans S
 refine ⟨z,u,v,x,_,rfl,Z,fv,λc=>⟨hE.exm .zB,λe Y J=>?_⟩,λc B=>⟨hE.exm .nY,λe Y J=>?_⟩,λwy e lI=>?_⟩
 ·obtain ⟨x0,x1,x2,x3,rfl⟩:=aa4 J
  rw?
  refine ⟨rfl,.zB,rfl,rfl,λl M U R N=>?_⟩
  exact k l .zB M (fV.trans U) N (λ_=>rfl) (λB=>by rw [c] at B;cases B)
 ·obtain ⟨x0,x1,x2,x3,rfl⟩:=aa4 J
  rw?
  refine ⟨rfl,.nY,rfl,rfl,λl M U R N=>?_⟩
  exact k l .nY M (fV.trans U) N (λB=>by rw [c] at B;cases B) (λ_=>rfl)
 ·exfalso
  rcases ht with c | c
  ·rw [e] at c
   cases wy <;> exact absurd c 0#x
  ·have c:(t:Rat)<((0:Int):Rat):=B3.mpr c
   grind
def iX:dR 1 [fH,"_law_way",dD,"_law_word"] lO:=0#t
def zH (F:fU K "_law_shut_doors" lO f fd) (rW:0#c 4 "_law_door" ["_law_way",dD] Rx):0#b 5 f fd [fH] LV:=by
 refine F.fq iX 0#a
 obtain ⟨l,xs,R,I,rfl,hl,g0,g1,a0,b0,a1,b1,k⟩:=h
 have eU:=hr.units
 apply bI ⟨_,(aq (aV 1 iX.nd (cY (lX K) (fM (Jd.a4 bG bG bG bG)) (Jd.iL K 0#A) 0#B)) (aq (iV j9 rfl (gQ K (fM (bN (aX dN aH (Jd.iL K 0#A)) (aX dF (iu eG aH) (Jd.iL K 0#A))))) (cG (i:=2) iX.nd rfl 0#D) (aA (iV j9 rfl (gQ K (fM (Jd.a4 bG (uJ agu 0#H uK (uL (iu eG aH))) (aX QC 0#H bG) bG))) (cG (i:=3) iX.nd rfl 0#D) (aA (bK (bx (K5 eU) (cg rW hr 0#X 0#P) (fM (cP bG)) 1#a) (aA (aW j0)) bL))))) (aA (aW (pS (K4 eU) (cg rW hr 0#H (aX dF (iu eG aH) (Jd.iL K 0#A))) (fM (cP bG)) 1#a))))),?_⟩
 apply aG (mk:=.lst) 0#w λl1 H1 s1 n1 e1=>?_
 refine ie (s1 _ _ hl) (eW g0 0#z) ?_
 obtain ⟨u,hu,eu⟩:=vV (xs:=[V.str "apart",.str "joined",.str "spans",.str "chain"]) (k:=R.toNat) (by show R.toNat<4;simp?)
 obtain ⟨wy,rfl⟩:∃wy:Wy,u=.str (GW wy):=by
  simp only [kM,CF,CN] at hu
  rcases hu with rfl | rfl | rfl | rfl
  ·exact ⟨.ap,rfl⟩
  ·exact ⟨.jo,rfl⟩
  ·exact ⟨.sp,rfl⟩
  ·exact ⟨.ch,rfl⟩
 apply ie e1 (show uD _ R=_ by rw [show R=((R.toNat:Nat):Int) by simp?];exact eu) ?_
 have w1:=s1 _ _ hl
 apply jy (lJ ?_)
 apply ie w1 (eW g1 0#z) ?_
 apply ie w1 (eW g1 0#z) ?_
 refine aG (mk:=.lst) 0#w λl2 H2 s2 n2 e2=>?_
 have fV:=s1.trans s2
 refine ⟨l2,rfl,⟨_,bS.of e2⟩,gX (xs:=[V.int (1+I),.int (-1-I)]) (λi J S=>Xs2 λY G:Option V=>J=[some (.ref l),some (.str (GW wy)),Y,G]/\ao H2 S) ?_ ?_ ?_ ?_⟩
 ·exact ⟨none,none,rfl,ao.refl _⟩
 ·rintro i J S _ ⟨Y,G,rfl,O⟩
  exact bS.of (O _ _ e2)
 ·rintro i v J S hv ⟨Y,G,rfl,O⟩
  obtain ⟨t,rfl,zt⟩:∃t:Int,v=.int t/\Sz 140 t:=by
   have:=g8 hv
   simp only [kM,CF,CN] at this
   rcases this with rfl | rfl
   ·exact ⟨_,rfl,show (1+I).natAbs<2 ^ 140 from nI (show (1+I).natAbs<16 by simp?) 0#y⟩
   ·exact ⟨_,rfl,show (-1-I).natAbs<2 ^ 140 from nI (show (-1-I).natAbs<16 by simp?) 0#y⟩
  apply fP λM Bk RR hM _ _=>?_
  refine jy (lJ ?_)
  walk_at "vd"
  refine ⟨_,rfl,by cases wy <;> decide +kernel,?_⟩
  walk_at "vd"
  refine ⟨_,_,rfl,rfl,by cases wy <;> decide +kernel,?_⟩
  walk_at "vd"
  refine aG (mk:=.lst) 0#w λl4 H4 s4 n4 e4=>?_
  have Z:∀x∈[("knots":Str),Txt.slice (GW wy) none (some (-1)),GW wy++("s":Str),("":Str)],Xe x=false:=by cases wy <;> decide +kernel
  have af:=O.trans s4
  refine ⟨l4,rfl,⟨_,bS.of e4⟩,gX (xs:=[("knots":Str),Txt.slice (GW wy) none (some (-1)),GW wy++("s":Str),("":Str)].map V.str) (λi J N=>∃G:Option V,J=[some (.ref l),some (.str (GW wy)),some (.int t),G]/\ao H4 N) ?_ ?_ ?_ ?_⟩
  ·exact ⟨_,rfl,ao.refl _⟩
  ·rintro i J N _ ⟨G,rfl,L⟩
   exact bS.of (L _ _ e4)
  ·rintro i v J N hv ⟨G,rfl,L⟩
   obtain ⟨x,U,rfl⟩:=kc.mp (g8 hv)
   have U:=Z x U
   apply fP λM' Bk' RR' ac _ _=>?_
   refine ⟨x,t,rfl,zt,.inl U,λld r H6 s6 el ad _=>?_⟩
   obtain rfl:=ad U
   rw?
   refine aG (mk:=.lst) 0#w λl7 H7 s7 n7 e7=>?_
   apply afR (r:=.zB) (s7 _ _ el) e7 ?_
   refine bO ?_
   exact ac _ _ ⟨_,rfl,L.trans (s6.trans s7)⟩
  ·rintro J N ⟨G,rfl,L⟩
   exact hM _ _ ⟨_,_,rfl,af.trans L⟩
 ·rintro J S ⟨Y,G,rfl,O⟩
  have lZ:=fV.trans O
  rw?
  apply ie (lZ _ _ hl) (eW g1 0#z) ?_
  refine ⟨GW wy,-1-I,rfl,show (-1-I).natAbs<2 ^ 140 from nI (show (-1-I).natAbs<16 by simp?) 0#y,.inr 0#z,λld r H4 s4 el _ ae=>?_⟩
  obtain rfl:=ae (by cases wy <;> decide +kernel)
  rw?
  refine aG (mk:=.lst) 0#w λl5 N L n5 e5=>?_
  refine afQ (r:=.nY) (L _ _ el) e5 ?_
  exact k N (lZ.trans (s4.trans L))
def Win (W:List Int) (cs:List Cv):Prop:=∀x∈cs,x.2.isSome=true->x.1∈W
def XC:∀{l W:List Int},l.Nodup->(∀x∈l,x∈W)->l.length<=W.length
 | [],_,_,_=>jV _
 | x::l,W,nd,h=>by
   obtain ⟨n1,n2⟩:=JO.mp nd
   have hx:=h x (CA ..)
   have:=XC (l:=l) (W:=W.erase x) n2 λy hy=>(List.mem_erase_of_ne (λe:y=x=>n1 (by rw [<- e];exact hy))).mpr (h y (DF _ hy))
   rw [List.length_erase_of_mem hx] at this
   have:=List.length_pos_of_mem hx
   rw [IL]
   simp?
def aay (nd:(cs.map (·.1)).Nodup) (h:Win W cs):(cs.filter (·.2.isSome)).length<=W.length:=by
 have:=XC (l:=(cs.filter (·.2.isSome)).map (·.1)) (W:=W) (nd.sublist (Ui.map _)) λx u=>by
  obtain ⟨y,v,rfl⟩:=kc.mp u
  obtain ⟨a,b⟩:=wW.mp v
  exact h y a b
 rw [iI] at this
 exact this
def WK (hf:qv cs) (hw:Win W cs) (hW:W.length<=30) (hm:m∈W) (c:N8 cs mk en w m b=none):qv (Ss cs w m t b)/\Win W (Ss cs w m t b):=by
 have new:∀{y:Option Rat},(cI cs m=none->cs.length<40)->qv (i6 cs m y)/\Win W (i6 cs m y):=λ{y} h=>by
  have B:Win W (i6 cs m y):=λx v D=>by
   rcases pV v with rfl | v
   ·exact hm
   ·exact hw x v D
  refine ⟨⟨Q5 hf.nd,?_,g9 (aay (Q5 hf.nd) B) hW⟩,B⟩
  rw [Lp]
  split
  ·exact hf.len
  ·rename_i z
   exact h (acm.mp z)
 have u:HZ cs mk m=none->cI cs m=none->cs.length<40:=λh z=>by
  unfold HZ at h
  split at h
  ·cases h
  ·rw [if_neg (by rw [z];simp)] at h
   split at h
   ·cases h
   ·simp?
 have A:∀{h:((cI cs m).getD none).isSome=true},cI cs m=none->cs.length<40:=λ{h} z=>by rw [z] at h;cases h
 cases w with
 | put=>exact new (u (by unfold N8 wR at c;grind))
 | fit=>exact new (u (by unfold N8 wR at c;grind))
 | gap=>exact new (u (by unfold N8 F7 at c;grind))
 | KH=>exact new (A (h:=by unfold N8 nh at c;grind))
 | KJ=>exact new (A (h:=by unfold N8 nh at c;grind))
 | qM=>exact ⟨hf.drop m,λx v=>hw x (wW.mp v).1⟩
 | settle=>exact ⟨hf,hw⟩
 | close=>exact ⟨hf,hw⟩
inductive LQ (C:ah) (vs:List V) (H:Hp) (Q:VK) (E_:XK):Prop where
 | mk (l:ah) (xs:List Int) (x0 x1 x2 x3 x4:Int):vs=[.ref l]->H l=some (.lst (xs.map V.int))->xs[0]?=some x0->xs[1]?=some x1->xs[2]?=some x2->xs[3]?=some x3->xs[4]?=some x4->0<=x0->x0<4->0<=x1->x1<9->0<=x3->x3<5->0<=x4->x4<100->(∀(y p d o dl:ah) (wy:Wy) (β:Rat) (cs:List Cv) (H':Hp),ao H H'->H' y=some (.tup [.ref p,.ref o])->fm C H' p d wy β cs none false->iC H' o dl cs none false->d≠dl->(H p=none/\H d=none/\H o=none/\H dl=none)->(∀x∈cs,x.2=none)->Q (.ref y) H')->LQ C vs H Q E_
def D4 (h1:b≠p) (h2:b≠d) (h3:b≠o) (h4:b≠dl):Wc p d o dl H b=H b:=by unfold Wc;rw [iR h1 h2,iR h3 h4]
def zY:ao (Wc p d o dl H) H:=λ_ _ e=>(Lz e).2.2.2.2
def ju:dR 1 [fH,"_law_way",bX,bV,"_law_k",eK] u5:=0#t
def KZ (F:fU K "_law_begun" u5 f fd) (T:Txt mg) (av:cu K mg af) (dZ:aeB P w K mg base) (oz:Kg P w K mg base 2 "Keeper" af [aB,eN,aJ] (Ag af bu aL)) (iJ:0#r 3 af "gap" [aB,aM] (Od af 0#I) []):0#b 5 f fd [fH] (LQ af):=by
 refine F.fq ju 0#a
 obtain ⟨l,xs,x0,x1,x2,x3,x4,rfl,hl,g0,g1,g2,g3,g4,a0,b0,a1,b1,a3,b3,a4,b4,k⟩:=h
 have eU:=hr.units
 apply bI ⟨_,(aq (aV 1 ju.nd (cY (lX K) (fM (Jd.a4 bG bG bG bG)) (Jd.iL K 0#A) 0#B)) (aq (aV 2 ju.nd (Jd.Tn oz.calm 0#G rfl (bN 0#H (cg dZ hr (Jd.iL K 0#A) aH)) (he:=bH) (hpl:=(cO yF bZ)))) (aq (aV 3 ju.nd (Jd.aeQ bG Jd.zM bG eF bG j0)) (aq (bK (bx cN (Jd.iL K 0#A) aH 1#a) (aA (iV j9 rfl (E1 rfl T.range (cP (aX dN aH (Jd.iL K 0#A)))) (cG (i:=4) ju.nd rfl 0#D) (aq (aV 5 ju.nd (aX dF (Jd.iL K 0#A) (aX bE aH (aX dN aH (aa 4))))) (aq (dB (Jd.wQ iJ.calm av.cl 0#G 0#P (cP (aa 5)) (he:=bH) (hpl:=bZ)) (hs:=cU)) (aA (Jd.om eU (kP eU 0#X bG 0#B) (aa 5) eF)))))) bL) (aA (aW (b9 (bN 0#P 0#X)))))))),?_⟩
 apply aG (mk:=.lst) 0#w λl1 H1 s1 n1 e1=>?_
 refine ie (s1 _ _ hl) (eW g0 0#z) ?_
 obtain ⟨u,hu,eu⟩:=vV (xs:=[V.str "apart",.str "joined",.str "spans",.str "chain"]) (k:=x0.toNat) (by show x0.toNat<4;simp?)
 obtain ⟨wy,rfl⟩:∃wy:Wy,u=.str (GW wy):=by
  simp only [kM,CF,CN] at hu
  rcases hu with rfl | rfl | rfl | rfl
  ·exact ⟨.ap,rfl⟩
  ·exact ⟨.jo,rfl⟩
  ·exact ⟨.sp,rfl⟩
  ·exact ⟨.ch,rfl⟩
 apply ie e1 (show uD _ x0=_ by rw [show x0=((x0.toNat:Nat):Int) by simp?];exact eu) ?_
 apply ie (s1 _ _ hl) (eW g1 0#z) ?_
 refine ⟨x1,2,rfl,by decide,by decide,λv t' b' H2 s2 ev lo=>?_⟩
 have fV:=s1.trans s2
 rw?
 intro p dx np bb npx
 have s3:ao H2 (upd (upd H2 dx (.own p)) p (.ins af dx [])):=bP (iG bb _) np
 have ez:upd (upd H2 dx (.own p)) p (.ins af dx []) p=some (.ins af dx []):=au
 generalize upd (upd H2 dx (.own p)) p (.ins af dx [])=H3 at s3 ez ⊢
 have zx:Sz 150 x1:=show x1.natAbs<2 ^ 150 from nI (show x1.natAbs<16 by simp?) 0#y
 have fv:c8 H3 v ((x1:Rat)/((2:Int):Rat)) 150:=(xP ev lo 0#y zx 0#y).up s3
 have lI:(0:Rat)<=(x1:Rat)/((2:Int):Rat):=by
  have:((0:Int):Rat)<=(x1:Rat):=Ot.mpr a1
  grind
 have hW:Xe (GW wy)=true:=by cases wy <;> decide +kernel
 apply ⟨p,dx,v,GW wy,_,rfl,ez,fv,λc=>(by rw [hW] at c;cases c),λ_ c=>absurd lI (CL.mpr c),λad e _ d H4 s4 nd hk=>⟨rfl,?_⟩⟩
 refine aga λo no=>?_
 apply Yk ?_
 refine Tw λL H5 s5 Z ar=>?_
 apply Yk ?_
 apply Yk ?_
 refine aih ?_
 have as:=s5 _ _ au
 have aR:L≠o:=by rintro rfl;rw [as] at ar;rw [au] at Z;cases Z
 have am:H4 L=none:=by rw [aF aR] at Z;exact Z
 refine ⟨as,sJ L none false,rfl,show 3<=15 by decide,?_⟩
 rw [show xU [] (sJ L none false)=sJ L none false by kernel_rfl]
 have Mz:ao H4 (upd H5 o (.dK (sJ L none false))):=bP (λb u e=>s5 _ _ (by rw [aF (by rintro rfl;rw [no] at e;cases e)];exact e)) no
 have aj:iC (upd H5 o (.dK (sJ L none false))) o L [] none false:=⟨au,⟨[],by rw [aF aR];exact ar,rfl,λx J=>absurd J 0#w⟩,ZP,jV _,jV _⟩
 generalize upd H5 o (.dK (sJ L none false))=H6 at Mz aj ⊢
 have aE:=hk.up Mz
 have lZ:=fV.trans s3
 have ac:=fV.free np
 have ak:=lZ.free nd
 have Hs:ao H H4:=λb u e=>s4 _ _ (by rw [kQ (by rintro rfl;rw [ac] at e;cases e)];exact lZ _ _ e)
 have al:=Hs.free no
 have ae:=Hs.free am
 have ag:d≠L:=by
  rintro rfl
  obtain ⟨_,_,_,_,_,⟨ks,h,_⟩,_⟩:=hk
  rw [am] at h
  cases h
 have Ht:=Hs.trans Mz
 have ai:=Ht _ _ hl
 have aw:∀(cs:List Cv) (O:Hp) (Q':VK),fm af O p d ad ((x1:Rat)/((2:Int):Rat)) cs none false->iC O o L cs none false->ao (Wc p d o L H6) O->(∀x∈cs,x.2=none)->Nw .tup [.ref p,.ref o] O Q:=λcs O _ N R s7 hn=>by
  refine aG (mk:=.tup) 0#w λy H8 s8 n8 e8=>?_
  refine k y p d o L ad _ cs H8 (λb u e=>s8 _ _ (s7 _ _ ?_)) e8 (N.up s8) (R.up s8) ag ⟨ac,ak,al,ae⟩ hn
  have ne:∀z,H z=none->b≠z:=λz hz q=>by rw [q,hz] at e;cases e
  rw [D4 (ne _ ac) (ne _ ak) (ne _ al) (ne _ ae)]
  exact Ht _ _ e
 rw?
 apply ie ai (eW g2 0#z) ?_
 refine cJ 0#K 0#K
 ·apply jy (Bv ?_)
  apply ie ai (eW g3 0#z) ?_
  refine ⟨36+x3,rfl,by simp?,by simp?,iP (n:=(36+x3).toNat) (λj σ O=>Xs3 λ(cs:List Cv) (v4 v5:Option V)=>σ=[some (.ref l),some (.str (GW wy)),some (.ref p),some (.ref o),v4,v5]/\fm af O p d ad ((x1:Rat)/((2:Int):Rat)) cs none false/\iC O o L cs none false/\ao (Wc p d o L H6) O/\cs.length=j/\∀x∈cs,x.2=none/\∃i:Nat,i<j/\x.1=x4-1009*(1+(i:Int))) ?_ ?_ ?_⟩
  ·exact ⟨[],_,_,rfl,aE,aj,zY,rfl,λx J=>absurd J 0#w⟩
  ·rintro j σ O hj ⟨cs,v4,v5,rfl,N,R,s7,ax,S⟩
   refine fP λM Bk RR hM _ _=>?_
   have a8:O l=some (.lst (xs.map V.int)):=s7 _ _ (by
    have ne:∀z,H z=none->l≠z:=λz hz q=>by rw [q,hz] at hl;cases hl
    rw [D4 (ne _ ac) (ne _ ak) (ne _ al) (ne _ ae)]
    exact ai)
   rw?
   apply ie a8 (eW g4 0#z) ?_
   have hm:∀x∈cs,x.1≠x4-1009*(1+(0+(j:Int))):=λx J e=>by
    obtain ⟨_,i,hi,e'⟩:=S x J
    simp?
   have hg:cI cs (x4-1009*(1+(0+(j:Int))))=none:=get_none.mpr λz=>by
    obtain ⟨x,J,e⟩:=kc.mp z
    exact hm x J e
   have zm:Sz 160 (x4-1009*(1+(0+(j:Int)))):=nI (show (x4-1009*(1+(0+(j:Int)))).natAbs<2 ^ 17 by simp?) 0#y
   have aZ:cs.length<40:=by simp?
   generalize hme:x4-1009*(1+(0+(j:Int)))=m at *
   have ba:F7 cs none false m=none:=by
    unfold F7 HZ
    rw [if_neg 0#w,if_neg (by simp [We]),if_neg (by rw [hg];simp),if_neg 0#z]
   have ay:qv (i6 cs m none):=by
    have hn:∀x∈i6 cs m none,x.2.isSome=false:=λx J=>by
     rcases pV J with rfl | J
     ·rfl
     ·rw [(S x J).1];rfl
    refine ⟨Q5 R.2.2.nd,?_,?_⟩
    ·rw [Lp,hg]
     exact aZ
    ·rw [Zl.mpr λx J=>by rw [hn x J];simp]
     exact jV _
   obtain ⟨dx7,pb7,a',_⟩:=id N
   apply F3 a' 0#Y ?_
   refine ⟨p,d,ad,_,cs,none,false,m,rfl,N,zm,λe h=>(by rw [ba] at h;cases h),λ_=>⟨ay,λH8 s8 a6=>?_⟩⟩
   have U:=R.frame N ag s8
   obtain ⟨ks,a5,an,a7⟩:=id U.2.1
   rw?
   apply ⟨o,_,rfl,U.gAt,?_⟩
   refine ⟨L,_,rfl,CS.k (k:=Sum.inl m) a5 (bg (by have:=congrArg CJ an;unfold t7 at this;unfold keyed;rw [iI] at this ⊢;simp?)),?_⟩
   rw [show V.bM=AU none from rfl,rJ]
   obtain ⟨s9,a9⟩:=U.store (ks:=i6 ks m none) (cs':=i6 cs m none) (by rw [<- zO,an];rfl) (λx J=>by
    rcases pV J with rfl | J
    ·exact ⟨zm,λy hy=>by cases hy⟩
    ·exact a7 x J) ay
   refine hM _ _ ⟨i6 cs m none,_,_,rfl,a6.frame U ag s9,a9,λb u e=>?_,by rw [Lp,hg,ax];rfl,λx J=>?_⟩
   ·obtain ⟨q1,q2,q3,q4,_⟩:=Lz e
    exact s9 _ _ (by rw [iR q3 q4];exact s8 _ _ (by rw [iR q1 q2];exact s7 _ _ e))
   ·rcases pV J with rfl | J
    ·exact ⟨rfl,j,by simp?,by show m=_;simp?⟩
    ·obtain ⟨a,i,b,c⟩:=S x J
     exact ⟨a,i,by simp?,c⟩
  ·rintro σ O ⟨cs,v4,v5,rfl,N,R,s7,ax,S⟩
   rw?
   exact aw cs O Q N R s7 λx J=>(S x J).1
 ·rw?
  exact aw [] H6 Q aE aj zY λx J=>absurd J 0#w
inductive Oe (K:bU) (vs:List V) (H:Hp) (Q:VK) (E_:XK):Prop where
 | mk (a:ah) (ns:List Int):vs=[.ref a]->bS K H a 1#i->ns.length<=63->(∀H',Q (.bl true) H')->Oe K vs H Q E_
def YA (e:∀u,H a=some u->G a=some u) (h:bS K H a xs):bS K G a xs:=by
 rcases h with (h | ⟨o,h⟩) | h
 ·exact .inl (.inl (e _ h))
 ·exact .inl (.inr ⟨o,e _ h⟩)
 ·exact .inr h
noncomputable def wnd (x4 by_:Int):List Int:=(jg 12).map λi:Nat=>x4+by_*((i:Int)-3)
def abO (h1:-3<=m) (h2:m<=8):x4+by_*m∈wnd x4 by_:=kc.mpr ⟨(m+3).toNat,wD.mpr 0#z,by rw [show (((m+3).toNat:Nat):Int)-3=m by simp?]⟩
def jT:dR 1 [cy,fH,bX,bV,"_law_scale","_law_by","_law_left","_law_k","_law_what",eK,dD,cZ,aP] Ys:=0#t
def afP (F:fU K "law" Ys f fd) (T:Txt mg) (oA:abV P w K mg base) (ly:0#c 5 "_law_shut_doors" [fH] LV) (ux:0#c 5 "_law_begun" [fH] (LQ af)) (jk:0#c 2 "_law_looked" [bX,bV,"_law_turn"] (GC af)) (xC:0#c 4 "_law_deed" [cy,dY,"_law_scale"] (LU K)) (iM:abW P w K mg base) (xF:0#c 17 "_law_step" [bX,bV,aP] (RL af)):0#b 18 f fd [cy] (Oe K):=by
 refine F.fq jT 0#a
 obtain ⟨a,ns,rfl,hS,hn,k⟩:=h
 have eU:=hr.units
 apply bI ⟨_,(aq (aV 1 jT.nd (Jd.c3 oA hr 0#A aH (fM (eV aH (eV aH (eV aH (eV aH (Jd.a4 aH aH aH aH) pG) pG) pG) pG)))) (aq (bK (Jd.sN (gw (Jd.c1 ly hr 0#H))) (aA (aW j0)) bL) (aq (Jd.qy (Jd.c1 ux hr 0#H) (Jd.QM K (n:=2) rfl (iE (cG (i:=2) jT.nd rfl 0#D) (iE (cG (i:=3) jT.nd rfl 0#D) rj)))) (aq (aV 4 jT.nd (cY (lX K) (fM (Jd.a4 aH aH (aX FI aH aH) (aX FI aH aH))) (Jd.iL K 0#H) 0#B)) (aq (aV 5 jT.nd (cY (lX K) (fM (bN aH aH)) (Jd.iL K 0#H) 0#B)) (aq (aV 6 jT.nd aH) (aq (bK (Jd.sN (gw (Jd.c3 jk hr 0#P 0#X aH))) (aA (aW j0)) bL) (aq (iV j9 rfl (Jd.oG rfl T.range (bN aH (eE (afL rfl) rfl T.aa7 Ud (bN aH (eE (aa8 rfl) rfl T.aa9 Ue (bN aH (ir K T.kK 0#A)) (he:=pG) (hpl:=(cO yF bZ)))) (he:=pG) (hpl:=(cO yF bZ))))) (cG (i:=7) jT.nd rfl 0#D) (aq (Jd.qy (Jd.c3 xC hr 0#A (aa 7) (aa 4)) (Jd.QM K (n:=4) rfl (iE (cG (i:=8) jT.nd rfl 0#D) (iE (cG (i:=9) jT.nd rfl 0#D) (iE (cG (i:=10) jT.nd rfl 0#D) (iE (cG (i:=11) jT.nd rfl 0#D) rj)))))) (aq (bK (iW (Jd.zP (iW (mw (bx cN (aa 8) bG 1#a) (mz (bx cN (aa 6) aH 1#a)))) (Jd.sO (iW (mw (bx cN (aa 8) bG 1#a) (mz (bx cN (Jd.iL K 0#H) aH 1#a))))))) (aA (aV 8 jT.nd bG)) bL) (aq (aV 12 jT.nd (b9 (Jd.a4 (aa 8) (aX dN (Jd.iL K 0#H) (aX bE (aa 5) (aa 9))) (aa 10) (aa 11)))) (aq (bK (iW (mw (bx cN (aa 8) bG 1#a) (mz (bx sI (cg iM hr 0#X (aa 12)) eF 1#a)))) (aA (aV 6 jT.nd (aX dF (aa 6) aH))) bL) (aq (bK (Jd.sN (gw (Jd.c3 xF hr 0#P 0#X (aa 12)))) (aA (aW j0)) bL) (aA (bK (iW (mw (bx cN (aX kq (aa 10) aH) aH 1#a) (mz (Jd.sN (gw (Jd.c3 jk hr 0#P 0#X (aa 7))))))) (aA (aW j0)) bL)))))))) (aA (aW (Jd.uR (Jd.c3 jk hr 0#P 0#X aH) (Jd.yc (Jd.c3 jk hr 0#P 0#X aH))))))))))))),?_⟩
 apply aG (mk:=.lst) 0#w λl1 H1 s1 n1 e1=>?_
 refine ⟨a,ns,0,l1,[4,9,3,5,100,4,2,2],rfl,s1.seq hS,by decide,by decide,e1,by decide,by decide,λlw xs H2 s2 n2 e2 J L=>?_⟩
 obtain ⟨x0,g0,a0,b0⟩:=jQ J L 0 (z:=4) rfl
 obtain ⟨x1,g1,a1,b1⟩:=jQ J L 1 (z:=9) rfl
 obtain ⟨x2,g2,a2,b2⟩:=jQ J L 2 (z:=3) rfl
 obtain ⟨x3,g3,a3,b3⟩:=jQ J L 3 (z:=5) rfl
 obtain ⟨Z,g4,a4,b4⟩:=jQ J L 4 (z:=100) rfl
 obtain ⟨x5,g5,a5,b5⟩:=jQ J L 5 (z:=4) rfl
 obtain ⟨x6,g6,a6,b6⟩:=jQ J L 6 (z:=2) rfl
 obtain ⟨x7,g7,a7,b7⟩:=jQ J L 7 (z:=2) rfl
 have fV:=s1.trans s2
 rw?
 apply ⟨lw,xs,x0,x1,rfl,e2,g0,g1,a0,b0,a1,b1,λH3 s3=>?_⟩
 apply bO ?_
 apply Cq ?_
 refine ⟨lw,xs,x0,x1,x2,x3,Z,rfl,s3 _ _ e2,g0,g1,g2,g3,g4,a0,b0,a1,b1,a3,b3,a4,b4,λy p d o S wy β cs H4 s4 ey hk ho a8 aN am=>?_⟩
 refine JA ey ?_
 have lZ:=fV.trans s3
 rw?
 refine aG (mk:=.lst) 0#w λl5 H5 s5 n5 e5=>?_
 have w2:=s4 _ _ (s3 _ _ e2)
 rw?
 refine ie (s5 _ _ w2) (eW g5 0#z) ?_
 obtain ⟨sc,aQ,a'⟩:=vV (xs:=[V.int 1,.int 7,.int (10 ^ G8 6),.int (10 ^ G8 18)]) (k:=x5.toNat) (by show x5.toNat<4;simp?)
 obtain ⟨sc,rfl,bi⟩:∃z:Int,sc=.int z/\Sz 62 z:=by
  simp only [kM,CF,CN] at aQ
  rcases aQ with rfl | rfl | rfl | rfl <;> exact ⟨_,rfl,by decide +kernel⟩
 apply ie e5 (show uD _ x5=_ by rw [show x5=((x5.toNat:Nat):Int) by simp?];exact a') ?_
 refine aG (mk:=.lst) 0#w λl6 H6 s6 n6 e6=>?_
 have Mz:=s5.trans s6
 rw?
 refine ie (Mz _ _ w2) (eW g6 0#z) ?_
 obtain ⟨I,aK,a9⟩:=vV (xs:=[V.int 1,.int 1009]) (k:=x6.toNat) (by show x6.toNat<2;simp?)
 obtain ⟨I,rfl,be⟩:∃z:Int,I=.int z/\(z=1\/z=1009):=by
  simp only [kM,CF,CN] at aK
  rcases aK with rfl | rfl
  ·exact ⟨_,rfl,.inl rfl⟩
  ·exact ⟨_,rfl,.inr rfl⟩
 apply ie e6 (show uD _ x6=_ by rw [show x6=((x6.toNat:Nat):Int) by simp?];exact a9) ?_
 refine ⟨p,d,o,S,wy,β,cs,none,false,0,rfl,hk.up Mz,ho.up Mz,by decide,λH7 s7=>?_⟩
 have an:=Mz.trans s7
 have keep:∀{G:Hp},ao (Wc p d o S H7) G->∀{z:ah} {u:HO},H3 z=some u->G z=some u:=λs z u e=>by
  obtain ⟨q1,q2,q3,q4⟩:=aN
  have ne:∀v,H3 v=none->z≠v:=λv hv q=>by rw [q,hv] at e;cases e
  exact s _ _ (by rw [D4 (ne _ q1) (ne _ q2) (ne _ q3) (ne _ q4)];exact an _ _ (s4 _ _ e))
 rw?
 apply bO ?_
 apply jy (Lv ?_)
 have ba:bS K H7 a 1#i:=YA (λu e=>keep zY e) (lZ.seq hS)
 refine gR (.inl ba) ?_
 rw [iI]
 rw?
 have hN:(if (if (ns.length:Int)<62 then (ns.length:Int) else 62)>15 then (if (ns.length:Int)<62 then (ns.length:Int) else 62) else 15)<=62/\15<=(if (if (ns.length:Int)<62 then (ns.length:Int) else 62)>15 then (if (ns.length:Int)<62 then (ns.length:Int) else 62) else 15):=by
  constructor <;> (repeat' split) <;> simp?
 generalize (if (if (ns.length:Int)<62 then (ns.length:Int) else 62)>15 then (if (ns.length:Int)<62 then (ns.length:Int) else 62) else 15)=N at hN ⊢
 refine ⟨1,N,rfl,⟨by simp?,by simp?,by simp?,by simp?⟩,iP (lo:=1) (n:=(N-1).toNat) (λj σ H8=>aeG λ(cs:List Cv) (mk:0#m) (en:Bool) (lf:Int) (v7 v8 v9 ap ar Wg:Option V)=>σ=[some (.ref a),some (.ref lw),some (.ref p),some (.ref o),some (.int sc),some (.int I),some (.int lf),v7,v8,v9,ap,ar,Wg]/\fm af H8 p d wy β cs mk en/\iC H8 o S cs mk en/\Win (wnd Z I) cs/\ao (Wc p d o S H7) H8) ?_ ?_ ?_⟩
 ·exact ⟨cs,none,false,3,_,_,_,_,_,_,rfl,hk.up an,ho.up an,λx hx hs=>(by rw [am x hx] at hs;cases hs),zY⟩
 ·rintro j σ H8 hj ⟨cs,mk,en,lf,v7,v8,v9,ap,ar,Wg,rfl,ag,ai,aj,s8⟩
  refine fP λM Bk RR hM _ _=>?_
  have w8:H8 lw=some (.lst (xs.map V.int)):=keep s8 (s3 _ _ e2)
  rw?
  apply Cq ?_
  refine ⟨a,ns,1+(j:Int),sc,rfl,YA (λu e=>keep s8 e) (lZ.seq hS),by simp?,by simp?,bi,λe w m t b H9 s9 ee m1 m2 zt zb=>?_⟩
  refine oH ee ?_
  dsimp only
  with_reducible refine iY (λO H'=>H'=H9/\∃w':Dw,O=[some (.ref a),some (.ref lw),some (.ref p),some (.ref o),some (.int sc),some (.int I),some (.int lf),some (.int (1+(j:Int))),some (.str (Mw w')),some (.int m),some (.int t),some (.int b),Wg]) ?_ λN' Y=>?_
  ·rintro O H9 ⟨rfl,w',rfl⟩
   have bb:=ag.up s9
   have bc:=ai.up s9
   have w9:=s9 _ _ w8
   have ax:Sz 12 I:=by rcases be with rfl | rfl <;> decide
   have zm:Sz 8 m:=show m.natAbs<2 ^ 8 by simp?
   have bh:Sz 160 (Z+I*m):=((show Sz 20 Z from show Z.natAbs<2 ^ 20 by simp?).add (ax.mul zm)).mono 0#y
   rw?
   apply ie w9 (eW g4 0#z) ?_
   apply jP (dG ax zm) ?_
   refine aG (mk:=.tup) 0#w λe' um uU AX Ho=>?_
   have dd:Ej um e' w' (Z+I*m) t b:=⟨Ho,bh,zt.mono 0#y,zb.mono 0#y⟩
   have aL:Z+I*m∈wnd Z I:=abO m1 m2
   have aZ:=bb.up uU
   have aw:=bc.up uU
   have Rb:=s8.trans (s9.trans uU)
   dsimp only
   with_reducible refine iY (λO H'=>ao um H'/\∃ak:Int,O=[some (.ref a),some (.ref lw),some (.ref p),some (.ref o),some (.int sc),some (.int I),some (.int ak),some (.int (1+(j:Int))),some (.str (Mw w')),some (.int m),some (.int t),some (.int b),some (.ref e')]) ?_ λN' Y=>?_
   ·rintro O V4 ⟨Rc,ak,rfl⟩
    have av:=aZ.up Rc
    have ad:=aw.up Rc
    have ay:=Rb.trans Rc
    with_reducible refine iY (λO H'=>O=[some (.ref a),some (.ref lw),some (.ref p),some (.ref o),some (.int sc),some (.int I),some (.int ak),some (.int (1+(j:Int))),some (.str (Mw w')),some (.int m),some (.int t),some (.int b),some (.ref e')]/\∃(cs:List Cv) (mk:0#m) (en:Bool),fm af H' p d wy β cs mk en/\iC H' o S cs mk en/\Win (wnd Z I) cs/\ao (Wc p d o S H7) H') ?_ λN'' as=>?_
    ·rintro O al ⟨rfl,aE,aR,IY,ac,ae,aU,R⟩
     refine Nl (λr H'=>r=false/\ao al H') (λB U=>?_) (λH' h=>nomatch h.1) (λH' h=>?_)
     ·rw?
      refine cJ 0#K 0#K
      ·rw?
       apply ⟨p,d,o,S,wy,β,aE,aR,IY,1+(j:Int),rfl,ac,ae,by simp?,λH13 JC=>?_⟩
       exact U _ _ ⟨rfl,JC⟩
      ·exact U _ _ ⟨rfl,ao.refl _⟩
     ·rw?
      exact hM _ _ ⟨aE,aR,IY,ak,_,_,_,_,_,_,rfl,ac.up h.2,ae.up h.2,aU,R.trans h.2⟩
    ·rw?
     refine ⟨p,d,o,S,e',wy,β,cs,mk,en,w',Z+I*m,t,b,rfl,av,ad,a8,dd.up Rc,λc=>(WK ad.2.2 aj (show 12<=30 by decide) aL c).1,λr hr' al R=>?_,λc al R ac ae=>?_⟩
     ·rw?
      refine bO ?_
      exact as _ _ ⟨rfl,cs,mk,en,av.up R,ad.up R,aj,ay.trans R⟩
     ·rw?
      refine bO ?_
      refine as _ _ ⟨rfl,_,_,_,ac,ae,(WK ad.2.2 aj (show 12<=30 by decide) aL c).2,λb u e=>?_⟩
      obtain ⟨q1,q2,q3,q4,_⟩:=Lz e
      exact R _ _ (by rw [D4 q1 q2 q3 q4];exact ay _ _ e)
   ·refine Nl (λr H'=>ao um H') (λB U=>?_) (λH' h=>?_) (λH' h=>?_)
    ·rw?
     refine cj rfl ?_
     refine 0#M
     refine cJ 0#K 0#K
     ·rw?
      apply ⟨o,S,e',cs,mk,en,w',Z+I*m,t,b,rfl,aw,dd,λV4 Rc=>?_⟩
      exact ⟨rfl,_,rfl,U _ _ Rc⟩
     ·exact U _ _ 0#V
    ·rw?
     exact Y _ _ ⟨h,lf-1,rfl⟩
    ·exact Y _ _ ⟨h,lf,rfl⟩
  ·have w9:=s9 _ _ w8
   refine Nl (λr H'=>H'=H9) (λB U=>?_) (λH' h=>?_) (λH' h=>?_)
   ·rw?
    refine cj rfl ?_
    refine 0#M
    refine cJ (λc1=>?_) (λc1=>?_)
    ·rw?
     refine cJ (λc2=>?_) (λc2=>?_)
     ·exact U _ _ rfl
     ·rw?
      refine cj rfl ?_
      refine 0#M
      refine cJ (λc3=>?_) (λc3=>?_)
      ·rw?
       apply ie w9 (eW g7 0#z) ?_
       exact U _ _ rfl
      ·exact U _ _ rfl
    ·apply bO ?_
     refine cj rfl ?_
     refine 0#M
     refine cJ (λc3=>?_) (λc3=>?_)
     ·rw?
      apply ie w9 (eW g7 0#z) ?_
      exact U _ _ rfl
     ·exact U _ _ rfl
   ·subst h
    rw?
    exact Y _ _ ⟨rfl,.qM,rfl⟩
   ·subst h
    exact Y _ _ ⟨rfl,w,rfl⟩
 ·rintro σ H8 ⟨cs,mk,en,lf,v7,v8,v9,ap,ar,Wg,rfl,ag,ai,aj,s8⟩
  rw?
  apply ⟨p,d,o,S,wy,β,cs,mk,en,2,rfl,ag,ai,by decide,λH9 s9=>?_⟩
  apply cD ?_
  exact ⟨p,d,o,S,wy,β,cs,mk,en,1,rfl,ag.up s9,ai.up s9,by decide,λum uU=>k um⟩
def all_mk {l:ZI} (X:K.In h) (G:h.Ns dJ mg) (hfa:mg "law"=some (.ref fa)) 
 (UR:fX K dJ "Stretch"=some (some (.ref aR))) (QN:GX K aR UL=true) (PY:CB K aR=true) (QV:OD K aR=true) (Rn:iz K (.ref aR) "__setattr__"=some (some (.builtin "object.__setattr__"))) (Qj:OJ K aR=true) (Qc:tQ K (.ref aR)=true)
 (Ba:iz K (.ref aR) "twice"=some none)
 (xV:iz K (.ref aR) "samples"=some none)
 (wz:iz K (.ref aR) "gentlest"=some none)
 (wA:iz K (.ref aR) "steepest"=some none)
 (aeH:fX K dJ "Bend"=some (some (.ref az))) (abq:GX K az UL=true) (aaL:CB K az=true) (abt:OD K az=true) (abE:iz K (.ref az) "__setattr__"=some (some (.builtin "object.__setattr__"))) (aba:OJ K az=true) (aa0:tQ K (.ref az)=true)
 (Ig:iz K (.ref az) "bound"=some none)
 (Ih:iz K (.ref az) "twice"=some none)
 (Ie:iz K (.ref az) "below"=some none)
 (Ic:iz K (.ref az) "above"=some none)
 (AY:iz K (.ref az) "gentlest"=some none)
 (AZ:iz K (.ref az) "steepest"=some none)
 (Wl:fX K dJ "Keeper"=some (some (.ref af))) (VH:GX K af UL=true) (Vg:CB K af=true) (VI:OD K af=true) (VL:iz K (.ref af) "__setattr__"=some (some (.builtin "object.__setattr__"))) (Vx:OJ K af=true) (Vp:tQ K (.ref af)=true)
 (Ii:iz K (.ref af) "way"=some none)
 (De:iz K (.ref af) "bound"=some none)
 (zo:iz K (.ref af) "entries"=some none)
 (E9:iz K (.ref af) "mark"=some none)
 (Df:iz K (.ref af) "ended"=some none)
 (Pz:Fx K "_law_cell" yh)
 (U9:Fx K "_law_mix" BB)
 (Va:Fx K "_law_row" BC)
 (Nd:Fx K "_law_ratio" u7)
 (C5:Fx K "plain_divisor" nC)
 (AQ:Fx K "steps_of_heads" lQ)
 (U8:Fx K "divisor" BA)
 (aaF:Fx K "ratio" D6)
 (Vc:Fx K "reduced" BE)
 (Ks:Fx K "loose_plus" sZ)
 (wK:Fx K "loose_minus" mj)
 (HS:Fx K "loose_times" qJ)
 (aaD:Fx K "minus" LD)
 (afn:Fx K "plus" Rj)
 (afm:Fx K "over" Ri)
 (qx:Fx K "loose_slope" jL)
 (HQ:Fx K "loose_along" qH)
 (ES:Fx K "loose_height" pA)
 (Ng:Fx K "loose_off" vc)
 (aaG:Fx K "slope" LG)
 (Vb:Fx K "line_by" BD)
 (W2:Fx K "height" Ge)
 (afl:Fx K "meet" Rh)
 (aaE:Fx K "order" LF)
 (h_size:Fx K "size" Rl)
 (HR:Fx K "loose_stand" qI)
 (afo:Fx K "runs" Rk)
 (AO:Fx K "loose_farthest" lP)
 (Px:Fx K "greatest" yf)
 (PU:Fx K "smallest" yw)
 (HM:Fx K "good_behind" qE)
 (aaC:Fx K "leaps" LC)
 (M9:Fx K "labels_by" uY)
 (U6:Fx K "bars_by" Bx)
 (xS:Fx K "places_of_pieces" jS)
 (C4:Fx K "piece_between" nB)
 (PX:Fx K "tied_run" yz)
 (PV:Fx K "tied_row" yy)
 (aaH:Fx K "spans" LH)
 (aaB:Fx K "chain" LB)
 (EN:Fm K aR "__init__" "Stretch.__init__" o8)
 (C2:Fx K "gentlest_with" ny)
 (C6:Fx K "steepest_with" nE)
 (C0:Fm K aR "takes" "Stretch.takes" nu)
 (EO:Fm K aR "kept" "Stretch.kept" o9)
 (Nh:Fx K "stretches" vd)
 (EU:Fx K "whole_points" pC)
 (HK:Fx K "above_chord" qD)
 (HV:Fx K "scaled_offs" qL)
 (M8:Fx K "exchanged" uX)
 (C1:Fx K "forcing_three" nv)
 (aaI:Fx K "stand" LI)
 (aaJ:Fx K "times" LJ)
 (afk:Fx K "best" Rg)
 (HU:Fx K "piece_along" qK)
 (Kn:Fx K "best_piece" sW)
 (ER:Fx K "ending_three" pe)
 (aaA:Fx K "apart" LA)
 (PN:Fx K "opposite" yt)
 (Ko:Fx K "is_steeper" sX)
 (Ve:Fx K "touched" BG)
 (M5:Fm K az "__init__" "Bend.__init__" uV)
 (EL:Fm K az "line_of" "Bend.line_of" o6)
 (wm:Fm K az "ended_in_cap" "Bend.ended_in_cap" jC)
 (wu:Fm K az "ended_in_cup" "Bend.ended_in_cup" jD)
 (M6:Fm K az "take" "Bend.take" uW)
 (CV:Fm K az "line_now" "Bend.line_now" ni)
 (PM:Fx K "links_of" yr)
 (PR:Fx K "point_on" yu)
 (ET:Fx K "pieces_along" pB)
 (W3:Fx K "joined" Gf)
 (yS:Fx K "settled_entries" kr)
 (C3:Fx K "parted_at_gap" nA)
 (Vd:Fx K "told_by" BF)
 (AM:Fx K "certain_of_run" lN)
 (afp:Fxa K "sure_certain" "sure" Rm)
 (HN:Fx K "is_fraction" qF)
 (Py:Fx K "is_wrong" yg)
 (U7:Fx K "checked" By)
 (M7:Fx K "check_way" pW)
 (HL:Fx K "check_bound" mh)
 (W0:Fx K "fewest" Gd)
 (pL:Fm K af "check_not_closed" "Keeper.check_not_closed" fZ)
 (oW:Fm K af "check_not_settled" "Keeper.check_not_settled" fR)
 (Kh:Fm K af "lay" "Keeper.lay" sR)
 (Kl:Fmd K af "put" "Keeper.put" sU 1)
 (Kf:Fm K af "gap" "Keeper.gap" sQ)
 (HG:Fmd K af "mend" "Keeper.mend" qA 1)
 (CZ:Fm K af "strike" "Keeper.strike" nq)
 (Km:Fm K af "row" "Keeper.row" sV)
 (HJ:Fm K af "told" "Keeper.told" qC)
 (HH:Fm K af "sure" "Keeper.sure" qB)
 (CY:Fm K af "settle" "Keeper.settle" nk)
 (EM:Fm K af "close" "Keeper.close" o7)
 (AL:Fm K af "settled" "Keeper.settled" lM)
 (CW:Fm K af "closed" "Keeper.closed" nj)
 (HF:Fm K af "__init__" "Keeper.__init__" qz)
 (Nc:Fx K "_law_named" u6)
 (PJ:Fx K "_law_said" yo)
 (PC:Fx K "_law_done" yj)
 (PK:Fx K "_law_shut" yp)
 (HP:Fx K "_law_refused" qG)
 (Nf:Fx K "_law_value" u9)
 (Na:Fx K "_law_apply" uZ)
 (PF:Fx K "_law_rows" ym)
 (PB:Fx K "_law_deed" yi)
 (Kr:Fx K "_law_looked" sY)
 (PL:Fx K "_law_step" yq)
 (PD:Fx K "_law_door" yk)
 (AN:Fx K "_law_shut_doors" lO)
 (Nb:Fx K "_law_begun" u5)
 (ahi:Fx K "law" Ys)
 (afd:fX K dJ "HEAD"=some (some (.int 256 ajz)))
 (afe:fX K dJ "MOST"=some (some (.int 40 ajA)))
 (UP:fX K dJ "NoRatio"=some (some (.ref aN))) (R5:tX K aN 0#L "ValueError.__new__"=true) (Sb:vI K (.ref aN) (.ref aN)=some true)
 (Wk:fX K dJ "Closed"=some (some (.ref aU))) (VY:tX K aU 0#L "ValueError.__new__"=true) (V0:vI K (.ref aU) (.ref aU)=some true)
 (UQ:fX K dJ "Settled"=some (some (.ref aK))) (R8:tX K aK 0#L "ValueError.__new__"=true) (Sd:vI K (.ref aK) (.ref aK)=some true)
 (aal:fX K dJ "Taken"=some (some (.ref bA))) (Y8:tX K bA 0#L "ValueError.__new__"=true) (Za:vI K (.ref bA) (.ref bA)=some true)
 (aeI:fX K dJ "Full"=some (some (.ref bR))) (abQ:tX K bR 0#L "ValueError.__new__"=true) (abR:vI K (.ref bR) (.ref bR)=some true)
 (UN:fX K dJ "Missing"=some (some (.ref aQ))) (RZ:tX K aQ 0#L "ValueError.__new__"=true) (R9:vI K (.ref aQ) (.ref aQ)=some true)
 (aak:fX K dJ "NoWay"=some (some (.ref bu))) (Y7:tX K bu 0#L "ValueError.__new__"=true) (Y9:vI K (.ref bu) (.ref bu)=some true)
 (UO:fX K dJ "NoBound"=some (some (.ref aL))) (R1:tX K aL 0#L "ValueError.__new__"=true) (Sa:vI K (.ref aL) (.ref aL)=some true)
 (Wm:fX K dJ "TooFew"=some (some (.ref ki))) (VZ:tX K ki 0#L "ValueError.__new__"=true) (V1:vI K (.ref ki) (.ref ki)=some true)
 (MI:fX K dJ "LathError"=some (some (.ref fK))) (Mn:tX K fK 0#L "ValueError.__new__"=true) (Mp:vI K (.ref fK) (.ref fK)=some true)
 (RY:Gt K "WAYS" xQ "apart" "joined" "spans" "chain")
 (aiE:fX K dJ "len"=some none)
 (aiA:fX K dJ "abs"=some none)
 (abS:fX K dJ "range"=some none)
 (Mq:fX K dJ "isinstance"=some none)
 (aiD:fX K dJ "int"=some none)
 (agM:fX K dJ "bool"=some none)
 (abT:fX K dJ "tuple"=some none)
 (agN:fX K dJ "list"=some none)
 (aiF:fX K dJ "max"=some none)
 (aiG:fX K dJ "min"=some none)
 (Oj:fX K dJ "enumerate"=some none)
 (aiJ:fX K dJ "zip"=some none)
 (aiB:fX K dJ "all"=some none)
 (aiC:fX K dJ "any"=some none)
 (aiI:fX K dJ "sum"=some none)
 (Zc:fX K dJ "sorted"=some none)
 (Se:fX K dJ "reversed"=some none)
 (aiH:fX K dJ "str"=some none)
 (hxq:aes [aU,aN,aK,bA,bR,aQ,bu,aL] (xqB K)=true)
 (afr:xw (λC=>xw (λD=>Hi K (.ref C) (.ref D)) [aU,aN,aK,bA,bR,aQ,ki,bu,aL]) [aU,aN,aK,bA,bR,aQ,bu,aL]=xw (λi=>xw (λk=>some (i==k)) (jg 9)) [0,1,2,3,4,5,7,8])
 (afq:xw (λC=>vI K (.ref C) (.ref fK)) [aU,aN,aK,bA,bR,aQ,bu,aL]=ow 8 (some true)) :
 ∃fd:ia,(∀(s:bB) (v:bq),G9 s fd ⟨[v],[]⟩ [("_law_script",v)])/\∀base:cH,K.In base->base.Ns dJ mg->bf l.prog w K mg base dw 18 fa fd [cy] (Oe K):=by
 obtain ⟨_,Z,ac,Q⟩:=ahi
 have e:=hfa.symm.trans (qO X G ac)
 cases e
 have T:Txt mg:=⟨t8 X G aiE,t8 X G aiA,t8 X G abS,t8 X G Mq,t8 X G aiD,t8 X G agM,t8 X G abT,t8 X G agN,t8 X G aiF,t8 X G aiG,t8 X G Oj,t8 X G aiJ,t8 X G aiB,t8 X G aiC,t8 X G aiI,t8 X G Zc,t8 X G Se,t8 X G aiH⟩
 obtain ⟨_,_,Sq,O⟩:=aaF
 obtain ⟨_,_,Ep,EX,uC⟩:=EN
 obtain ⟨_,_,MH,Nk,B5⟩:=M5
 obtain ⟨_,_,B9,N⟩:=M7
 obtain ⟨_,_,wI,M⟩:=HL
 obtain ⟨_,_,Hx,HY,wH⟩:=HF
 obtain ⟨_,_,O9,xJ⟩:=PJ
 have xA:Cn mg "HEAD" 256:=⟨_,qO X G afd⟩
 have AB:Cn mg "MOST" 40:=⟨_,qO X G afe⟩
 have R:Cl K mg "Stretch" aR ["twice",br,jh,ji]:=⟨⟨QN,PY,QV,Rn⟩,qO X G UR,⟨Ba,xV,wz,wA,trivial⟩⟩
 have z:Cl K mg "Bend" az [aJ,"twice","below","above",jh,ji]:=⟨⟨abq,aaL,abt,abE⟩,qO X G aeH,⟨Ig,Ih,Ie,Ic,AY,AZ,trivial⟩⟩
 have u:Cl K mg "Keeper" af [eN,aJ,"entries","mark","ended"]:=⟨⟨VH,Vg,VI,VL⟩,qO X G Wl,⟨Ii,De,zo,E9,Df,trivial⟩⟩
 have oE:Xc K mg "NoRatio" aN:=⟨qO X G UP,R5,Sb⟩
 have qS:Xc K mg "Closed" aU:=⟨qO X G Wk,VY,V0⟩
 have jn:Xc K mg "Settled" aK:=⟨qO X G UQ,R8,Sd⟩
 have vO:Xc K mg "Taken" bA:=⟨qO X G aal,Y8,Za⟩
 have AJ:Xc K mg "Full" bR:=⟨qO X G aeI,abQ,abR⟩
 have jm:Xc K mg "Missing" aQ:=⟨qO X G UN,RZ,R9⟩
 have vN:Xc K mg "NoWay" bu:=⟨qO X G aak,Y7,Y9⟩
 have oB:Xc K mg "NoBound" aL:=⟨qO X G UO,R1,Sa⟩
 have Eo:Xc K mg "TooFew" ki:=⟨qO X G Wm,VZ,V1⟩
 have jZ:Xc K mg "LathError" fK:=⟨qO X G MI,Mn,Mp⟩
 have AI:mg "WAYS"=some (.ref xQ):=qO X G RY.1
 refine ⟨Z,λs v=>?_,λbase _ _=>?_⟩
 ·obtain ⟨_,_,_,_,_,_,_,_,_,rfl,_,_⟩:=Q.ex
  exact .of_eq rfl
 have Y:Tp l.prog w K mg base:=⟨h,X,G⟩
 have rV:=Y.d Pz λF=>NO F T
 have vK:=Y.d U9 λF=>Qw F
 have oA:=Y.d Va λF=>Qx F T rV vK
 have dZ:=Y.d Nd λF=>K0 F T
 have mY:=Y.d C5 λF=>Bo F T
 have lD:=Y.d AQ λF=>zJ F xA
 have U:=Y.d U8 λF=>Qu F T xA mY lD
 have vL:=dnm l.prog w base X G Sq O (XI O T U) (O.su λ_ _ _ _ _ _ _ _=>rfl)
 have A:=Y.d Vc λF=>Qz F vL
 have S:=Y.d Ks λF=>Ip F
 have B:=Y.d wK λF=>FA F
 have dW:=Y.d HS λF=>FG F
 have DH:=Y.d aaD λF=>XG F B A
 have rY:=Y.d afn λF=>abg F S A
 have O4:=Y.d afm λF=>abf F vL
 have iN:=Y.d qx λF=>FD F B
 have dU:=Y.d HQ λF=>Fz F S dW
 have gV:=Y.d ES λF=>Dr F S dW
 have uz:=Y.d Ng λF=>K2 F B gV
 have DI:=Y.d aaG λF=>XM F iN A
 have lz:=Y.d Vb λF=>Qy F dU A
 have jH:=Y.d W2 λF=>VE F gV A
 have O3:=Y.d afl λF=>abe F O4 DH jH
 have qQ:=aav l.prog w base X G Sq O (VB O T oE U) (O.su λ_ _ _ _ _ _ _ _=>rfl)
 have E:=Y.d aaE λF=>XH F
 have qq:=Y.d HR λF=>FE F B dU iN
 have r6:=Y.d afo λF=>abh F T
 have oN:=Y.d wK λF=>Ds F
 have oO:=Y.d qx λF=>Dt F oN
 have lA:=Y.d AO λF=>zI F T E oO
 have iw:=Y.d Px λF=>NK F E
 have lC:=Y.d PU λF=>NY F E
 have cM:=Y.d qx λF=>Du F B
 have qm:=Y.d HM λF=>Ft F T E S B cM iw lC
 have JY:=Y.d aaC λF=>XF F T qm
 have uv:=Y.d M9 λF=>KW F T
 have AD:=Y.d U6 λF=>Qp F T lA
 have jR:=Y.d xS λF=>wB F T
 have mW:=Y.d C4 λF=>Bl F T
 have xH:=Y.d PX λF=>N1 F T JY uv jR mW AD
 have lE:=Y.d PV λF=>NZ F T r6 xH
 have J0:=Y.d aaH λF=>XN F T lE
 have JX:=Y.d aaB λF=>XE F T lE
 have vJ:Dk l.prog w K mg base 6 "Stretch" aR [aB,aJ] (GA aR):=⟨_,_,Dp uC R rY,⟨Qj,Ep,EX,Qc⟩,(uC.su λ_ _ _ _ _ _ _ _=>rfl),R.at_⟩
 have c6:=Y.d C2 λF=>Bh F T B cM iw
 have c7:=Y.d C6 λF=>Bp F T S cM lC
 have jO:=Y.m C0 λF=>Be F T R c6 c7 E
 have kg:=Y.m EO λF=>Dq F T R
 have uA:=Y.d Nh λF=>K3 F T R vJ jO kg
 have oS:=Y.d EU λF=>Dy F U
 have lW:=Y.d HK λF=>Fj F
 have qu:=Y.d HV λF=>FH F lW
 have uu:=Y.d M8 λF=>KU F
 have mU:=Y.d C1 λF=>Bg F T oS qu uu
 have J1:=Y.d aaI λF=>XO F A qq
 have J2:=Y.d aaJ λF=>XQ F dW A
 have JZ:=Y.d h_size λF=>XJ F T
 have AE:=Y.d afk λF=>abd F T DI lz mU J2 J1 rY JZ
 have lB:=Y.d PN λF=>NW F
 have nW:=Y.d Ko λF=>Im F E
 have jX:=Y.d Ve λF=>QB F E uz
 have O2:Dk l.prog w K mg base 6 "Bend" az [aB,aJ] (D7 az):=⟨_,_,KQ B5 z rY,⟨aba,MH,Nk,aa0⟩,(B5.su λ_ _ _ _ _ _ _ _=>rfl),z.at_⟩
 have cV:=Y.m EL λF=>Dj F z A dU B iw
 have jz:=Y.m wm λF=>uP F z cV jX lB c7
 have jA:=Y.m wu λF=>uQ F z cV jX lB c6
 have uq:=Y.m M6 λF=>KR F z c6 c7 nW jz jA
 have mR:=Y.m CV λF=>Bc F T z lz cV
 have xG:=Y.d PM λF=>NV F T z O2 uq mR
 have rZ:=Y.d PR λF=>NX F jH
 have oQ:=Y.d HU λF=>Dv F jH
 have qh:=Y.d Kn λF=>Fl F oQ AE
 have mT:=Y.d ER λF=>Bf F T AE
 have Eh:=Y.d aaA λF=>VC F T r6 uA qh mT
 have mX:=Y.d ET λF=>Bm F T rZ O3
 have AG:=Y.d W3 λF=>Qv F T r6 xG mX
 have kh:=Y.d yS λF=>xW F
 have mV:=Y.d C3 λF=>Bj F T
 have iy:=Y.d Vd λF=>N2 F Eh AG J0 JX
 have lu:=Y.d AM λF=>zG F iy
 have qo:=Y.d HN λF=>Fw F U
 have xB:=Y.d Py λF=>NL F T AB qo
 have AF:=Y.d U7 λF=>Qq F T xB
 have ur:=dnm l.prog w base X G B9 N (KS N AI RY.2) (N.sr λ_ _ _ _ _ _ _=>rfl)
 have ql:=dnm l.prog w base X G wI M (Fq M ) (M.sr λ_ _ _ _ _ _ _=>rfl)
 have Ei:=Y.d W0 λF=>VD F ur ql AF iy
 have J:Mg l.prog w K mg base 1 af "check_not_closed" [aB] (gE af aU) []:=mgx pL λF=>nZ F u qS
 have bD:Mg l.prog w K mg base 1 af "check_not_settled" [aB,aM] (jv af aK) []:=mgx oW λF=>m7 F u jn
 have iK:Mg l.prog w K mg base 2 af "lay" [aB,aM,"value"] (Of af aK bA bR) []:=mgx Kh λF=>Fd F T AB u vO AJ bD
 have ⟨qf,oJ⟩:Mg l.prog w K mg base 4 af "put" [aB,aM,"top",cK] (JE af (wk aU aN aK bA bR aQ bu aL)) []/\Mg l.prog w K mg base 4 af "put" [aB,aM,"top",cK] (JE af (wk aU aN aK bA bR aQ bu aL)) [.int 1]:=mgd Kl (λF=>Fe F u qQ J iK) (λ_ _ _ _ _ _ _ _ _ _ _ _=>⟨_,rfl,rfl⟩) (λ_ _ _ _ _ _ _ _ _ _ _=>⟨_,rfl,rfl⟩)
 have iJ:Mg l.prog w K mg base 3 af "gap" [aB,aM] (Od af 0#I) []:=mgx Kf λF=>Fc F u J iK
 have ⟨oK,mP⟩:Mg l.prog w K mg base 4 af "mend" [aB,aM,"top",cK] (BU af (wk aU aN aK bA bR aQ bu aL)) []/\Mg l.prog w K mg base 4 af "mend" [aB,aM,"top",cK] (BU af (wk aU aN aK bA bR aQ bu aL)) [.int 1]:=mgd HG (λF=>Dh F u jm qQ J bD) (λ_ _ _ _ _ _ _ _ _ _ _ _=>⟨_,rfl,rfl⟩) (λ_ _ _ _ _ _ _ _ _ _ _=>⟨_,rfl,rfl⟩)
 have kZ:Mg l.prog w K mg base 3 af "strike" [aB,aM] (Am af 0#I) []:=mgx CZ λF=>zE F u jm J bD
 have fD:=Y.m Km λF=>Il F T u
 have qg:=Y.m HJ λF=>Fg F u fD Ei
 have oR:=Y.a afp λF=>abi F T kh mV iy lu
 have fJ:=Y.m HH λF=>Ff F u fD qg oR
 have kX:Mg l.prog w K mg base 14 af "settle" [aB,aM] (Al af 0#I) []:=mgx CY λF=>zD F T u jn J fJ
 have mQ:Mg l.prog w K mg base 14 af "close" [aB] (D8 af 0#I) []:=mgx EM λF=>Bb F T u J fJ
 have lg:=Y.m AL λF=>zF F u
 have mS:=Y.m CW λF=>Bd F u
 have rT:=aav l.prog w base X G B9 N (Ik N vN AI RY.2) (N.sr λ_ _ _ _ _ _ _=>rfl)
 have oM:=aav l.prog w base X G wI M (Di M oB) (M.sr λ_ _ _ _ _ _ _=>rfl)
 have oz:Kg l.prog w K mg base 2 "Keeper" af [aB,eN,aJ] (Ag af bu aL):=⟨_,_,Dg wH u rT oM,⟨Vx,Hx,HY,Vp⟩,(wH.Es λ_ _ _ _ _ _ _ _ _=>rfl),u.at_⟩
 have jj:=Y.n Nc λF=>Ij F T qS oE jn vO AJ jm Eo vN oB (aeW hxq afr afq)
 have uo:=aav l.prog w base X G O9 xJ (KP xJ u qf oJ iJ oK mP kZ kX mQ) (xJ.su λ_ _ _ _ _ _ _ _=>rfl)
 have xD:=Y.d PC λF=>NQ F jZ (aeW hxq afr afq) uo jj
 have rX:=Y.d PK λF=>NT F
 have iM:=Y.d HP λF=>Fy F T rX
 have uy:=Y.d Nf λF=>K1 F dZ
 have uw:=Y.d Na λF=>KY F uy
 have xE:=Y.d PF λF=>NS F T
 have xC:=Y.d PB λF=>NP F oA
 have jk:=Y.d Kr λF=>Io F T u fD lg mS xE
 have xF:=Y.d PL λF=>NU F T iM xD uw
 have rW:=Y.d PD λF=>NR F jZ (aeW hxq afr afq) dZ oz jj
 have ly:=Y.d AN λF=>zH F rW
 have ux:=Y.d Nb λF=>KZ F T u dZ oz iJ
 exact afP Q T oA ly ux jk xC iM xF
def walk {l:ZI} {K:Params->bU} (hn:l.most=some 63) (hdf:d.params.defaults=[])
 (hY:∀(w:dO) (h:cH),YP w h->(K w.params).In h)
 (F:∀(w:dO) (mg:0#g) (fa:ah) (h:cH),(K w.params).In h->h.Ns dJ mg->mg d.name=some (.ref fa) ->
   ∃fd:ia,(∀(s:bB) (u:bq),G9 s fd ⟨[u],[]⟩ [("_law_script",u)])/\∀base:cH,(K w.params).In base->base.Ns dJ mg->bf l.prog w (K w.params) mg base dw 18 fa fd [cy] (Oe (K w.params))) :
 adU q loose XP YP l.row.toRowW d [] (λf vs=>aae f vs):=
 L2.abN (n:=63) (k:=18) (x := "_law_script") (CX:=λ_=>dw) (sp:=λw=>Oe (K w.params)) hn 0#y hdf ⟨rfl,by decide,by decide⟩ hY F (λ_ _ a ns hl _ hS=>⟨a,ns,rfl,hS,hl,λ_=>rfl⟩) λ_ _ _ _ _ z=>z
end Lw
open PySem PySem.W PyProof.Rows
set_option maxRecDepth 100000 in
set_option maxHeartbeats 0 in
theorem PySem.Challenge.cw_lath_k74_deeds_holds : PySem.Challenge.rw_lath_k74_deeds.Holds := by
 w_on;o_law;k_head;(case hw=>w_witness2)
 k_fill
 refine Lw.walk (l:=PySem.Challenge.rw_lath_k74_deeds) rfl rfl (fun w h Y=>PySem.W.kIn_of Y) ?F
 case F=>
  intro w mg fa h KX G hmg
  refine' Lw.all_mk KX G hmg .. <;> first | done | walk_at "fz" | kernel_rfl | skip
