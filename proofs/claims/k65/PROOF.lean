import PyProof.Rows.All
import Wide.All
import OpenK.AllK
import Wide.FinOn
import Lean
import PyProof.EqAt
import PyProof.EqKinds
import PyProof.TupleCall
import PyProof.NeKinds
import PySem.SetTable
import PyProof.SetKind
import PyProof.TupleKey
import PyProof.IsRules
import PyProof.DictKinds
import PyProof.FactsAll.set
import PyProof.RangeIter
import PyProof.Seq
import PyProof.ForAny
import PyProof.WalksMore
import PyProof.CollectWalk
import PyProof.CollectIter
import PyProof.WalksS
import PyProof.FactsAll.subtypes_4
import PyProof.Rows.SetFrom
import KE.KSortTup
import PyProof.Draws
import PyProof.Rows.Range3
import PyProof.ExcClass2
import PyProof.InstSpecial
import PyProof.RaisesMany
import PyProof.Rows.Own
import KE.KTryDeep
import PyProof.InstStoreFacts
import PyProof.ExcArgs
import PyProof.SetRoads
import PyProof.Rows.CallKwBuiltin
import KE.KMinKey
import KE.KMinBuiltin
import PyProof.DictRoadsH
import KE.BitLaws
import PyProof.ListCopy
import PyProof.Rows.SortShell
import PyProof.DictTruth
import PyProof.DictItems
import PyProof.Rows.TupDisplay
import KE.KItemsList
import KE.KDictList
import PyProof.DictKeyH
import PyProof.DictWalks
import PyProof.Rows.SeqMore
import PySem.Challenge.RW_coverclocks_k65_whole_exact_ones
set_option compiler.extract_closed false
set_option Elab.async false
set_option linter.all false
set_option maxRecDepth 100000
set_option maxHeartbeats 6400000
namespace PySem.W.Fast
def tw1994658339953096357:=0
def tw13736203657415371397:=0
def tw17625317148453517177:=0
def tw3281485058716614144:=0
def tw2221978248406875397:=0
def tw13004511088780467218:=0
def tw4547391488710261720:=0
def tw266969622730208454:=0
def tw17565506502461650633:=0
def tw12362082271506141420:=0
def tw2779803825829066199:=0
def tw14249299412702413523:=0
def tw12579662838618264611:=0
def tw11568160943613866917:=0
def tw10721565329023541168:=0
def tw6172931265255726053:=0
def tw16094686775116218661:=0
def tw13685249501554871624:=0
def tw12604761595700419135:=0
def tw5372241094361664042:=0
def tw16909056357657803409:=0
def tw2520403335467076547:=0
def tw13641804493968869078:=0
def tw14293043601558964485:=0
def tw10823290806082584728:=0
def tw12071728346247745888:=0
def tw17916132644777253546:=0
def tw16893443924648377723:=0
def tw11896332877137780863:=0
def tw14365442021157796079:=0
def tw16904222268459730320:=0
def tw16102979115359653126:=0
def tw2334121690820697144:=0
def tw1500671860060905882:=0
def tw17420321471075805119:=0
def tw16399772678403599099:=0
def tw9127883613820639542:=0
def tw11484111094594413441:=0
def tw2570948366975760243:=0
def tw12393528698437929892:=0
def tw2792669723076223811:=0
def tw1573103554082280868:=0
def tw16164914122180065330:=0
def tw5385094788608333755:=0
def tw17093019501470392049:=0
def tw9706134200366964241:=0
def tw6859786517244115733:=0
def tw13713105926026831343:=0
def tw9584913545966673753:=0
def tw15837451372193389074:=0
def tw6145659825860217641:=0
def tw14422676743567726576:=0
def tw3496280927977797186:=0
def tw8983603085096684915:=0
def tw17875681658604318408:=0
def tw6952376445529490820:=0
def tw514016941110932894:=0
def tw13664403341629388911:=0
def tw1086512049993572322:=0
def tw13881114592765649937:=0
def tw15381630301844582393:=0
def tw18362700280988311218:=0
def tw12512202655621943221:=0
def tw9208582348929930459:=0
def tw4854730006596869111:=0
def tw12363622740139934340:=0
def tw15747158922262220855:=0
def tw8284014528394999811:=0
def tw12132463816232997828:=0
def tw7240250441595723704:=0
def tw11926941153119352688:=0
def tw10972575134536546505:=0
def tw1089067606429964742:=0
def tw11148695775551612094:=0
def tw8010583164940019742:=0
def tw6057976532879348318:=0
def tw9404001287972596275:=0
def tw8708458861339798278:=0
def tw9694976522759632811:=0
def tw10056628762597072334:=0
def tw4757151144305638842:=0
def tw15681796457113523715:=0
def tw5115799353242893033:=0
def tw10237362298853515758:=0
def tw12572860459762636305:=0
def tw15188117567963740672:=0
def tw12767074103057545296:=0
def tw14326943699289756505:=0
def tw5369136580552587684:=0
def tw14353698349219415533:=0
def tw14399022788969204136:=0
def tw2735497877777756297:=0
def tw1618427650893245444:=0
def tw8032466476823330888:=0
def tw10395071028624327783:=0
def tw2334267482375068690:=0
def tw4165299895248614723:=0
def tw10527762204905386270:=0
def tw17735019346504664286:=0
def tw9321929684530694422:=0
def tw3500859513218487254:=0
def tw9321328653359712413:=0
def tw6658397317469899934:=0
def tw159029448041570808:=0
def tw8540499240104446097:=0
def tw16275865509785671760:=0
def tw2903358720009161302:=0
def tw7700186091483247833:=0
def tw2670279767231996323:=0
def tw1663271922678904154:=0
def tw17097976759780052013:=0
def tw8609300512884816277:=0
def tw443215984507032953:=0
def tw10898553139587515354:=0
def tw6292414138737841217:=0
def tw17636033090893144131:=0
def tw6368310820110580853:=0
def tw2517338082350692290:=0
def tw16621509672585829742:=0
def tw7688132302097182430:=0
def tw507001763221699390:=0
def tw912057144385259248:=0
def tw37508275690409540:=0
def tw18231632110395440920:=0
def tw4453953421123414379:=0
def tw10558588791422880216:=0
def tw17732556815731097921:=0
def tw17260078809580413328:=0
def tw5254550857802185716:=0
def tw6575084065174388714:=0
def tw5233482365886778278:=0
def tw12081691943748370576:=0
def tw15729878235415430033:=0
def tw7811602599295711925:=0
def tw9034983165149987054:=0
def tw526755864481163692:=0
def tw9467510457541673237:=0
def tw1977551120964019190:=0
def tw8341464802755328960:=0
def tw11413437767672142728:=0
def tw14731822756745402591:=0
def tw16890895247784231998:=0
def tw17149449115760171101:=0
def tw2070504816975869657:=0
def tw6540683597383474180:=0
def tw8337945710938937068:=0
def tw8738727704305869680:=0
def tw13523829599572668511:=0
def tw2855755472424072579:=0
def tw18300496422748980340:=0
def tw4798063123935134069:=0
def tw7794115223206930308:=0
def tw17642202870267797102:=0
def tw8780363656212066745:=0
def tw17622943688123492102:=0
def tw9218531694070559103:=0
def tw8906356839723127041:=0
def tw3056395641918832850:=0
def tw9987266213085562436:=0
def tw11402928765403888649:=0
def tw13076869626107337522:=0
def tw6118855513319713350:=0
def tw9501076018780146115:=0
def tw5456470507295958978:=0
def tw5048512086374093412:=0
def tw9161272766346008937:=0
def tw18059396475321407888:=0
def tw15565206373258547807:=0
def tw1712956315784889181:=0
def tw15605044249436757242:=0
def tw10923638124448260304:=0
def tw12046703719516224161:=0
def tw12086671506905840913:=0
def tw5612101758037240964:=0
def tw12227131309176201376:=0
def tw1679787512662990674:=0
def tw8778384383024851703:=0
def tw18091095678530198354:=0
def tw7570423708531976488:=0
def tw3125337389197036514:=0
def tw17223250308569420871:=0
def tw3802006598456463777:=0
def tw13693988774272027472:=0
def tw13085039638050337822:=0
def tw6971036995291272533:=0
def tw16247864418034485399:=0
def tw9941701415139706524:=0
def tw13885826453875403037:=0
def tw2931267410004385601:=0
def tw17107643223170779589:=0
def tw14137523526826725309:=0
def tw1521823466918240919:=0
def tw11724847945046903600:=0
def tw16302119423098969096:=0
end PySem.W.Fast
open Array renaming getElem?_toList->ak,length_toList->aK,getElem?_eq_some_iff->bf,getElem?_eq_getElem->cN,toList_append->c6,forIn_toList->dN,mem_toList_iff->g9,getElem?_eq_none_iff->jO,toList_push->k7,toList_reverse->mO,toList_setIfInBounds->og,toList->pT,toList_filterMap->qM,getElem?_eq_none->qN,toList_extract->r9,getElem_toList->sd,toList_modify->sF,getElem_mem->ug,getD->vI
open Bool renaming false_ne_true->af,and_eq_true->aM,eq_iff_iff->cV,false_eq_true->eQ,not_eq_true'->gb,false_and->ie,not_eq_false'->kK,true_and->lH,and_true->nZ,and_false->rA
open Classical renaming byContradiction->aB
open False renaming elim->g7
open ForInStep renaming yield->gM
open Int renaming natCast_dvd_natCast->a8,toNat_natCast->a9,mul_assoc->ba,toNat_of_nonneg->bp,dvd_mul_right->bx,mul_le_mul_of_nonneg_left->bG,emod_lt_of_pos->bV,mul_ediv_add_emod->cE,emod_nonneg->cF,natCast_mul->cU,emod_eq_zero_of_dvd->dg,dvd_trans->d0,natCast_ediv->eO,dvd_of_emod_eq_zero->ff,dvd_sub->fC,natCast_add->fU,emod_eq_of_lt->f7,emod_eq_emod_iff_emod_sub_eq_zero->gm,mul_sub->gv,natAbs_natCast->gF,mul_comm->ij,natAbs_dvd_natAbs->jr,le_of_lt->ju,mul_one->jR,ediv_nonneg->kf,natCast_nonneg->kH,dvd_add->lC,natCast_emod->lW,mul_nonneg->m9,mul_pos->nt,dvd_of_mul_dvd_mul_left->nI,mul_ediv_cancel_left->pS,eq_ofNat_of_zero_le->pW,one_mul->qK,emod_emod_of_dvd->r6,le_of_dvd->sv,zero_add->tS,mul_add->uC
open List renaming length_map->ε,mem_cons_self->ι,mem_cons_of_mem->μ,length_append->π,mem_map->υ,getElem?_eq_some_iff->Γ,append_assoc->Δ,getElem?_eq_getElem->Θ,pairwise_append->Ξ,range->Φ,mem_cons->Ψ,size_toArray->Ω,mem_append->aa,mem_singleton->ah,length_cons->ai,mem_append_right->aj,mem_of_getElem?->av,getElem?_map->ax,map_cons->ay,mem_range->az,mem_append_left->aD,mem_filter->aI,map_map->aJ,pairwise_map->aO,map_append->aP,length_drop->aX,length_take->aZ,take_append_drop->a0,length_range->bo,nil_append->br,map_congr_left->bB,append_nil->bC,pairwise_singleton->bE,replicate->bF,getElem?_append_right->bI,length->bM,sum_cons->bQ,length_range'->bU,pairwise_iff_getElem->bW,nodup_cons->cc,mem_of_mem_take->cf,mem_of_mem_drop->cg,getElem?_append_left->cx,not_mem_nil->cz,eq_nil_of_length_eq_zero->cL,take_of_length_le->cP,all_eq_true->cZ,length_singleton->c9,pairwise_cons->dm,drop_eq_getElem_cons->dz,getElem?_drop->dM,perm_ext_iff_of_nodup->dZ,filter_eq_nil_iff->d7,take_sublist->ee,filterMap_cons->eo,getElem?_eq_none_iff->eD,getElem?_eq_none->eH,getElem?_take_of_lt->eK,find?_eq_none->eN,length_eq_zero_iff->fb,filter_cons_of_pos->fc,filter_congr->fi,find?_cons->fq,getElem_of_mem->ft,length_pos_of_mem->fz,getElem_cons_drop->fA,drop_eq_nil_of_le->fB,perm_middle->fI,pairwise_reverse->fJ,mem_of_find?_eq_some->fL,flatten_cons->fY,drop_sublist->fZ,filter_cons_of_neg->gd,mem_reverse->gj,mem_flatMap->gk,getD_eq_getElem?_getD->gO,getElem?_zip_eq_some->gZ,getElem?_of_mem->g6,lookup_cons->ig,replicate_succ->iu,filter_eq_self->iw,zip_cons_cons->iM,of_mem_zip->iN,length_nil->iO,find?_some->iP,pairwise_lt_range->iW,exists_mem_of_length_pos->i7,nodup_append->jb,perm_append_comm->jn,nodup_nil->jo,perm_cons_erase->jF,nodup_range->jG,any_eq_true->jH,length_pos_iff->jT,getElem?_range->jU,findSome?_cons->jV,sum_append->kc,mem_filterMap->kE,filter_append->kF,take_zero->kQ,drop_drop->kR,reverse_perm->kZ,ext_getElem?->k6,sum_replicate_nat->lA,getElem?_set_self->lB,take_length->lS,getElem_mem->lT,exists_of_findSome?_eq_some->lU,any_toArray->lV,mem_of_mem_erase->md,mem_iff_getElem?->me,length_replicate->mf,length_filter_le->mh,eq_replicate_iff->mi,toArray->mI,length_zip->mJ,getElem?_set_ne->mK,foldl_cons->mL,filter_map->mM,drop_zero->m6,dropLast_concat_getLast->m7,countP_eq_length_filter->m8,map_inj_right->nG,filterMap_map->nH,map_drop->nW,take_add_one->oC,exists_mem_of_ne_nil->oR,map_fst_zip->pN,length_erase_of_mem->pO,idxOf_lt_length_iff->pP,find?_range_eq_some->pQ,filterMap_cons_some->pR,getElem?_replicate->pV,forIn_cons->qm,range_succ_eq_map->qH,map_id->qI,length_eq_one_iff->qJ,take_take->rk,set_append_right->rl,pairwise_flatMap->rm,reverse_reverse->rX,nodup_iff_count->rY,map_take->sr,reverse_append->sx,mem_map_of_mem->sy,map_eq_nil_iff->sA,length_zipWith->sC,flatMap_append->sD,countP_pos_iff->sE,map_nil->tN,map_filterMap->tO,getElem_idxOf->tP,filter_filter->tQ
open List.Pairwise renaming imp_of_mem->c5,nil->gS,filter->rZ,map->ud,imp->ue
open List.Perm renaming append_left->cm,append_right->cC,trans->cT,refl->jq,of_eq->vH,swap->wt
open List.cons renaming inj->nX,injEq->qo
open Nat renaming le_refl->ρ,zero_le->ar,le_trans->aH,ne_of_lt->aV,gcd->aW,lt_of_lt_of_le->bw,ne_of_gt->bL,lt_irrefl->cA,lcm->c8,mul_comm->dE,gcd_dvd_right->fh,le_of_dvd->fE,mod_lt->fS,le_add_right->gh,gcd_dvd_left->gi,not_lt_zero->gJ,gcd_pos_of_pos_left->iA,min_eq_left->iJ,lt_of_le_of_lt->iK,mul_one->iV,lt_succ_of_lt->ja,lt_trans->jm,mul_assoc->jL,div_eq_of_eq_mul_right->jM,mul_le_mul_left->jS,mod_add_div->j8,add_mul_mod_self_left->j9,pow_succ->kB,gcd_comm->kC,mul_div_cancel_left->kU,lt_succ_self->lR,pow_le_pow_right->mF,mul_le_mul_right->mG,le_of_lt->mH,mul_add->nq,add_assoc->nV,eq_of_mul_eq_mul_left->oQ,zero_add->pK,succ_pos->pL,le_mul_of_pos_right->pU,lcm_dvd->qE,gcd_rec->qF,dvd_of_mod_eq_zero->qG,le_of_ble_eq_true->rj,div_lt_of_lt_mul->rW,sub_zero->tJ,sub_self->tK,lt_or_ge->tL,div_self->tM,pow_pos->uz,lcm_pos->uA,Coprime->uB
open Ne renaming symm->di
open Option renaming map_eq_some_iff->qD,getD_some->uU,getD_none->uV
open Option.some renaming inj->aL
open Or renaming inr->tI
open Prod renaming ext->uT
open PyProof.Rows renaming Keyed->ο,SortSt->bS,slot_tuple_getitem->df,callWith_type1->dJ,SortKind->dR,IntsAre->f6,IsTup->gK,get?_update_seq->j7,listUpdate_at->lG,mergeAt'->ma,AllBare->mj,listItems_at->pJ,seqEpoch_at->qB
open PyProof.Rows.F renaming plain_set_update_loop->gE,entry_set_update_loop->kA
open PyProof.Rows.SortSt renaming mk'->rV
open PySem renaming wpAny_bind->γ,wpAny_pure->δ,Value->ζ,Shared->η,Addr->ν,wpAny->χ,Program->ao,sizeLine->aA,World->aC,Str->aG,Around->aQ,Expr->aT,wpAny_newObj_type->bj,wpAny_call_entry->bA,wpAny_callSpecial?_slot->bD,wpAny_setField_rec->bH,wpAny_seqItems->bJ,starEach->bP,Obj->bT,wpAny_holding->bY,wpAny_field->b6,wpAny_typeNameOfWhole_itemiter->b9,codeAny_builtin->cw,sizeLine_eq->cG,wpAny_typeNameOf_itemiter->cM,mainGlobals->cO,wpAny_forIn_list->cY,wpAny_setState_of->dC,wpAny_pyIter_tuple->dI,wpAny_isInstance->dP,plainId_quiet->dX,Pos->d9,wpAny_rule->eX,wpAny_mono->eY,wpAny_updateSeq->fm,wpAny_specialOf->fo,wpAny_typeOf->fx,wpAny_isOneOf_itemiter->fy,wpAny_attempt->fD,SetTable->fH,wpAny_truthy_bool->fV,wpAny_pyIter_list->fW,Builtin->f9,wpAny_eqBool_tuple->gD,wpAny_passesOwn->gH,codeAny->gI,NameKind->gN,wpAny_letGo->hJ,FuncData->ik,Stmt->iz,Moved->iL,wpAny_of_eq->iT,richCompare_meets_room->iU,wpAny_dictEntries->i9,bootBuiltins->jj,IsItemIter->jI,richCompare->jQ,wpAny_dictEpoch->j6,codeAny_mono->ky,IsPair->kG,wpAny_newTuple->kL,wpAny_fieldsOf->kM,isSubtype_stop->kO,Scope->kP,isSubtype_tuple_tuple->l8,builtinLookup_eq_fast->l9,wpAny_updateSeq_pair->mD,wpAny_execs_nil->mE,IsPart->mN,wpAny_tryCatch->mW,wpAny_setField->mX,wpAny_runValue->mY,isSubtype_type->mZ,wpAny_tupleItemsOf->nE,wpAny_Call_Name_kw->nF,wpAny_onRaise->nS,wpAny_newList->nT,wpAny_handled->nU,wpAny_pyIter_slot->oA,slot_list_getitem->oB,wpAny_load->oK,call_meets->oM,IsZip->oT,wpAny_getItem_list_slice->pE,wpAny_eqBool_int->pF,wpAny_comprehension_free->pG,wpAny_askSetting->pH,noFill_tuple_add->pI,wpAny_ite_split->qi,typeLookup_type->qj,PassesOwn->qk,wpAny_throw->qz,seqIndex_of->qA,Keyword->rq,wpAny_standAt->si,seq_tuple_add->sj,evalPart_none->sk,IsItemIterOut->su
open PySem.Around renaming under_plainId->cj
open PySem.Builtin.Builtins renaming bindParams->nK
open PySem.Builtin.Dict_items renaming ownedTupleFields->kS
open PySem.Builtin.Int renaming intBits->jW
open PySem.Builtin.List renaming listExtendWith->de,listSameRef->ip,listTooLong->kJ,listItems->qL
open PySem.Builtin.Range renaming rangeSize->dO,small->mT
open PySem.Builtin.Slice renaming slicePlaces->g8,sliceAdjust->oV
open PySem.Builtin.SmallTypes renaming nextOf->oU
open PySem.Builtin.Tuple renaming tupleHashOf->eE,tupleExact->il,tupleItemsOf->jN
open PySem.Calls renaming callWith_builtin->lD,spliced_cons->nJ,Name_function_global->nY,evalArgs_plain->r8,spliced_nil->uf
open PySem.Code renaming quiet_builtin->tU
open PySem.Data renaming cell->tT
open PySem.Moved renaming trans->nr
open PySem.NameKind renaming free->cS
open PySem.Obj renaming mapSeq->a7,putSet->oP
open PySem.SeqAt renaming EqAt->vG
open PySem.SeqAt.EqAt renaming int_int->kz
open PySem.SetTable renaming insertAt->bR,grown->gg,sizeAbove->iI,below->jk
open PySem.Shared renaming heap->hV,TypeIs->iC
open PySem.Str renaming ofString->dY,empty->iH
open PySem.Value renaming ref->aw,none->cq,isInt_shape->fX,type->gs,bool->gu,int->iG,notImplemented->jE,isInt->qC
open PySem.W renaming kasC_bind->ω,kasC_pure->ag,kasC_range->dQ,kasC_modify->hU,kasC_get->jD,kasC_lift->l7,kat_nil->oX
open PySem.W.KatTups renaming cons->tR
open Sum renaming inr->oY,inl->oZ
open True renaming intro->oO
namespace L2
open PySem PySem.Spec PyProof.Rows
abbrev Key:=Sum Int aG
def Dt:Key->ζ->Bool
 |.inl k,v=>qC k v
 |.inr x,v=>ζ.isStrOf x v
def Zt(w:aC):Key->Int
 |.inl k=>hashInt k
 |.inr x=>hashStr w x
theorem rK:∀{k:Key} {v:ζ},Dt k v=true->(∃i t,k=oZ i/\v=iG i t)∨(∃x t,k=oY x/\v=ζ.str x t)
 |.inl i,v,h=>by
  obtain⟨t,e⟩:=fX (k:=i) (v:=v) h;exact .inl ⟨i,t,rfl,e⟩
 |.inr x,v,h=>by
  obtain⟨t,e⟩:=ζ.isStrOf_shape (x:=x) (v:=v) h;exact .inr ⟨x,t,rfl,e⟩
theorem Vz(a b:Int):decide ((oZ a:Key)=oZ b)=(a==b):=by
 by_cases e:a=b
 ·subst e;simp
 ·have h:¬(oZ a:Key)=oZ b:=λq=>e (oZ.inj q);rw[decide_eq_false h];exact (beq_eq_false_iff_ne.mpr e).symm
theorem Vy(a b:aG):decide ((oY a:Key)=oY b)=decide (a=b):=by
 by_cases e:a=b
 ·subst e;simp
 ·have h:¬(oY a:Key)=oY b:=λq=>e (oY.inj q);rw[decide_eq_false h,decide_eq_false e]
theorem Vx(a:Int)(b:aG):decide ((oZ a:Key)=oY b)=false:=decide_eq_false (λq=>nomatch q)
theorem Vw(a:aG)(b:Int):decide ((oY a:Key)=oZ b)=false:=decide_eq_false (λq=>nomatch q)
def v8(prog:ao)(w:aC):PySem.KeyKind prog w Key where
 is:=Dt
 hash:=Zt w
 inj:=λv a b ha hb=>by
  rcases rK ha with⟨i,t,rfl,rfl⟩|⟨x,t,rfl,rfl⟩
  ·rcases rK hb with⟨j,u,rfl,e⟩|⟨y,u,rfl,e⟩
   ·injection e with e1 _;rw[e1]
   ·exact nomatch e
  ·rcases rK hb with⟨j,u,rfl,e⟩|⟨y,u,rfl,e⟩
   ·exact nomatch e
   ·injection e with e1 _;rw[e1]
 byValue:=λk v h=>by
  rcases rK h with⟨i,t,rfl,rfl⟩|⟨x,t,rfl,rfl⟩<;>rfl
 pyHash:=λhv h=>by
  rcases rK hv with⟨i,t,rfl,rfl⟩|⟨x,t,rfl,rfl⟩
  ·exact wpAny_pyHash_int h
  ·exact wpAny_pyHash_str h
 eqBool:=λhu hv h=>by
  rcases rK hu with⟨i,t,rfl,rfl⟩|⟨x,t,rfl,rfl⟩
  ·rcases rK hv with⟨j,u,rfl,rfl⟩|⟨y,u,rfl,rfl⟩
   ·rw[Vz] at h;exact pF h
   ·rw[Vx] at h;exact vG.int_str i t y u _ _ _ _ h
  ·rcases rK hv with⟨j,u,rfl,rfl⟩|⟨y,u,rfl,rfl⟩
   ·rw[Vw] at h;exact vG.str_int x t j u _ _ _ _ h
   ·rw[Vy] at h;exact wpAny_eqBool_str h
 «strs»:=λk x t v h=>by
  rcases rK h with⟨i,u,rfl,e⟩|⟨y,u,rfl,e⟩
  ·exact nomatch e
  ·injection e with e1 _;subst e1;cases v<;>rfl
inductive V where
 |aE|bl (b:Bool)|int (i:Int)|str (x:aG)|A3 (b:Array UInt8)|JX (b:UInt64)|ref (a:ν)|ty (n:String)
 deriving DecidableEq
def RelV:V->ζ->Prop
 |.aE,u=>u=cq
 |.bl b,u=>u=gu b
 |.int i,u=>∃t,u=iG i t
 |.str x,u=>∃t,u=ζ.str x t
 |.A3 b,u=>∃t,u=ζ.bytes b t
 |.JX b,u=>∃t,u=ζ.float b t
 |.ref a,u=>u=aw a
 |.ty n,u=>u=gs n
abbrev bq:List V->List ζ->Prop:=Paired RelV
theorem bq.length(r:bq xs us):xs.length=us.length:=Paired.length r
theorem bq.get:∀{xs:List V} {us:List ζ} {i:Nat} {x:V},bq xs us->xs[i]?=some x->∃u,us[i]?=some u/\RelV x u
 |_,_,_,_,.nil,e=>by simp at e
 |_,_,0,_,.cons r _,e=>by simp at e;subst e;exact⟨_,rfl,r⟩
 |_,_,i+1,x,.cons _ t,e=>by
  obtain⟨u,h1,h2⟩:=bq.get (i:=i) (x:=x) t (by simpa using e);exact⟨u,by simpa using h1,h2⟩
theorem bq.set(r:RelV x u):∀{xs:List V} {us:List ζ} (i:Nat),bq xs us->bq (xs.set i x) (us.set i u)
 |_,_,_,.nil=>.nil
 |_,_,0,.cons _ t=>.cons r t
 |_,_,i+1,.cons q t=>.cons q (bq.set r i t)
theorem bq.append:∀{xs ys:List V} {us ws:List ζ},bq xs us->bq ys ws->bq (xs++ys) (us++ws)
 |_,_,_,_,.nil,s=>s
 |_,_,_,_,.cons r t,s=>.cons r (bq.append t s)
theorem bq.take:∀{xs:List V} {us:List ζ} (n:Nat),bq xs us->bq (xs.take n) (us.take n)
 |_,_,0,_=>.nil
 |_,_,_+1,.nil=>.nil
 |_,_,n+1,.cons r t=>.cons r (bq.take n t)
theorem bq.drop:∀{xs:List V} {us:List ζ} (n:Nat),bq xs us->bq (xs.drop n) (us.drop n)
 |_,_,0,r=>r
 |_,_,_+1,.nil=>.nil
 |_,_,n+1,.cons _ t=>bq.drop n t
def J9:Option V->Option ζ->Prop
 |some v,some u=>RelV v u
 |none,none=>True
 |_,_=>False
def KV{κ:Type}:List (κ×V)->List (κ×ζ)->Prop:=Paired λ(p:κ×V) (q:κ×ζ)=>p.1=q.1/\RelV p.2 q.2
def kV:Key->V
 |.inl i=>.int i
 |.inr x=>.str x
inductive HO where
 |lst (xs:List V)
 |tup (xs:List V)
 |dK (kvs:List (Key×V))|dT (kvs:List (List Key×V))
 |set (S:Int->Bool) (n:Nat)
 |ins (C dx:ν) (fs:List (aG×V))
 |own (x:ν)
 |xd (fs:List (aG×V))
 |met (f x:ν)
 |C9 (lo hi:Int)
 |iZ (o:bT) (u:HO)
 |wx (ps:Array ζ)
 |ext (φ:Heap->Prop)
abbrev Hp:=ν->Option HO
def upd(H:Hp)(a:ν)(o:HO):Hp:=λb=>if b=a then some o else H b
theorem jw:upd H a o a=some o:=by unfold upd;rw[if_pos rfl]
theorem fj(h:b≠a):upd H a o b=H b:=by unfold upd;rw[if_neg h]
theorem qU{H:Hp}(h:H a=some o)(h':H b=none):a≠b:=by
 intro e;subst e;rw[h] at h';cases h'
def lu(h:Heap)(a:ν)(items:Array ζ):Prop:=∃o,h.get? a=some o/\o.cls=.type "tuple"/\(∃n,o.data=.seq items n)/\o.dict=none
theorem lu.tup(x:lu h a items):gK h a items:=let ⟨o,h1,h2,h3,_⟩:=x;⟨o,h1,h2,h3⟩
theorem lu.new(h:Heap)(items:Array ζ):lu (h.push { cls:=.type "tuple",data:=.seq items }) h.objs.size items:=⟨_,Heap.get?_push_size _ rfl,rfl,⟨_,rfl⟩,rfl⟩
theorem lu.lt(x:lu h a items):a<h.objs.size:=let ⟨_,ho,_⟩:=x;Heap.lt_size ho
section
variable (P:ao) (w:aC)
def fk(H:Hp)(h:Heap)(a:ν):HO->Prop
 |.lst xs=>xs.length≤aA/\∃(its:List ζ) (n:Nat),bq xs its/\h.get? a=some { cls:=.type "list",data:=.seq its.toArray n }
 |.tup xs=>xs.length≤aA/\∃its:List ζ,bq xs its/\lu h a its.toArray
 |.dK kvs=>kvs.length≤aA/\(a==sysModules)=false/\∃vs,KV kvs vs/\h.DictOf (v8 P w) a vs
 |.dT kvs=>kvs.length≤aA/\(a==sysModules)=false/\∃xs:List (List Key×ν×ζ),
   Paired (λ(p:List Key×V) (q:List Key×ν×ζ)=>p.1=q.1/\H q.2.1=some (.tup (p.1.map kV))/\RelV p.2 q.2.2) kvs xs ∧
   ∃o es ep,h.get? a=some o/\o.ExactDict/\o.data=.dict es ep/\es.toList=xs.map (entryOfKey (tupleKind (v8 P w)))/\(xs.map (·.1)).Nodup
 |.set S n=>h.SetOf (intKind P w) a S n
 |.ins C dx fs=>H dx=some (.own a)/\fs.length≤1000/\dx≠a/\h.get? a=some (PySem.W.instObj C dx) ∧
   ∃mA,h.Ns1 dx mA/\(∀f,J9 (fs.lookup f) (mA f))/\PySem.Within mA (fs.map (·.1))
 |.own _=>∃o,h.get? a=some o
 |.xd fs=>∃mA,h.Ns1 a mA/\∀f,J9 (fs.lookup f) (mA f)
 |.C9 lo hi=>∃t u v,h.get? a=some { cls:=.type "range",data:=.fields #[.int lo t,.int hi u,.int 1 v]}
 |.iZ o u=>h.get? a=some o/\fk H h a u
 |.wx ps=>h.get? a=some { cls:=.none,data:=.fields ps }
 |.met f x=>h.get? a=some (PySem.W.methodObj (.ref f) (.ref x))
 |.ext φ=>φ h/\(∃o,h.get? a=some o)/\∀h1 h2:Heap,φ h1->(∀o,h1.get? a=some o->h2.get? a=some o)->φ h2
def ku(H:Hp)(h:Heap):Prop:=∀a o,H a=some o->fk P w H h a o
end
section
variable {P:ao} {w:aC} {H H':Hp} {h h':Heap} {a:ν} {o:HO}
theorem fk.lt(x:fk P w H h a o):a<h.objs.size:=by
 cases o with
 |lst xs=>obtain⟨_,_,_,_,e⟩:=x;exact Heap.lt_size e
 |tup xs=>obtain⟨_,_,_,p⟩:=x;exact p.lt
 |dK kvs=>obtain⟨_,_,_,_,o,_,_,e,_⟩:=x;exact Heap.lt_size e
 |dT kvs=>obtain⟨_,_,_,_,o,_,_,e,_⟩:=x;exact Heap.lt_size e
 |set S n=>obtain⟨o,_,_,_,e,_⟩:=x;exact Heap.lt_size e
 |ins C dx fs=>obtain⟨_,_,_,e,_⟩:=x;exact Heap.lt_size e
 |own y=>obtain⟨_,e⟩:=x;exact Heap.lt_size e
 |xd fs=>obtain⟨_,⟨_,_,_,e,_⟩,_⟩:=x;exact Heap.lt_size e
 |C9 lo hi=>obtain⟨_,_,_,e⟩:=x;exact Heap.lt_size e
 |iZ ob u=>obtain⟨e,_⟩:=x;exact Heap.lt_size e
 |wx ps=>exact Heap.lt_size (show h.get? a=some _ from x)
 |met f y=>exact Heap.lt_size (show h.get? a=some _ from x)
 |ext φ=>obtain⟨_,⟨_,e⟩,_⟩:=x;exact Heap.lt_size e
theorem Paired.Jz:∀{l₁:List α} {l₂:List β},Paired F l₁ l₂->(∀a b,F a b->G a b)->Paired G l₁ l₂
 |_,_,.nil,_=>.nil
 |_,_,.cons r t,f=>.cons (f _ _ r) (Paired.Jz t f)
theorem fk.sH(x:fk P w H h a o)(k:∀b u,(b=a∨H b=some (.own a))->h.get? b=some u->h'.get? b=some u)
  (ho:∀b,H b=some (.own a)->H' b=some (.own a)) (ht:∀b xs,H b=some (.tup xs)->H' b=some (.tup xs)):fk P w H' h' a o:=by
 induction o with
 |lst xs=>obtain⟨z,its,n,r,e⟩:=x;exact⟨z,its,n,r,k _ _ (.inl rfl) e⟩
 |tup xs=>obtain⟨z,its,r,ob,e,c⟩:=x;exact⟨z,its,r,ob,k _ _ (.inl rfl) e,c⟩
 |dK kvs=>obtain⟨z,y,vs,r,ob,es,ep,e,c⟩:=x;exact⟨z,y,vs,r,ob,es,ep,k _ _ (.inl rfl) e,c⟩
 |dT kvs=>
  obtain⟨z,y,xs,r,ob,es,ep,e,c⟩:=x;exact⟨z,y,xs,Paired.Jz r λp q z=>⟨z.1,ht _ _ z.2.1,z.2.2⟩,ob,es,ep,k _ _ (.inl rfl) e,c⟩
 |set S n=>obtain⟨ob,es,ep,t,e,c⟩:=x;exact⟨ob,es,ep,t,k _ _ (.inl rfl) e,c⟩
 |ins C dx fs=>
  obtain⟨d,z,ne,e,mA,⟨od,es,ep,e2,c⟩,r⟩:=x;exact⟨ho _ d,z,ne,k _ _ (.inl rfl) e,mA,⟨od,es,ep,k _ _ (.inr d) e2,c⟩,r⟩
 |own y=>obtain⟨ob,e⟩:=x;exact⟨ob,k _ _ (.inl rfl) e⟩
 |xd fs=>obtain⟨mA,⟨od,es,ep,e,c⟩,r⟩:=x;exact⟨mA,⟨od,es,ep,k _ _ (.inl rfl) e,c⟩,r⟩
 |C9 lo hi=>obtain⟨t,u,v,e⟩:=x;exact⟨t,u,v,k _ _ (.inl rfl) e⟩
 |iZ ob u ih=>obtain⟨e,q⟩:=x;exact⟨k _ _ (.inl rfl) e,ih q⟩
 |wx ps=>
  have e:h.get? a=some { cls:=.none,data:=.fields ps }:=x;show h'.get? a=some { cls:=.none,data:=.fields ps };exact k a _ (.inl rfl) e
 |met f y=>
  have e:h.get? a=some (PySem.W.methodObj (.ref f) (.ref y)):=x;show h'.get? a=some (PySem.W.methodObj (.ref f) (.ref y));exact k a _ (.inl rfl) e
 |ext φ=>obtain⟨p,⟨o,e⟩,st⟩:=x;exact⟨st _ _ p λo q=>k _ _ (.inl rfl) q,⟨o,k _ _ (.inl rfl) e⟩,st⟩
theorem ku.lt(x:ku P w H h)(e:H a=some o):a<h.objs.size:=(x a o e).lt
theorem ku.fresh(x:ku P w H h)(e:h.objs.size≤a):H a=none:=by
 cases q:H a with
 |none=>rfl
 |some u=>exact absurd (bw (x.lt q) e) (cA _)
theorem ku.kept(x:ku P w H h)(k:∀b u,h.get? b=some u->h'.get? b=some u):ku P w H h':=λa o e=>
 (x a o e).sH (λb u _ q=>k b u q) (λ_ q=>q) λ_ _ q=>q
theorem ku.laid(x:ku P w H h)(k:∀b u,h.get? b=some u->h'.get? b=some u)(hp:h.objs.size≤a)(new:fk P w (upd H a o) h' a o):ku P w (upd H a o) h':=λb u e=>by
 have hn:=x.fresh hp;by_cases hb:b=a
 ·subst hb;rw[jw] at e;cases e;exact new
 ·rw[fj hb] at e;exact (x b u e).sH (λc v _ q=>k c v q) (λc q=>by rw[fj (qU q hn)];exact q) λc xs q=>by rw[fj (qU q hn)];exact q
end
def Rd(H:Hp)(a:ν)(u:HO):Prop:=H a=some u∨∃o,H a=some (.iZ o u)
theorem Rd.ok(r:Rd H a u)(x:ku P w H h):fk P w H h a u:=by
 rcases r with r|⟨o,r⟩
 ·exact x a u r
 ·obtain⟨_,q⟩:=x a _ r;exact q
def A5:Option HO->Prop
 |some (.lst _)=>True
 |some (.dK _)=>True
 |some (.dT _)=>True
 |some (.set _ _)=>True
 |some (.ins _ _ _)=>True
 |some (.ext _)=>True
 |_=>False
section
variable {P:ao} {w:aC} {H:Hp} {h h':Heap} {x e:ν} {o':HO}
theorem ku.write(ok:ku P w H h)(mu:A5 (H x))(he:e=x∨H e=some (.own x))(k:∀b u,b≠e->h.get? b=some u->h'.get? b=some u)(heo:∃u,h'.get? e=some u)
  (new:fk P w (upd H x o') h' x o'):ku P w (upd H x o') h':=λb u q=>by
 have nown:∀c y,H c=some (.own y)->c≠x:=λc y r z=>by subst z;rw[r] at mu;exact mu
 have ntup:∀c xs,H c=some (.tup xs)->c≠x:=λc xs r z=>by subst z;rw[r] at mu;exact mu
 by_cases hb:b=x
 ·subst hb;rw[jw] at q;cases q;exact new
 ·rw[fj hb] at q;by_cases hbe:b=e
  ·have q':H b=some (.own x):=by
    rcases he with z|z
    ·exact absurd (hbe.trans z) hb
    ·rw[hbe];exact z
   rw[q] at q';cases q';obtain⟨v,hv⟩:=heo;exact⟨v,by rw[hbe];exact hv⟩
  ·refine (ok b u q).sH (λc v hc r=>k c v ?_ r) (λc r=>by rw[fj (nown c b r)];exact r) λc xs r=>by rw[fj (ntup c xs r)];exact r
   rcases hc with rfl|hc
   ·exact hbe
   ·rintro rfl;rcases he with z|z
    ·exact nown c b hc z
    ·rw[hc] at z;cases z;exact hb rfl
end
structure Un(fs ex:List ν)(H H':Hp)(h h':Heap):Prop where
 keep:∀b o,h.get? b=some o->H b=none->b∉fs->b∉ex->h'.get? b=some o
 slot:∀b o,h.get? b=some o->H b=none->b∈fs->b∉ex->∃sl,h'.get? b=some { o with slots:=sl }
 free:∀b o,h.get? b=some o->H b=none->b∉ex->H' b=none
 there:∀b o,h.get? b=some o->b∉ex->∃o',h'.get? b=some o'
 nL:∀b xs,H b=some (.tup xs)->H' b=some (.tup xs)
 rS:∀b o u,H b=some (.iZ o u)->H' b=some (.iZ o u)
 sG:∀b ps,H b=some (.wx ps)->∃more,H' b=some (.wx (ps++more))
section
variable {fs fs' ex ex':List ν} {H H1 H2:Hp} {h h1 h2 h':Heap} {a x e:ν} {o:HO}
theorem Un.any(u:Un fs ex H H1 h h1)(q:h.get? b=some ob)(n:H b=none)(hx:b∉ex):∃sl,h1.get? b=some { ob with slots:=sl }:=by
 by_cases hb:b∈fs
 ·exact u.slot b ob q n hb hx
 ·exact⟨ob.slots,u.keep b ob q n hb hx⟩
theorem Un.kept(k:∀b u,h.get? b=some u->h'.get? b=some u):Un fs ex H H h h':=
 ⟨λb ob q _ _ _=>k b ob q,λb ob q _ _ _=>⟨ob.slots,k b ob q⟩,λ_ _ _ n _=>n,λb ob q _=>⟨ob,k b ob q⟩,λ_ _ q=>q,λ_ _ _ q=>q,λ_ ps q=>⟨#[],by rw[q];simp⟩⟩
theorem Un.refl:Un fs ex H H h h:=Un.kept λ_ _ q=>q
theorem Un.laid(k:∀b u,h.get? b=some u->h'.get? b=some u)(hp:h.objs.size≤a)(hn:H a=none):Un fs ex H (upd H a o) h h' where
 keep:=λb u q _ _ _=>k b u q
 slot:=λb u q _ _ _=>⟨u.slots,k b u q⟩
 free:=λb u q n _=>by rw[fj (aV (bw (Heap.lt_size q) hp))];exact n
 there:=λb u q _=>⟨u,k b u q⟩
 nL:=λb xs q=>by rw[fj (qU q hn)];exact q
 rS:=λb u xs q=>by rw[fj (qU q hn)];exact q
 sG:=λb ps q=>⟨#[],by rw[fj (qU q hn),q];simp⟩
theorem Un.write(mu:A5 (H x))(he:e=x∨H e=some (.own x))(k:∀b u,b≠e->h.get? b=some u->h'.get? b=some u)(heo:∃u,h'.get? e=some u):Un fs ex H (upd H x o) h h':=by
 have hx:∀b,H b=none->b≠x:=λb n z=>by subst z;rw[n] at mu;exact mu
 have hb:∀b,H b=none->b≠e:=λb n z=>by
  subst z;rcases he with r|r
  ·exact hx b n r
  ·rw[n] at r;cases r
 have hm:∀b u,H b=some u->¬A5 (some u)->b≠x:=λb u q nm z=>by subst z;rw[q] at mu;exact nm mu
 refine⟨λb u q n _ _=>k b u (hb b n) q,λb u q n _ _=>⟨u.slots,k b u (hb b n) q⟩,λb u q n _=>by rw[fj (hx b n)];exact n,λb u q _=>?_,
  λb xs q=>by rw[fj (hm b _ q λz=>z)];exact q,λb u xs q=>by rw[fj (hm b _ q λz=>z)];exact q,λb ps q=>⟨#[],by rw[fj (hm b _ q λz=>z),q];simp⟩⟩
 by_cases hbe:b=e
 ·subst hbe;exact heo
 ·exact⟨u,k b u hbe q⟩
end
def pX(h:Heap)(H:Hp):List ν:=(Φ h.objs.size).filter λa=>(H a).isSome
def rQ(h:Heap)(H:Hp):Heap:=PySem.W.hideAll h (pX h H)
theorem Vv(h:Heap)(H:Hp):(rQ h H).objs.size=h.objs.size:=PySem.W.hideAll_size _ _
theorem Vu(e:h.get? b=some o)(n:H b=none):(rQ h H).get? b=some o:=
 PySem.W.hideAll_get _ e λhm=>by
  have q:=(aI.mp hm).2;rw[n] at q;simp at q
theorem Vt(e:(rQ h H).get? b=some o):h.get? b=some o/\H b=none:=by
 have e':=PySem.W.of_hideAll (pX h H) e;refine⟨e',?_⟩;cases q:H b with
 |none=>rfl
 |some x=>
  have hm:b∈pX h H:=aI.mpr ⟨az.mpr (Heap.lt_size e'),by simp[q]⟩;have z:(rQ h H).get? b=none:=PySem.W.hideAll_none (pX h H) hm;rw[z] at e;cases e
structure Mod(K:PySem.W.Frag)(mg:aG->Option ζ)(base:Heap):Prop where
 Ds:K.In base
 glob:base.Ns cO mg
 blt:∃mb,base.Ns builtinsNs mb/\∀x:aG,x≠"__name__"->mb x=jj x
 nolimit:base.NoLimit
structure Cx where
 prog:ao
 w:aC
 K:PySem.W.Frag
 mg:aG->Option ζ
 base:Heap
 A:aQ
 N:List aG
 s₀:η
 H₀:Hp
 env:Env
 outer:List Env
 stack:List Env
 ex:List ν
 fn:aG->Bool
 calm:Bool
 pn:List (ν×bT)
 xe:ζ->η->Prop
def tj(l:List Env):List ν:=l.filterMap (·.frame)
abbrev Cx.fs(X:Cx):List ν:=tj X.outer
def Dz(sc:kP)(x:aG):Prop:=sc.names.lookup x=some .local∨sc.names.lookup x=some .cell∨sc.names.lookup x=some .free
def Loc(sc:kP)(x:aG):Prop:=sc.names.lookup x=some .local∨sc.names.lookup x=some .cell
def Look(env:Env)(h:Heap)(m:aG->Option ζ)(x:aG)(u:ζ):Prop:=
 (env.kindOf x=some .local/\m x=some u)∨((env.kindOf x=some .cell∨env.kindOf x=some .free)/\∃c,env.cells.lookup x=some c/\h.IsCell c (some u))
structure Cx.Ok(X:Cx):Prop where
 mod:Mod X.K X.mg X.base
 kind:X.env.scope.kind=.function
 glob:X.env.globals=cO
 blt:X.env.builtins=builtinsNs
 above:X.s₀.heap.objs.size≤X.env.locals
 inj:∀x y c,X.env.cells.lookup x=some c->X.env.cells.lookup y=some c->x=y
 has:∀x,(X.env.kindOf x=some .cell∨X.env.kindOf x=some .free)->∃c,X.env.cells.lookup x=some c
 yN:∀x c,X.fn x=true->X.env.cells.lookup x=some c->X.s₀.heap.objs.size≤c
 hd:X.calm=true->X.A.handled=none
 frames:X.A.frames=some X.stack
 AH:X.stack=X.outer∨(X.stack=X.env::X.outer/\X.env.frame=some X.env.locals)
 AZ:∀b∈X.ex,b≠X.env.locals/\∀x c,X.env.cells.lookup x=some c->c≠b
 bs:∀b o,X.base.get? b=some o->X.s₀.heap.get? b=some o/\X.H₀ b=none
 vA:X.base.objs.size≤X.s₀.heap.objs.size
 uN:∀b o,X.base.get? b=some o->b∉X.ex
 we:∀b∈X.ex,b∉X.fs
 nP:X.s₀.heap.FunFrames X.base X.outer
 xZ:∀b∈X.fs,X.H₀ b=none
structure Inv(X:Cx)(pins:List (ν×bT))(σ:List (Option V))(H:Hp)(s:η):Prop where
 ok:X.Ok
 os:s.os=X.s₀.os
 bare:mj s.gens
 base:Un X.fs X.ex X.H₀ H X.s₀.heap s.heap
 loc:∃m,s.heap.Ns X.env.locals m/\∀(i:Nat) (x:aG) (v:V),X.N[i]?=some x->σ[i]?=some (some v)->Dz X.env.scope x->∃u,RelV v u/\Look X.env s.heap m x u
 cell:∀x c,X.env.cells.lookup x=some c->∃v,s.heap.IsCell c v
 free:H X.env.locals=none
 nh:∀x c,X.env.cells.lookup x=some c->H c=none
 pin:∀p∈X.pn++pins,s.heap.get? p.1=some p.2/\H p.1=none/\p.1≠X.env.locals/\p.1∉X.fs/\∀v,p.2.data≠.cell v
 bX:ku X.prog X.w H s.heap
 len:σ.length=X.N.length
section
variable {X:Cx} {pins:List (ν×bT)} {σ:List (Option V)} {H H':Hp} {s:η} {h':Heap}
theorem Cx.Ok.Zi(ok:X.Ok)(e:X.base.get? b=some o):b∉X.fs:=λhb=>by
 have:=(ok.nP.mem hb).1;rw[e] at this;cases this
theorem Inv.bs(I:Inv X pins σ H s):∀b o,X.base.get? b=some o->s.heap.get? b=some o/\H b=none:=λb o e=>
 ⟨I.base.keep b o (I.ok.bs b o e).1 (I.ok.bs b o e).2 (I.ok.Zi e) (I.ok.uN b o e),I.base.free b o (I.ok.bs b o e).1 (I.ok.bs b o e).2 (I.ok.uN b o e)⟩
theorem Inv.bk(I:Inv X pins σ H s):∀b o,X.base.get? b=some o->s.heap.get? b=some o:=λb o e=>(I.bs b o e).1
theorem Inv.mod(I:Inv X pins σ H s):Mod X.K X.mg X.base:=I.ok.mod
theorem Inv.oi(I:Inv X pins σ H s):X.K.In s.heap:=I.ok.mod.Ds.keeps I.bk
theorem Inv.lt(I:Inv X pins σ H s):X.env.locals<s.heap.objs.size:=let ⟨_,hn,_⟩:=I.loc;hn.lt
theorem Inv.sz(I:Inv X pins σ H s):X.s₀.heap.objs.size≤s.heap.objs.size:=aH I.ok.above (mH I.lt)
theorem Inv.Zh(I:Inv X pins σ H s)(h:s.heap.objs.size≤a):a∉X.fs:=λhb=>by
 obtain⟨_,o,ho,_⟩:=I.ok.nP.mem hb;exact absurd (bw (Heap.lt_size ho) (aH I.sz h)) (cA _)
theorem Inv.yc(I:Inv X pins σ H s):∀x c,X.env.cells.lookup x=some c->c≠X.env.locals:=λx c e z=>by
 obtain⟨v,o,ho,hd⟩:=I.cell x c e;obtain⟨m,⟨o',es,ep,ho',hd',_⟩,_⟩:=I.loc;rw[z,ho'] at ho;cases ho;rw[hd'] at hd;cases hd
theorem Inv.nP(I:Inv X pins σ H s):s.heap.FunFrames X.base X.outer:=by
 have all:∀(l:List Env),(∀b∈tj l,b∈X.fs)->X.s₀.heap.FunFrames X.base l->s.heap.FunFrames X.base l:=by
  intro l
  induction l with
  |nil=>intro _ _;trivial
  |cons env r ih=>
   intro hs hl;obtain⟨hk,⟨L,o,hf,hn,ho,hd⟩,hr⟩:=hl;have hL:=hs L (by unfold tj;rw[eo,hf];exact ι);obtain⟨sl,e⟩:=I.base.slot L o ho (I.ok.xZ L hL) hL λz=>I.ok.we L z hL;exact⟨hk,⟨L,_,hf,hn,e,hd⟩,ih (λb hb=>hs b (by unfold tj;rw[eo,hf];exact μ _ hb)) hr⟩
 exact all X.outer (λ_ hb=>hb) I.ok.nP
theorem Inv.stack(I:Inv X pins σ H s):s.heap.FunFrames X.base X.stack:=by
 rcases I.ok.AH with e|⟨e,hf⟩
 ·rw[e];exact I.nP
 ·rw[e];obtain⟨m,hn,_⟩:=I.loc;refine .cons (by rw[I.ok.kind];decide) hf hn ?_ I.nP;exact Heap.get?_none_of_le (aH I.ok.vA I.ok.above)
theorem Inv.wW(I:Inv X pins σ H s):∀b∈tj X.stack,b∈X.env.locals::X.fs:=λb hb=>by
 rcases I.ok.AH with e|⟨e,hf⟩
 ·rw[e] at hb;exact μ _ hb
 ·rw[e] at hb;unfold tj at hb;rw[eo,hf] at hb;exact hb
theorem Inv.yw(I:Inv X pins σ H s):∀b∈tj X.stack,H b=none:=λb hb=>by
 rcases Ψ.mp (I.wW b hb) with e|hb
 ·rw[e];exact I.free
 ·obtain⟨_,o,ho,_⟩:=I.ok.nP.mem hb;exact I.base.free b o ho (I.ok.xZ b hb) λz=>I.ok.we b z hb
theorem Inv.step{g':Array GenState}{t':Nat}{d':Drawn}{ch:List ν}(I:Inv X pins σ H s)
  (uo:∀b∈ch,(b∈X.ex∨X.s₀.heap.objs.size≤b)/\b≠X.env.locals/\(∀x c,X.env.cells.lookup x=some c->c≠b)/\∀p∈X.pn++pins,p.1≠b)
  (keep:∀b o,b≠X.env.locals->b∉X.fs->b∉ch->s.heap.get? b=some o->H b=none->h'.get? b=some o)
  (slot:∀b o,b≠X.env.locals->b∈X.fs->b∉ch->s.heap.get? b=some o->H b=none->∃sl,h'.get? b=some { o with slots:=sl }) (free:∀b o,b∉ch->s.heap.get? b=some o->H b=none->H' b=none)
  (there:∀b o,b∉ch->s.heap.get? b=some o->∃o',h'.get? b=some o')
  (nL:∀b xs,H b=some (.tup xs)->H' b=some (.tup xs)) (rS:∀b o u,H b=some (.iZ o u)->H' b=some (.iZ o u)) (sG:∀b ps,H b=some (.wx ps)->∃more,H' b=some (.wx (ps++more)))
  (ns:∀m,s.heap.Ns X.env.locals m->h'.Ns X.env.locals m) (bX:ku X.prog X.w H' h') (hg:mj g'):
  Inv X pins σ H' { s with heap:=h',gens:=g',drawn:=d',toks:=t' }:=by
 have neL:∀b o,X.s₀.heap.get? b=some o->b≠X.env.locals:=λb o e=>aV (bw (Heap.lt_size e) I.ok.above);have neC:∀b o,X.s₀.heap.get? b=some o->b∉X.ex->b∉ch:=λb o e hx hb=>by
  rcases (uo b hb).1 with z|z
  ·exact hx z
  ·exact absurd (bw (Heap.lt_size e) z) (cA _)
 have cellK:∀x c,X.env.cells.lookup x=some c->∀v,s.heap.IsCell c v->h'.IsCell c v:=λx c e v zz=>by
  obtain⟨o,ho,hd⟩:=zz;have nch:c∉ch:=λz=>(uo c z).2.2.1 x c e rfl;by_cases hc:c∈X.fs
  ·obtain⟨sl,q⟩:=slot c o (I.yc x c e) hc nch ho (I.nh x c e);exact⟨_,q,hd⟩
  ·exact⟨o,keep c o (I.yc x c e) hc nch ho (I.nh x c e),hd⟩
 refine⟨I.ok,I.os,hg,⟨λb o e n hb hx=>?_,λb o e n hb hx=>?_,λb o e n hx=>?_,λb o e hx=>?_,λb xs e=>nL b xs (I.base.nL b xs e),λb o xs e=>rS b o xs (I.base.rS b o xs e),λb ps e=>?_⟩,?_,λx c e=>?_,?_,λx c e=>?_,λp hp=>?_,bX,I.len⟩
 ·exact keep b o (neL b o e) hb (neC b o e hx) (I.base.keep b o e n hb hx) (I.base.free b o e n hx)
 ·obtain⟨sl,e1⟩:=I.base.slot b o e n hb hx;obtain⟨sl',e2⟩:=slot b _ (neL b o e) hb (neC b o e hx) e1 (I.base.free b o e n hx);exact⟨sl',e2⟩
 ·obtain⟨o',e1⟩:=I.base.there b o e hx;exact free b o' (neC b o e hx) e1 (I.base.free b o e n hx)
 ·obtain⟨o',e1⟩:=I.base.there b o e hx;exact there b o' (neC b o e hx) e1
 ·obtain⟨m1,e1⟩:=I.base.sG b ps e;obtain⟨m2,e2⟩:=sG b _ e1;exact⟨m1++m2,by rw[e2,Array.append_assoc]⟩
 ·obtain⟨m,hn,hl⟩:=I.loc;refine⟨m,ns m hn,λi x v e1 e2 e3=>?_⟩;obtain⟨u,r,l⟩:=hl i x v e1 e2 e3;refine⟨u,r,?_⟩;rcases l with l|⟨k,c,e,z⟩
  ·exact .inl l
  ·exact .inr ⟨k,c,e,cellK x c e _ z⟩
 ·obtain⟨v,z⟩:=I.cell x c e;exact⟨v,cellK x c e v z⟩
 ·obtain⟨m,⟨o,_,_,ho,_⟩,_⟩:=I.loc;exact free _ o (λz=>(uo _ z).2.1 rfl) ho I.free
 ·obtain⟨v,o,ho,hd⟩:=I.cell x c e;exact free c o (λz=>(uo c z).2.2.1 x c e rfl) ho (I.nh x c e)
 ·obtain⟨e,n,ne,nf,d⟩:=I.pin p hp;have nch:p.1∉ch:=λz=>(uo p.1 z).2.2.2 p hp rfl;exact⟨keep p.1 p.2 ne nf nch e n,free p.1 p.2 nch e n,ne,nf,d⟩
theorem Inv.un{t':Nat}(I:Inv X pins σ H s)(u:Un X.fs [] H H' s.heap h')(bX:ku X.prog X.w H' h'):Inv X pins σ H' { s with heap:=h',toks:=t' }:=by
 obtain⟨m,⟨o,es,ep,ho,r⟩,_⟩:=id I.loc;obtain⟨sl,hL⟩:=u.any ho I.free (by simp);exact I.step (g':=s.gens) (d':=s.drawn) (ch:=[]) (λ_ z=>nomatch z) (λb o _ hb _ e n=>u.keep b o e n hb (by simp)) (λb o _ hb _ e n=>u.slot b o e n hb (by simp)) (λb o _ e n=>u.free b o e n (by simp)) (λb o _ e=>u.there b o e (by simp)) u.nL u.rS u.sG (λm' hm=>by
  obtain⟨o',es',ep',ho',r'⟩:=hm;rw[ho] at ho';cases ho';exact⟨_,es',ep',hL,r'⟩) bX I.bare
theorem Inv.call{g':Array GenState}{t':Nat}{d':Drawn}{ch:List ν}(I:Inv X pins σ H s)(u:Un (tj X.stack) ch H H' s.heap h')(bX:ku X.prog X.w H' h')(hg:mj g')
  (uo:∀b∈ch,(b∈X.ex∨X.s₀.heap.objs.size≤b)/\b≠X.env.locals/\(∀x c,X.env.cells.lookup x=some c->c≠b)/\∀p∈X.pn++pins,p.1≠b):
  Inv X pins σ H' { s with heap:=h',gens:=g',drawn:=d',toks:=t' }:=by
 obtain⟨m,⟨o,es,ep,ho,r⟩,_⟩:=id I.loc;obtain⟨sl,hL⟩:=u.any ho I.free λz=>(uo _ z).2.1 rfl;exact I.step (ch:=ch) uo (λb o hL hb hc e n=>u.keep b o e n (λz=>(Ψ.mp (I.wW b z)).elim hL hb) hc) (λb o _ _ hc e n=>u.any e n hc) (λb o hc e n=>u.free b o e n hc) (λb o hc e=>u.there b o e hc) u.nL u.rS u.sG (λm' hm=>by
  obtain⟨o',es',ep',ho',r'⟩:=hm;rw[ho] at ho';cases ho';exact⟨_,es',ep',hL,r'⟩) bX hg
theorem Inv.turned{t':Nat}{it:ν}(I:Inv X pins σ H s)(k:∀b o,b≠it->s.heap.get? b=some o->h'.get? b=some o)(hn:H it=none)(hL:it≠X.env.locals)
  (h1:it∈X.ex∨X.s₀.heap.objs.size≤it) (h2:∀x c,X.env.cells.lookup x=some c->c≠it) (h3:∀p∈X.pn++pins,p.1≠it):Inv X pins σ H { s with heap:=h',toks:=t' }:=by
 have nit:∀b u,H b=some u->b≠it:=λb u e z=>by rw[z,hn] at e;cases e
 refine I.step (g':=s.gens) (d':=s.drawn) (ch:=[it]) (λb hb=>?_) (λb o _ _ hc e _=>k b o (λz=>hc (by simp[z])) e) (λb o _ _ hc e _=>⟨o.slots,k b o (λz=>hc (by simp[z])) e⟩) (λ_ _ _ _ n=>n)
  (λb o hc e=>⟨o,k b o (λz=>hc (by simp[z])) e⟩) (λ_ _ e=>e) (λ_ _ _ e=>e) (λb ps e=>⟨#[],by rw[e];simp⟩) (λm hm=>?_) (λb u e=>?_) I.bare
 ·have e:b=it:=by simpa using hb
  subst e;exact⟨h1,hL,h2,h3⟩
 ·obtain⟨o,es,ep,ho,r⟩:=hm;exact⟨o,es,ep,k _ o (di hL) ho,r⟩
 ·refine (I.bX b u e).sH (λc v hc q=>k c v ?_ q) (λ_ q=>q) λ_ _ q=>q;rcases hc with z|z
  ·rw[z];exact nit b u e
  ·exact nit c _ z
theorem Inv.tok(I:Inv X pins σ H s)(t:Nat):Inv X pins σ H { s with toks:=t }:=I.un (h':=s.heap) (t':=t) Un.refl I.bX
theorem Inv.kept{t':Nat}(I:Inv X pins σ H s)(k:∀b u,s.heap.get? b=some u->h'.get? b=some u):Inv X pins σ H { s with heap:=h',toks:=t' }:=I.un (Un.kept k) (I.bX.kept k)
theorem Inv.laid{a:ν}{o:HO}{t':Nat}(I:Inv X pins σ H s)(k:∀b u,s.heap.get? b=some u->h'.get? b=some u)(hp:s.heap.objs.size≤a)(new:fk X.prog X.w (upd H a o) h' a o):
  Inv X pins σ (upd H a o) { s with heap:=h',toks:=t' }:=I.un (Un.laid k hp (I.bX.fresh hp)) (I.bX.laid k hp new)
theorem Inv.write{x e:ν}{o:HO}{t':Nat}(I:Inv X pins σ H s)(mu:A5 (H x))(he:e=x∨H e=some (.own x))(k:∀b u,b≠e->s.heap.get? b=some u->h'.get? b=some u)(heo:∃u,h'.get? e=some u)
  (new:fk X.prog X.w (upd H x o) h' x o):Inv X pins σ (upd H x o) { s with heap:=h',toks:=t' }:=I.un (Un.write mu he k heo) (I.bX.write mu he k heo new)
theorem Inv.yD(I:Inv X pins σ H s)(h:∀p∈pins',s.heap.get? p.1=some p.2/\H p.1=none/\p.1≠X.env.locals/\p.1∉X.fs/\∀v,p.2.data≠.cell v):Inv X pins' σ H s:=
 ⟨I.ok,I.os,I.bare,I.base,I.loc,I.cell,I.free,I.nh,λp hp=>(aa.mp hp).elim (λz=>I.pin p (aD _ z)) (h p),I.bX,I.len⟩
theorem Je{N:List aG}(hN:N.Nodup){j:Nat}(a:N[i]?=some x)(b:N[j]?=some x):i=j:=by
 obtain⟨h1,e1⟩:=Γ.mp a;obtain⟨h2,e2⟩:=Γ.mp b;exact (List.getElem_inj hN).mp (e1.trans e2.symm)
theorem Jd{M:Model}{A:aQ}{E:ζ->η->Prop}{i:Nat}{x:aG}{v:V}{u:ζ}{Q:Unit->η->Prop}(I:Inv X pins σ H s)(hN:X.N.Nodup)(hi:X.N[i]?=some x)(hx:Loc X.env.scope x)(r:RelV v u)
  (h:∀s',Inv X pins (σ.set i (some v)) H s'->(∃a,Heap.SameBut a s.heap s'.heap/\(a=X.env.locals∨X.env.cells.lookup x=some a))->Q () s') (hf:X.fn x=true∨X.env.scope.names.lookup x=some .local:=by first|exact .inl rfl|exact .inr rfl|assumption):χ M A (storeName X.env x u) Q E s:=by
 obtain⟨m,hn,hl⟩:=id I.loc;have hcls:(X.env.scope.kind==.class||(X.env.scope.kind==.module&&X.env.locals != X.env.globals))=false:=by rw[I.ok.kind];rfl
 have hiσ:i<σ.length:=by rw[I.len];exact (Γ.mp hi).1
 have yc:=I.yc;have tracked:∀{a:ν} {h':Heap},(∃o,s.heap.get? a=some o/\H a=none)->Heap.SameBut a s.heap h'->ku X.prog X.w H h':=λ{a h'} ha hs b ob e=>by
  obtain⟨_,_,hfree⟩:=ha;refine (I.bX b ob e).sH (λc w' hc q=>(hs.2 c ?_).trans q) (λ_ q=>q) λ_ _ q=>q;rintro rfl;rcases hc with rfl|hc
  ·rw[hfree] at e;cases e
  ·rw[hfree] at hc;cases hc
 rcases hx with hk|hk
 ·refine wpAny_storeName_local hk hn (λh' hn' hs=>?_) hcls;obtain⟨oL,_,_,hoL,_⟩:=id hn;refine h _ ⟨I.ok,I.os,I.bare,⟨λb o e n hb hx=>?_,λb o e n hb hx=>?_,I.base.free,λb o e hx=>?_,I.base.nL,I.base.rS,I.base.sG⟩,⟨_,hn',λj y v' e1 e2 e3=>?_⟩,λy c e=>?_,I.free,I.nh,λp hp=>?_,tracked ⟨oL,hoL,I.free⟩ hs,by simpa using I.len⟩ ⟨_,hs,.inl rfl⟩
  ·exact (hs.2 b (aV (bw (Heap.lt_size e) I.ok.above))).trans (I.base.keep b o e n hb hx)
  ·obtain⟨sl,e1⟩:=I.base.slot b o e n hb hx;exact⟨sl,(hs.2 b (aV (bw (Heap.lt_size e) I.ok.above))).trans e1⟩
  ·obtain⟨o',e1⟩:=I.base.there b o e hx;exact⟨o',(hs.2 b (aV (bw (Heap.lt_size e) I.ok.above))).trans e1⟩
  ·by_cases hj:j=i
   ·subst hj;rw[hi] at e1;cases e1;rw[lB hiσ] at e2;cases e2;exact⟨u,r,.inl ⟨hk,by simp⟩⟩
   ·rw[mK (di hj)] at e2;obtain⟨u',r',q⟩:=hl j y v' e1 e2 e3;refine⟨u',r',?_⟩;rcases q with⟨k,e⟩|⟨k,c,e,z⟩
    ·refine .inl ⟨k,?_⟩;have:y≠x:=λe=>hj (Je hN e1 (e▸hi));simp[this,e]
    ·exact .inr ⟨k,c,e,z.sameBut hs (yc y c e)⟩
  ·obtain⟨w',z⟩:=I.cell y c e;exact⟨w',z.sameBut hs (yc y c e)⟩
  ·obtain⟨e,n,ne,nf,d⟩:=I.pin p hp;exact⟨(hs.2 p.1 ne).trans e,n,ne,nf,d⟩
 ·have hfn:X.fn x=true:=by
   rcases hf with z|z
   ·exact z
   ·rw[z] at hk;cases hk
  obtain⟨c,hc⟩:=I.ok.has x (.inl hk);obtain⟨w',z⟩:=I.cell x c hc;refine wpAny_storeName_cell I.ok.kind hk hc z (λh' hc' hs=>?_);obtain⟨oc,hoc,hocd⟩:=id z;refine h { s with heap:=h' } ⟨I.ok,I.os,I.bare,⟨λb o e n hb hx=>?_,λb o e n hb hx=>?_,I.base.free,λb o e hx=>?_,I.base.nL,I.base.rS,I.base.sG⟩,⟨m,hn.sameBut hs (di (yc x c hc)),λj y v' e1 e2 e3=>?_⟩,λy c' e=>?_,I.free,I.nh,λp hp=>?_,tracked ⟨oc,hoc,I.nh x c hc⟩ hs,by simpa using I.len⟩ ⟨c,hs,.inr hc⟩
  ·exact (hs.2 b (aV (bw (Heap.lt_size e) (I.ok.yN x c hfn hc)))).trans (I.base.keep b o e n hb hx)
  ·obtain⟨sl,e1⟩:=I.base.slot b o e n hb hx;exact⟨sl,(hs.2 b (aV (bw (Heap.lt_size e) (I.ok.yN x c hfn hc)))).trans e1⟩
  ·obtain⟨o',e1⟩:=I.base.there b o e hx;exact⟨o',(hs.2 b (aV (bw (Heap.lt_size e) (I.ok.yN x c hfn hc)))).trans e1⟩
  ·by_cases hj:j=i
   ·subst hj;rw[hi] at e1;cases e1;rw[lB hiσ] at e2;cases e2;exact⟨u,r,.inr ⟨.inl hk,c,hc,hc'⟩⟩
   ·rw[mK (di hj)] at e2;obtain⟨u',r',q⟩:=hl j y v' e1 e2 e3;refine⟨u',r',?_⟩;rcases q with q|⟨k,c',e,z'⟩
    ·exact .inl q
    ·refine .inr ⟨k,c',e,z'.sameBut hs ?_⟩;rintro rfl;exact hj (Je hN e1 (I.ok.inj _ _ _ e hc▸hi))
  ·by_cases hcc:c'=c
   ·subst hcc;exact⟨_,hc'⟩
   ·obtain⟨w2,z2⟩:=I.cell y c' e;exact⟨w2,z2.sameBut hs hcc⟩
  ·obtain⟨e,n,ne,nf,d⟩:=I.pin p hp;refine⟨(hs.2 p.1 ?_).trans e,n,ne,nf,d⟩;intro q;rw[q,hoc] at e;have q':oc=p.2:=aL e;exact d w' (by rw[←q'];exact hocd)
theorem CB(I:Inv X pins σ H s)(hN:X.N.Nodup)(hi:X.N[i]?=some x)(hx:Loc X.env.scope x)(r:RelV v u)
  (h:∀s',Inv X pins (σ.set i (some v)) H s'->Q () s') (hf:X.fn x=true∨X.env.scope.names.lookup x=some .local:=by first|exact .inl rfl|exact .inr rfl|assumption):χ M A (storeName X.env x u) Q E s:=
 Jd I hN hi hx r (λs' I' _=>h s' I') hf
theorem Inv.KO{s':η}{ch:List ν}(I:Inv X pins σ H s)(ho:s'.os=s.os)(u:Un (tj X.stack) ch H H' s.heap s'.heap)(bX:ku X.prog X.w H' s'.heap)(hg:mj s'.gens)
  (uo:∀b∈ch,(b∈X.ex∨X.s₀.heap.objs.size≤b)/\b≠X.env.locals/\(∀x c,X.env.cells.lookup x=some c->c≠b)/\∀p∈X.pn++pins,p.1≠b):Inv X pins σ H' s':=by
 obtain⟨h',g',d',t',o'⟩:=s';have e:o'=s.os:=ho;subst e;exact I.call (g':=g') (t':=t') (d':=d') u bX hg uo
end
abbrev XK:=ζ->Option ν->Hp->Prop
abbrev St:=List (Option V)
abbrev VK:=V->Hp->Prop
abbrev TE:=St->Hp->VK->Prop
abbrev TT:=St->Hp->(Bool->Hp->Prop)->Prop
abbrev TA:=St->Hp->(List V->Hp->Prop)->Prop
structure Ends where
 nx:St->Hp->Prop
 rt:VK
 bk:St->Hp->Prop:=λ_ _=>False
 ct:St->Hp->Prop:=λ_ _=>False
abbrev TS:=Ends->St->Hp->Prop
def EP(X:Cx)(pins:List (ν×bT))(σ:St)(Q:VK)(u:ζ)(s':η):Prop:=∃v H',Inv X pins σ H' s'/\RelV v u/\Q v H'
def TP(X:Cx)(pins:List (ν×bT))(σ:St)(Q:Bool->Hp->Prop)(b:Bool)(s':η):Prop:=∃H',Inv X pins σ H' s'/\Q b H'
def AP(X:Cx)(pins:List (ν×bT))(σ:St)(Q:List V->Hp->Prop)(us:List ζ)(s':η):Prop:=∃vs H',Inv X pins σ H' s'/\bq vs us/\Q vs H'
def SP(X:Cx)(pins:List (ν×bT))(D:Ends)(f:Flow)(s':η):Prop:=
 match f with
 |.next=>∃σ' H',Inv X pins σ' H' s'/\D.nx σ' H'
 |.brk=>∃σ' H',Inv X pins σ' H' s'/\D.bk σ' H'
 |.cont=>∃σ' H',Inv X pins σ' H' s'/\D.ct σ' H'
 |.ret u=>∃v σ' H',Inv X pins σ' H' s'/\RelV v u/\D.rt v H'
def PE(X:Cx)(e:aT)(t:TE):Prop:=
 ∀(pins:List (ν×bT)) (s:η) (σ:St) (H:Hp) (Q:VK),Inv X pins σ H s->t σ H Q->χ (model X.prog X.w) X.A (eval e X.env) (EP X pins σ Q) X.xe s
def PT(X:Cx)(e:aT)(t:TT):Prop:=
 ∀(pins:List (ν×bT)) (s:η) (σ:St) (H:Hp) (Q:Bool->Hp->Prop),Inv X pins σ H s->t σ H Q->χ (model X.prog X.w) X.A (isTrue e X.env (eval e X.env)) (TP X pins σ Q) X.xe s
def PW(X:Cx)(e:aT)(t:TT):Prop:=
 ∀(whole:Sem ζ) (pins:List (ν×bT)) (s:η) (σ:St) (H:Hp) (Q:Bool->Hp->Prop),Inv X pins σ H s->t σ H Q->χ (model X.prog X.w) X.A (isTrue e X.env whole) (TP X pins σ Q) X.xe s
theorem PW.pt(h:PW X e t):PT X e t:=h _
def PA(X:Cx)(es:List aT)(t:TA):Prop:=
 ∀(pos:d9) (pins:List (ν×bT)) (s:η) (σ:St) (H:Hp) (Q:List V->Hp->Prop),Inv X pins σ H s->t σ H Q->χ (model X.prog X.w) X.A (spliced (backTo pos (bP es X.env))) (AP X pins σ Q) X.xe s
def PS(X:Cx)(st:iz)(t:TS):Prop:=
 ∀(pins:List (ν×bT)) (s:η) (σ:St) (H:Hp) (D:Ends),Inv X pins σ H s->t D σ H->χ (model X.prog X.w) X.A (exec st X.env) (SP X pins D) X.xe s
def oq(X:Cx)(st:List iz)(t:TS):Prop:=
 ∀(pins:List (ν×bT)) (s:η) (σ:St) (H:Hp) (D:Ends),Inv X pins σ H s->t D σ H->χ (model X.prog X.w) X.A (execs st X.env) (SP X pins D) X.xe s
theorem bN{α:Type}{t:Sem α}{Q Q':α->η->Prop}{M:Model}{A:aQ}{E:ζ->η->Prop}{s:η}(h:χ M A t Q E s)(hQ:∀a s,Q a s->Q' a s):χ M A t Q' E s:=eY h hQ λ_ _ x=>x
section
variable {X:Cx}
theorem bin{a b:aT}{ta tb:TE}(ha:PE X a ta)(hb:PE X b tb){pins:List (ν×bT)}{s:η}{σ:St}{H:Hp}{R:V->V->Hp->Prop}(I:Inv X pins σ H s)(h:ta σ H λx H1=>tb σ H1 λy H2=>R x y H2)
  {α:Type} {Q:α->η->Prop} {f:ζ->ζ->Sem α}
  (hf:∀v u s2 x y H2,Inv X pins σ H2 s2->RelV x v->RelV y u->R x y H2->χ (model X.prog X.w) X.A (f v u) Q X.xe s2):
  χ (model X.prog X.w) X.A (eval a X.env) (λv s₁=>χ (model X.prog X.w) X.A (eval b X.env) (λu s₂=>χ (model X.prog X.w) X.A (f v u) Q X.xe s₂) X.xe s₁) X.xe s:=by
 refine bN (ha pins s σ H _ I h) λv s1 zz=>?_;obtain⟨x,H1,I1,r1,q1⟩:=zz;refine bN (hb pins s1 σ H1 _ I1 q1) λu s2 zz=>?_;obtain⟨y,H2,I2,r2,q2⟩:=zz;exact hf v u s2 x y H2 I2 r1 r2 q2
def yS(i:Nat):TE:=λσ H Q=>∃v,σ[i]?=some (some v)/\Q v H
def tC(v:V):TE:=λ_ H Q=>Q v H
theorem Vs(hN:X.N[i]?=some x)(hv:Dz X.env.scope x)(hd:(x==("__debug__":aG))=false:=by decide)(qb:(x==("__classdict__":aG))=false:=by decide):PE X (.Name x pos) (yS i):=by
 intro pins s σ H Q I h;obtain⟨v,e,h⟩:=h;obtain⟨m,hn,hl⟩:=I.loc;obtain⟨u,r,l⟩:=hl i x v hN e hv;have fin:EP X pins σ Q u s:=⟨v,H,I,r,h⟩;rcases l with⟨hk,hm⟩|⟨hk,c,hc,hcell⟩
 ·exact wpAny_Name (wpAny_loadName_local I.ok.kind hk hn hm fin) hd
 ·rcases hk with hk|hk
  ·exact wpAny_Name (wpAny_loadName_cell I.ok.kind hk hc hcell fin) hd
  ·exact wpAny_Name (wpAny_loadName_free I.ok.kind hk hc hcell fin qb) hd
theorem Jc:PE X (.Constant (.int i) j pos) (tC (.int i)):=λ_ _ _ H _ I h=>wpAny_Constant_int ⟨.int i,H,I.tok _,⟨_,rfl⟩,h⟩
theorem Vr:PE X (.Constant (.bool b) j pos) (tC (.bl b)):=λ_ _ _ H _ I h=>Constant_bool ⟨.bl b,H,I,rfl,h⟩
theorem Vq:PE X (.Constant .none j pos) (tC .aE):=λ_ _ _ H _ I h=>Constant_none ⟨.aE,H,I,rfl,h⟩
def Gl(X:Cx)(x:aG):Prop:=X.env.kindOf x=some .globalImplicit
theorem Jo(I:Inv X pins σ H s)(hg:Gl X x)(hm:X.mg x=some u)(h:Q u s)
  (hd:(x==("__debug__":aG))=false:=by decide):χ (model X.prog X.w) X.A (eval (.Name x pos) X.env) Q E s:=
 nY I.ok.kind hg (Calls.loadGlobal_global (by rw[I.ok.glob];exact I.mod.glob.keeps I.bk) hm h) hd
theorem sS(I:Inv X pins σ H s)(hg:Gl X x)(hm:X.mg x=none)(hv:jj x=some u)(h:Q u s)
  (hn:x≠"__name__":=by decide) (hd:(x==("__debug__":aG))=false:=by decide):χ (model X.prog X.w) X.A (eval (.Name x pos) X.env) Q E s:=by
 obtain⟨mb,h1,h2⟩:=I.mod.blt;exact nY I.ok.kind hg (Calls.loadGlobal_builtin (by rw[I.ok.glob];exact I.mod.glob.keeps I.bk) hm (by rw[I.ok.blt];exact h1.keeps I.bk) ((h2 x hn).trans hv) h) hd
theorem Vp{x:aG}{v:V}{u:ζ}{pos:d9}(hg:Gl X x)(hm:X.mg x=some u)(r:RelV v u)(hd:(x==("__debug__":aG))=false:=by decide):PE X (.Name x pos) (tC v):=
 λ_ _ _ H _ I h=>Jo I hg hm ⟨v,H,I,r,h⟩ hd
theorem Vo(hg:Gl X x)(hm:X.mg x=none)(hv:jj x=some u)(r:RelV v u)(hn:x≠"__name__":=by decide)(hd:(x==("__debug__":aG))=false:=by decide):PE X (.Name x pos) (tC v):=
 λ_ _ _ H _ I h=>sS I hg hm hv ⟨v,H,I,r,h⟩ hn hd
variable {a b:aT} {ta tb:TE} {pos:d9}
variable {tA tB':TT} {rest:List aT}
def LW(t u:TT):TT:=λσ H Q=>t σ H λc H1=>if c=true then u σ H1 Q else Q false H1
def ZO(t u:TT):TT:=λσ H Q=>t σ H λc H1=>if c=true then Q true H1 else u σ H1 Q
def LP(t:TT):TT:=λσ H Q=>t σ H λc H1=>Q (!c) H1
theorem pw_and1(ha:PT X a tA):PW X (.BoolOp .And [a] pos) tA:=by
 intro wh pins s σ H Q I h;refine isTrue_and (bN (ha pins s σ H Q I h) λc s1 e=>?_);cases c with
 |true=>exact isTrue_and_nil e
 |false=>exact e
theorem pw_or1(ha:PT X a tA):PW X (.BoolOp .Or [a] pos) tA:=by
 intro wh pins s σ H Q I h;refine isTrue_or (bN (ha pins s σ H Q I h) λc s1 e=>?_);cases c with
 |false=>exact isTrue_or_nil e
 |true=>exact e
theorem pw_and(ha:PT X a tA)(hb:PW X (.BoolOp .And (b::rest) pos) tB'):PW X (.BoolOp .And (a::b::rest) pos) (LW tA tB'):=by
 intro wh pins s σ H Q I h;refine isTrue_and (bN (ha pins s σ H _ I h) λc s1 zz=>?_);obtain⟨H1,I1,q1⟩:=zz;cases c with
 |true=>exact hb wh pins s1 σ H1 Q I1 q1
 |false=>exact⟨H1,I1,q1⟩
theorem pw_or(ha:PT X a tA)(hb:PW X (.BoolOp .Or (b::rest) pos) tB'):PW X (.BoolOp .Or (a::b::rest) pos) (ZO tA tB'):=by
 intro wh pins s σ H Q I h;refine isTrue_or (bN (ha pins s σ H _ I h) λc s1 zz=>?_);obtain⟨H1,I1,q1⟩:=zz;cases c with
 |true=>exact⟨H1,I1,q1⟩
 |false=>exact hb wh pins s1 σ H1 Q I1 q1
theorem Vn(ha:PT X a tA):PT X (.UnaryOp .Not a pos) (LP tA):=by
 intro pins s σ H Q I h;exact isTrue_not (ha pins s σ H (λc H1=>Q (!c) H1) I h)
def Ko(ta tb:TE):TE:=λσ H Q=>ta σ H λx H1=>∃c,x=.bl c/\if c=true then tb σ H1 Q else Q (.bl false) H1
def Ki(ta:TE):TE:=λσ H Q=>ta σ H λx H1=>∃c,x=.bl c/\Q (.bl (!c)) H1
theorem Vm(h:PE X a t):PE X (.BoolOp op [a] pos) t:=λpins s σ H Q I hw=>BoolOp_one (h pins s σ H Q I hw)
theorem Vl(ha:PE X a ta)(hb:PE X (.BoolOp .And (b::rest) pos) tb):PE X (.BoolOp .And (a::b::rest) pos) (Ko ta tb):=by
 intro pins s σ H Q I h;refine BoolOp_and (bN (ha pins s σ H _ I h) λv s1 zz=>?_);obtain⟨x,H1,I1,r1,q1⟩:=zz;obtain⟨c,rfl,q1⟩:=q1;cases r1;refine fV ?_;cases c with
 |true=>exact hb pins s1 σ H1 Q I1 q1
 |false=>exact⟨.bl false,H1,I1,rfl,q1⟩
theorem VJ(ha:PE X a ta):PE X (.UnaryOp .Not a pos) (Ki ta):=by
 intro pins s σ H Q I h;refine UnaryOp_ (bN (ha pins s σ H _ I h) λv s1 zz=>?_);obtain⟨x,H1,I1,r1,q1⟩:=zz;obtain⟨c,rfl,q1⟩:=q1;cases r1;exact not_of (fV ⟨.bl (!c),H1,I1,rfl,q1⟩)
def ZP(t:TT)(ta tb:TE):TE:=λσ H Q=>t σ H λc H1=>if c=true then ta σ H1 Q else tb σ H1 Q
theorem VI(hc:PT X c tA)(ha:PE X a ta)(hb:PE X b tb):PE X (.IfExp c a b pos) (ZP tA ta tb):=by
 intro pins s σ H Q I h;refine wpAny_IfExp (bN (hc pins s σ H _ I h) λd s1 zz=>?_);obtain⟨H1,I1,q1⟩:=zz;cases d with
 |true=>exact ha pins s1 σ H1 Q I1 q1
 |false=>exact hb pins s1 σ H1 Q I1 q1
end
def fw(K:PySem.W.Frag)(H:Hp)(a:ν)(xs:List V):Prop:=
 Rd H a (.lst xs) ∨
  ∃(o:bT) (its:Array ζ) (n:Nat),K.lookup a=some o/\o.cls=.type "list"/\o.dict=none/\o.data=.seq its n/\its.size≤aA/\bq xs its.toList
def cR(K:PySem.W.Frag)(H:Hp)(a:ν)(xs:List V):Prop:=
 Rd H a (.tup xs) ∨
  ∃(o:bT) (its:Array ζ) (n:Nat),K.lookup a=some o/\o.cls=.type "tuple"/\o.dict=none/\o.data=.seq its n/\its.size≤aA/\bq xs its.toList
def ZI:ζ->Option V
 |.none=>some .aE
 |.bool b=>some (.bl b)
 |.int i _=>some (.int i)
 |.str x _=>some (.str x)
 |.bytes b _=>some (.A3 b)
 |.float b _=>some (.JX b)
 |.ref a=>some (.ref a)
 |.type n=>some (.ty n)
 |_=>none
theorem RelV.abs(r:RelV x u):ZI u=some x:=by
 cases x with
 |aE=>cases r;rfl
 |bl _=>cases r;rfl
 |int _=>obtain⟨t,rfl⟩:=r;rfl
 |str _=>obtain⟨t,rfl⟩:=r;rfl
 |A3 _=>obtain⟨t,rfl⟩:=r;rfl
 |JX _=>obtain⟨t,rfl⟩:=r;rfl
 |ref _=>cases r;rfl
 |ty _=>cases r;rfl
theorem RelV.inj(r:RelV x u)(q:RelV y u):x=y:=aL (r.abs.symm.trans q.abs)
theorem bq.inj:∀{xs ys:List V} {us:List ζ},bq xs us->bq ys us->xs=ys
 |_,_,_,.nil,.nil=>rfl
 |_,_,_,.cons r t,.cons r' t'=>by rw[r.inj r',bq.inj t t']
section
variable {X:Cx} {pins:List (ν×bT)} {σ:St} {H:Hp} {s:η} {a:ν} {xs ys:List V}
theorem fw.of{K:PySem.W.Frag}(h:H a=some (.lst xs)):fw K H a xs:=.inl (.inl h)
theorem cR.of{K:PySem.W.Frag}(h:H a=some (.tup xs)):cR K H a xs:=.inl (.inl h)
theorem Inv.list(I:Inv X pins σ H s)(h:fw X.K H a xs):∃its:List ζ,bq xs its/\PlainL s.heap a its.toArray/\xs.length≤aA:=by
 rcases h with h|⟨o,its,n,hk,hc,hd,hs,hz,r⟩
 ·obtain⟨z,its,n,r,e⟩:=h.ok I.bX;exact⟨its,r,⟨_,n,e,rfl,rfl,rfl⟩,z⟩
 ·refine⟨its.toList,r,⟨o,n,I.oi a o hk,hc,hd,by simpa using hs⟩,?_⟩;have e:=r.length;simp only[aK] at e;lia
theorem Inv.tuple(I:Inv X pins σ H s)(h:cR X.K H a xs):∃its:List ζ,bq xs its/\gK s.heap a its.toArray/\xs.length≤aA:=by
 rcases h with h|⟨o,its,n,hk,hc,_,hs,hz,r⟩
 ·obtain⟨z,its,r,p⟩:=h.ok I.bX;exact⟨its,r,p.tup,z⟩
 ·refine⟨its.toList,r,⟨o,I.oi a o hk,hc,n,by simpa using hs⟩,?_⟩;have e:=r.length;simp only[aK] at e;lia
theorem Inv.xR(I:Inv X pins σ H s)(h:fw X.K H a xs)(h':fw X.K H a ys):xs=ys:=by
 obtain⟨its,r,⟨o,n,e,_,_,d⟩,_⟩:=I.list h;obtain⟨its',r',⟨o',n',e',_,_,d'⟩,_⟩:=I.list h';rw[e] at e';cases e';rw[d] at d';injection d' with d1 _
 have:its=its':=by simpa using congrArg pT d1
 subst this;exact r.inj r'
theorem Inv.wu(I:Inv X pins σ H s)(h:cR X.K H a xs)(h':cR X.K H a ys):xs=ys:=by
 obtain⟨its,r,⟨o,e,_,n,d⟩,_⟩:=I.tuple h;obtain⟨its',r',⟨o',e',_,n',d'⟩,_⟩:=I.tuple h';rw[e] at e';cases e';rw[d] at d';injection d' with d1 _
 have:its=its':=by simpa using congrArg pT d1
 subst this;exact r.inj r'
end
abbrev Cx.qr(X:Cx)(E:ζ->η->Prop):Cx:={ X with xe:=E }
abbrev Cx.yE(X:Cx):Cx:=X.qr λ_ _=>False
theorem Cx.Ok.qr{X:Cx}(ok:X.Ok)(E:ζ->η->Prop):(X.qr E).Ok:=
 ⟨ok.mod,ok.kind,ok.glob,ok.blt,ok.above,ok.inj,ok.has,ok.yN,ok.hd,ok.frames,ok.AH,ok.AZ,ok.bs,ok.vA,ok.uN,ok.we,ok.nP,ok.xZ⟩
theorem Cx.Ok.nu{X:Cx}(ok:(X.qr E).Ok):X.Ok:=
 ⟨ok.mod,ok.kind,ok.glob,ok.blt,ok.above,ok.inj,ok.has,ok.yN,ok.hd,ok.frames,ok.AH,ok.AZ,ok.bs,ok.vA,ok.uN,ok.we,ok.nP,ok.xZ⟩
section
variable {X:Cx} {pins:List (ν×bT)} {σ:St} {H:Hp} {s:η} {E:ζ->η->Prop}
theorem Inv.qr(I:Inv X pins σ H s)(E:ζ->η->Prop):Inv (X.qr E) pins σ H s:=⟨I.ok.qr E,I.os,I.bare,I.base,I.loc,I.cell,I.free,I.nh,I.pin,I.bX,I.len⟩
theorem Inv.nu(I:Inv (X.qr E) pins σ H s):Inv X pins σ H s:=⟨I.ok.nu,I.os,I.bare,I.base,I.loc,I.cell,I.free,I.nh,I.pin,I.bX,I.len⟩
theorem SP.nu(h:SP (X.qr E) pins D f s'):SP X pins D f s':=by
 cases f with
 |next=>obtain⟨σ',H',I,q⟩:=h;exact⟨σ',H',I.nu,q⟩
 |brk=>obtain⟨σ',H',I,q⟩:=h;exact⟨σ',H',I.nu,q⟩
 |cont=>obtain⟨σ',H',I,q⟩:=h;exact⟨σ',H',I.nu,q⟩
 |ret u=>obtain⟨v,σ',H',I,r,q⟩:=h;exact⟨v,σ',H',I.nu,r,q⟩
theorem oq.yE{st:List iz}(h:oq X.yE st t):oq X st t:=λpins s σ H D I hw=>
 eY (h pins s σ H D (I.qr _) hw) (λ_ _ q=>q.nu) λ_ _ z=>g7 z
end
section
variable {X:Cx} {st:iz} {rest:List iz} {t u:TS} {e:aT} {te:TE} {pos:d9}
def Kj:TS:=λD σ H=>D.nx σ H
def LN(t u:TS):TS:=λD σ H=>t { D with nx:=u D } σ H
theorem VH:oq X [] Kj:=λ_ _ σ H _ I h=>mE ⟨σ,H,I,h⟩
theorem VG(h1:PS X st t)(h2:oq X rest u):oq X (st::rest) (LN t u):=by
 intro pins s σ H D I h;refine wpAny_execs_cons (bN (h1 pins s σ H { D with nx:=u D } I h) λf s1 q=>?_);cases f with
 |next=>
  obtain⟨σ',H',I',q⟩:=q;exact h2 pins s1 σ' H' D I' q
 |ret v=>exact q
 |brk=>exact q
 |cont=>exact q
theorem VF(h1:PS X st t):oq X [st] t:=by
 intro pins s σ H D I h;refine wpAny_execs_cons (bN (h1 pins s σ H D I h) λf s1 q=>?_);cases f with
 |next=>exact mE q
 |ret v=>exact q
 |brk=>exact q
 |cont=>exact q
theorem Inv.quiet{pins:List (ν×bT)}{σ:St}{H:Hp}{s:η}(I:Inv X pins σ H s):interactive X.env=false:=by simp[interactive,I.ok.kind]
def Kk(te:TE):TS:=λD σ H=>te σ H λ_ H1=>D.nx σ H1
theorem VE(he:PE X e te)(hs:swapsWith e none pos.line X.env=pure false:=by rfl):PS X (.Expr e pos) (Kk te):=by
 intro pins s σ H D I h;exact wpAny_Expr_any (bN (he pins s σ H _ I h) λv s1 zz=>by obtain⟨x,H1,I1,r1,q1⟩:=zz;exact⟨σ,H1,I1,q1⟩) I.quiet hs
def LO(te:TE):TS:=λD σ H=>te σ H D.rt
theorem VD(he:PE X e te):PS X (.Return (some e) pos) (LO te):=by
 intro pins s σ H D I h;exact wpAny_Return_some (bN (he pins s σ H _ I h) λv s1 zz=>by obtain⟨x,H1,I1,r1,q1⟩:=zz;exact⟨x,σ,H1,I1,r1,q1⟩)
def LS(c:TT)(t u:TS):TS:=λD σ H=>c σ H λb H1=>if b=true then t D σ H1 else u D σ H1
theorem VC(hc:PT X c tc)(ha:oq X a t)(hb:oq X b u):PS X (.If c a b pos) (LS tc t u):=by
 intro pins s σ H D I h;refine wpAny_If (bN (hc pins s σ H _ I h) λd s1 zz=>?_);obtain⟨H1,I1,q1⟩:=zz;cases d with
 |true=>exact ha pins s1 σ H1 D I1 q1
 |false=>exact hb pins s1 σ H1 D I1 q1
def DV:TS:=λ_ _ _=>False
theorem VB:PS X st DV:=λ_ _ _ _ _ _ h=>h.elim
end
abbrev TG:=V->St->Hp->(St->Hp->Prop)->Prop
abbrev yQ:=List V->St->Hp->(St->Hp->Prop)->Prop
def PG(X:Cx)(target:aT)(t:TG):Prop:=
 ∀(pins:List (ν×bT)) (s:η) (σ:St) (H:Hp) (v:V) (u:ζ) (Q:St->Hp->Prop),Inv X pins σ H s->RelV v u->t v σ H Q ->
  χ (model X.prog X.w) X.A (assign target X.env u) (λ_ s'=>∃σ' H',Inv X pins σ' H' s'/\Q σ' H') X.xe s
def pC(X:Cx)(ts:List aT)(t:yQ):Prop:=
 ∀(pins:List (ν×bT)) (s:η) (σ:St) (H:Hp) (vs:List V) (us:List ζ) (Q:St->Hp->Prop),Inv X pins σ H s->bq vs us->t vs σ H Q ->
  χ (model X.prog X.w) X.A (assignInOrder ((assignEach ts X.env).map (·.2)) us) (λ_ s'=>∃σ' H',Inv X pins σ' H' s'/\Q σ' H') X.xe s
abbrev C0:=V->V->V->Hp->(Hp->Prop)->Prop
def C1(X:Cx)(t:C0):Prop:=
 ∀(pins:List (ν×bT)) (s:η) (σ:St) (H:Hp) (o i v:V) (ov iv u:ζ) (Q:Hp->Prop),Inv X pins σ H s->RelV o ov->RelV i iv->RelV v u->t o i v H Q ->
  χ (model X.prog X.w) X.A (setItem ov iv u) (λ_ s'=>∃H',Inv X pins σ H' s'/\Q H') X.xe s
abbrev DA:=V->V->Hp->VK->Prop
def DC(X:Cx)(op:Operator)(t:DA):Prop:=
 ∀(pins:List (ν×bT)) (s:η) (σ:St) (H:Hp) (x y:V) (v u:ζ) (Q:VK),Inv X pins σ H s->RelV x v->RelV y u->t x y H Q ->
  χ (model X.prog X.w) X.A (inplaceOp op v u) (EP X pins σ Q) X.xe s
section
variable {X:Cx} {pos:d9}
def Am(i:Nat):TG:=λv σ H Q=>Q (σ.set i (some v)) H
theorem VA(hN:X.N.Nodup)(hi:X.N[i]?=some x)(hx:Loc X.env.scope x)(hf:X.fn x=true∨X.env.scope.names.lookup x=some .local:=by first|exact .inl rfl|exact .inr rfl|assumption):PG X (.Name x pos) (Am i):=by
 intro pins s σ H v u Q I r h;exact wpAny_assign_Name (CB I hN hi hx r (λs' I'=>⟨_,H,I',h⟩) hf)
def Zy:yQ:=λvs σ H Q=>vs=[]/\Q σ H
def KE(t:TG)(u:yQ):yQ:=λvs σ H Q=>∃v r,vs=v::r/\t v σ H λσ' H'=>u r σ' H' Q
theorem Va:pC X [] Zy:=by
 intro pins s σ H vs us Q I r h;obtain⟨e,h⟩:=h;subst e;cases r;exact assignInOrder_nil ⟨σ,H,I,h⟩
theorem U9(h1:PG X e t)(h2:pC X es u)
  (hs:(assignEach (e::es) X.env).map (·.2)=assign e X.env::(assignEach es X.env).map (·.2):=by rfl):pC X (e::es) (KE t u):=by
 intro pins s σ H vs us Q I r h;obtain⟨v,vr,e1,h⟩:=h;subst e1;cases r with
 |cons r rr=>
  rw[hs];refine assignInOrder_cons (bN (h1 pins s σ H _ _ _ I r h) λ_ s1 zz=>?_);obtain⟨σ1,H1,I1,q1⟩:=zz;exact h2 pins s1 σ1 H1 _ _ Q I1 rr q1
def Zw(K:PySem.W.Frag)(n:Nat)(t:yQ):TG:=λv σ H Q=>∃a xs,v=.ref a/\cR K H a xs/\xs.length=n/\t xs σ H Q
theorem U8{k:Nat}(hc:X.calm=true)(h:pC X es t)
  (hn:(assignEach es X.env).length=n:=by rfl) (hst:(assignEach es X.env).findIdx? (·.1)=none:=by rfl):PG X (.Tuple es k pos) (Zw X.K n t):=by
 intro pins s σ H v u Q I r hw;obtain⟨a,xs,e1,hq,hl,hw⟩:=hw;subst e1;cases r;obtain⟨its,rv,ht,hz⟩:=I.tuple hq;refine assign_Tuple_tuple (I.ok.hd hc) ht (by simp[hn,←hl,rv.length]) hst λh' hx=>?_;have I1:Inv X pins σ H { s with heap:=h' }:=I.kept (t':=s.toks) λb o e=>hx b o (aV (Heap.lt_size e)) e
 exact h pins _ σ H xs _ Q I1 (by simpa using rv) hw
def Zx(to ti:TE)(t:C0):TG:=λv σ H Q=>to σ H λo H1=>ti σ H1 λi H2=>t o i v H2 λH3=>Q σ H3
theorem U7(ho:PE X o to)(hi:PE X i ti)(hs:C1 X t)
  (ha:∀v,assign (.Subscript o i pos) X.env v=(do
   let ov ←holding [v] (eval o X.env)
   let iv ←holding [v,ov] (eval i X.env)
   standAt pos
   holding [v,ov,iv] (setItem ov iv v)
   release [v,ov,iv] []):=by intro _;rfl):PG X (.Subscript o i pos) (Zx to ti t):=by
 intro pins s σ H v u Q I r h
 rw[ha]
 refine γ (bY (bN (ho pins s σ H _ I h) λov s1 zz=>?_))
 obtain⟨x,H1,I1,r1,q1⟩:=zz
 refine γ (bY (bN (hi pins s1 σ H1 _ I1 q1) λiv s2 zz=>?_))
 obtain⟨y,H2,I2,r2,q2⟩:=zz
 refine γ (si (γ (bY (bN (hs pins s2 σ H2 x y v ov iv u _ I2 r1 r2 r q2) λ_ s3 zz=>?_))))
 obtain⟨H3,I3,q3⟩:=zz
 exact wpAny_release ⟨σ,H3,I3,q3⟩
def Bb(te:TE)(g:TG):TS:=λD σ H=>te σ H λx H1=>g x σ H1 D.nx
theorem U6(he:PE X e te)(hg:PG X tg g)(hs:swapsWithSole [tg] e pos.line X.env=pure false:=by rfl)(hw:swappedStores [tg] e X.env=pure none:=by rfl)
  (h1:(assignEach [tg] X.env).map (·.2)=[assign tg X.env]:=by rfl):PS X (.Assign [tg] e pos) (Bb te g):=by
 intro pins s σ H D I h;refine wpAny_Assign_stores (bN (he pins s σ H _ I h) λv s1 zz=>?_) hs hw;obtain⟨x,H1,I1,r1,q1⟩:=zz;rw[h1];exact bN (hg pins s1 σ H1 x v _ I1 r1 q1) λ_ s2 q=>q
theorem U5{i:Nat}{x:aG}{e:aT}{te:TE}{pos':d9}(hN:X.N.Nodup)(hi:X.N[i]?=some x)(hx:Loc X.env.scope x)(he:PE X e te)(hs:swapsWith e (some (.Name x pos')) pos.line X.env=pure false:=by rfl)(hf:X.fn x=true∨X.env.scope.names.lookup x=some .local:=by first|exact .inl rfl|exact .inr rfl|assumption):
  PS X (.Assign [.Name x pos'] e pos) (Bb te (Am i)):=by
 intro pins s σ H D I h;refine wpAny_Assign_Name (bN (he pins s σ H _ I h) λv s1 zz=>?_) hs;obtain⟨y,H1,I1,r1,q1⟩:=zz;exact CB I1 hN hi hx r1 (λs2 I2=>⟨_,H1,I2,q1⟩) hf
def LV(i:Nat)(te:TE)(ti:DA):TS:=λD σ H=>∃x,σ[i]?=some (some x)/\te σ H λy H1=>ti x y H1 λz H2=>D.nx (σ.set i (some z)) H2
theorem U4(hN:X.N.Nodup)(hi:X.N[i]?=some x)(hx:Loc X.env.scope x)(he:PE X e te)(ho:DC X op ti)(hf:X.fn x=true∨X.env.scope.names.lookup x=some .local:=by first|exact .inl rfl|exact .inr rfl|assumption):
  PS X (.AugAssign (.Name x pos') op e pos) (LV i te ti):=by
 intro pins s σ H D I h;obtain⟨v,e1,h⟩:=h;obtain⟨m,hn,hl⟩:=I.loc;have vis:Dz X.env.scope x:=by rcases hx with k|k;exact .inl k;exact .inr (.inl k)
 obtain⟨u,r,l⟩:=hl i x v hi e1 vis;refine wpAny_AugAssign_Name ?_;have go:χ (model X.prog X.w) X.A (eval e X.env) (λw s₂=>χ (model X.prog X.w) X.A (inplaceOp op u w) (λr s₃=>χ (model X.prog X.w) X.A (storeName X.env x r) (λ_=>SP X pins D .next) X.xe s₃) X.xe s₂) X.xe s:=by
  refine bN (he pins s σ H _ I h) λw s1 zz=>?_;obtain⟨y,H1,I1,r1,q1⟩:=zz;refine bN (ho pins s1 σ H1 v y u w _ I1 r r1 q1) λz s2 zz=>?_;obtain⟨zv,H2,I2,r2,q2⟩:=zz;exact CB I2 hN hi hx r2 (λs3 I3=>⟨_,H2,I3,q2⟩) hf
 rcases l with⟨hk,hm⟩|⟨hk,c,hc,hcell⟩
 ·exact wpAny_loadName_local I.ok.kind hk hn hm go
 ·rcases hk with hk|hk
  ·exact wpAny_loadName_cell I.ok.kind hk hc hcell go
  ·rcases hx with k|k
   ·have:X.env.scope.names.lookup x=some .free:=hk;rw[k] at this;cases this
   ·have:X.env.scope.names.lookup x=some .free:=hk;rw[k] at this;cases this
def Km(to ti te:TE)(tget:V->V->Hp->VK->Prop)(tip:DA)(tset:C0):TS:=λD σ H=>to σ H λo H1=>ti σ H1 λi H2=>tget o i H2 λx H3=>te σ H3 λy H4=>tip x y H4 λz H5=>tset o i z H5 λH6=>D.nx σ H6
def Ka(X:Cx)(t:V->V->Hp->VK->Prop):Prop:=
 ∀(pins:List (ν×bT)) (s:η) (σ:St) (H:Hp) (o i:V) (ov iv:ζ) (Q:VK),Inv X pins σ H s->RelV o ov->RelV i iv->t o i H Q ->
  χ (model X.prog X.w) X.A (getItem ov iv) (EP X pins σ Q) X.xe s
theorem U3(ho:PE X o to)(hi:PE X i ti)(hg:Ka X tget)(he:PE X e te)(hp:DC X op tip)(hs:C1 X tset)
  (ha:∀ov iv new,augStore i ov iv new=(do holding [new,ov,iv] (setItem ov iv new);release [new,ov,iv] [];pure .next):=by intros;rfl):PS X (.AugAssign (.Subscript o i tpos) op e pos) (Km to ti te tget tip tset):=by
 intro pins s σ H D I h;refine wpAny_AugAssign_SubscriptAny (bN (ho pins s σ H _ I h) λov s1 zz=>?_) ha;obtain⟨x1,H1,I1,r1,q1⟩:=zz;refine bN (hi pins s1 σ H1 _ I1 q1) λiv s2 zz=>?_;obtain⟨x2,H2,I2,r2,q2⟩:=zz;refine bN (hg pins s2 σ H2 x1 x2 ov iv _ I2 r1 r2 q2) λold s3 zz=>?_;obtain⟨x3,H3,I3,r3,q3⟩:=zz;refine bN (he pins s3 σ H3 _ I3 q3) λv s4 zz=>?_;obtain⟨x4,H4,I4,r4,q4⟩:=zz;refine bN (hp pins s4 σ H4 x3 x4 old v _ I4 r3 r4 q4) λnew s5 zz=>?_;obtain⟨x5,H5,I5,r5,q5⟩:=zz;exact bN (hs pins s5 σ H5 x1 x2 x5 ov iv new _ I5 r1 r2 r5 q5) λ_ s6 zz=>by obtain⟨H6,I6,q6⟩:=zz;exact⟨σ,H6,I6,q6⟩
def K0(f:Int->Int->Int):DA:=λx y H Q=>∃i j,x=.int i/\y=.int j/\Q (.int (f i j)) H
theorem Jn:DC X .Add (K0 λi j=>i+j):=by
 intro pins s σ H x y v u Q I r1 r2 h;obtain⟨i,j,e1,e2,q⟩:=h;subst e1;subst e2;obtain⟨t,rfl⟩:=r1;obtain⟨t',rfl⟩:=r2;exact iadd_int ⟨.int _,H,I.tok _,⟨_,rfl⟩,q⟩
def DU(c:TT)(tb:TS):TS:=λD σ H=>∃W:Nat->St->Hp->Prop,(∃m,W m σ H)/\∀m σ H,W m σ H ->
 c σ H λb H1=>if b=true then ∃N:St->Hp->Prop,(∀σ' H',N σ' H'->∃m',m' < m/\W m' σ' H')/\tb { D with nx:=N,ct:=N,bk:=D.nx } σ H1 else D.nx σ H1
theorem U2(hp:qk (model X.prog X.w) X.A X.env X.xe)(hc:PT X c tc)(hb:oq X body tb):PS X (.While c body [] pos) (DU tc tb):=by
 intro pins s σ H D I h;obtain⟨W,⟨m0,w0⟩,turn⟩:=h;refine wpAny_While (codeAny_whileLoop (λn s'=>∃σ' H',Inv X pins σ' H' s'/\W n σ' H') ?_ m0 ⟨σ,H,I,w0⟩);rintro n s1 ⟨σ1,H1,I1,w1⟩;refine gH hp (bN (hc pins s1 σ1 H1 _ I1 (turn n σ1 H1 w1)) λb s2 zz=>?_);obtain⟨H2,I2,q2⟩:=zz;cases b with
 |true=>
  obtain⟨N,hN,q2⟩:=q2;rw[if_pos rfl];refine gH hp (bN (hb pins s2 σ1 H2 _ I2 q2) λf s3 q3=>?_);cases f with
  |next=>
   obtain⟨σ3,H3,I3,n3⟩:=q3;obtain⟨m',hm,w3⟩:=hN σ3 H3 n3;exact⟨m',hm,σ3,H3,I3,w3⟩
  |cont=>
   obtain⟨σ3,H3,I3,n3⟩:=q3;obtain⟨m',hm,w3⟩:=hN σ3 H3 n3;exact⟨m',hm,σ3,H3,I3,w3⟩
  |brk=>exact q3
  |ret v=>exact q3
 |false=>
  rw[if_neg af];exact mE ⟨σ1,H2,I2,q2⟩
end
structure It where
 go:Nat->Hp->Prop
 C4:Nat->Hp->V->Hp->Prop
 stop:Nat->Hp->Prop
def kv(X:Cx)(pins:List (ν×bT))(H:Hp)(b:ν):Prop:=
 H b=none/\b≠X.env.locals/\b∉X.fs/\(b∈X.ex∨X.s₀.heap.objs.size≤b)/\(∀x c,X.env.cells.lookup x=some c->c≠b)/\∀p∈X.pn++pins,p.1≠b
theorem Inv.rT(I:Inv X pins σ H s)(hb:s.heap.objs.size≤b)(hn:H' b=none):kv X pins H' b:=by
 refine⟨hn,bL (bw I.lt hb),I.Zh hb,.inr (aH I.sz hb),λx c e z=>?_,λp hp z=>?_⟩
 ·obtain⟨v,q⟩:=I.cell x c e;exact absurd (bw q.lt (by rw[z];exact hb)) (cA _)
 ·exact absurd (bw (Heap.lt_size (I.pin p hp).1) (by rw[z];exact hb)) (cA _)
structure Turn(P:ao)(w:aC)(K:PySem.W.Frag)(tg:aT)(J:It)(fp:List ν)(it:ν)(tn:Nat->Heap->Prop):Prop where
 mem:it∈fp
 obj:∀i h,tn i h->∀b∈fp,∃o,h.get? b=some o/\∀v,o.data≠.cell v
 keep:∀i h h',tn i h->(∀b∈fp,∀o,h.get? b=some o->h'.get? b=some o)->tn i h'
 item:∀(X:Cx),X.prog=P->X.w=w->X.K=K->X.calm=true->∀(i:Nat) (pins:List (ν×bT)) (s:η) (σ:St) (H:Hp) (E:ζ->η->Prop),Inv X pins σ H s->(∀b∈fp,kv X pins H b)->tn i s.heap->J.go i H ->
  χ (model P w) X.A (pyNext (.ref it)) (λr s1=>∃u,r=some u ∧
   χ (model P w) X.A (letOwnedTupleGo tg (.ref it) u) (λ_ s2=>∃x H',Inv X pins σ H' s2/\RelV x u/\J.C4 i H x H'/\tn (i+1) s2.heap/\∀b∈fp,H' b=none) E s1) E s
 done:∀(X:Cx),X.prog=P->X.w=w->X.K=K->X.calm=true->∀(i:Nat) (pins:List (ν×bT)) (s:η) (σ:St) (H:Hp) (E:ζ->η->Prop),Inv X pins σ H s->(∀b∈fp,kv X pins H b)->tn i s.heap->J.stop i H ->
  χ (model P w) X.A (pyNext (.ref it)) (λr s1=>r=none/\Inv X pins σ H s1) E s
 self:∀(A:aQ) (i:Nat) (s:η) (Q:ζ->η->Prop) (E:ζ->η->Prop),tn i s.heap->Q (.ref it) s->χ (model P w) A (pyIter (.ref it)) Q E s
abbrev TI:=St->Hp->(It->Hp->Prop)->Prop
def DD(X:Cx)(pins:List (ν×bT))(σ:St)(tg:aT)(R:It->Hp->Prop)(itv:ζ)(s2:η):Prop:=
 ∃(it:ν) (fp:List ν) (tn:Nat->Heap->Prop) (J:It) (H':Hp),itv=.ref it/\Inv X pins σ H' s2/\Turn X.prog X.w X.K tg J fp it tn/\tn 0 s2.heap/\(∀b∈fp,kv X pins H' b)/\R J H'
def PI(X:Cx)(tg iter:aT)(wi:TI):Prop:=
 ∀(pins:List (ν×bT)) (s:η) (σ:St) (H:Hp) (R:It->Hp->Prop),Inv X pins σ H s->wi σ H R ->
  χ (model X.prog X.w) X.A (eval iter X.env) (λv s1=>χ (model X.prog X.w) X.A (pyIter v) (DD X pins σ tg R) X.xe s1) X.xe s
theorem Ac{M:Model}{A:aQ}{E:ζ->η->Prop}{s:η}{tg:aT}{it:ν}{u:ζ}{o:bT}{n:String}{vs:Array ζ}{Q:Unit->η->Prop}(ho:s.heap.get? it=some o)(hc:o.cls=.type n)(hd:o.data=.fields vs)
    (hn:["enumerate","zip","dict_itemiterator","dict_reverseitemiterator","odict_iterator","itertools.zip_longest","itertools.pairwise"].contains n=false) (hQ:Q () s):χ M A (letOwnedTupleGo tg (.ref it) u) Q E s:=by
  unfold letOwnedTupleGo;cases tg<;>first
    |exact δ hQ
    | (cases u<;>first
        |exact δ hQ
        | (refine γ (oK ho ?_)
           rw[hc,hd];show χ M A (if (["enumerate","zip","dict_itemiterator","dict_reverseitemiterator","odict_iterator","itertools.zip_longest","itertools.pairwise"].contains n&&vs[0]?==some (rawInt _))=true then _ else _) Q E s;rw[if_neg (by intro h;rw[hn,ie] at h;cases h)];exact δ hQ))
def LJ(K:PySem.W.Frag)(a:ν):It:=
 ⟨λi H=>∃xs x,fw K H a xs/\xs[i]?=some x,λi H x H'=>H'=H/\∀xs,fw K H a xs->xs[i]?=some x,λi H=>∃xs,fw K H a xs/\xs.length≤i⟩
def LH(K:PySem.W.Frag)(a:ν):It:=
 ⟨λi H=>∃xs x,cR K H a xs/\xs[i]?=some x,λi H x H'=>H'=H/\∀xs,cR K H a xs->xs[i]?=some x,λi H=>∃xs,cR K H a xs/\xs.length≤i⟩
def A8(lo:Int)(n:Nat):It:=⟨λi _=>i<n,λi H x H'=>H'=H/\x=.int (lo+i),λi _=>n≤i⟩
theorem U1{K:PySem.W.Frag}(a it:ν):Turn P w K tg (LJ K a) [it] it (λi h=>h.IsListIter it a i) where
 mem:=by simp
 obj:=λi h st b hb=>by
  have e:b=it:=by simpa using hb
  subst e;obtain⟨o,e,c,d⟩:=st;exact⟨o,e,λv z=>by rw[d] at z;cases z⟩
 keep:=λi h h' st k=>st.at λo e=>k it (by simp) o e
 item:=by
  intro X hP hw hK hc i pins s σ H E I hf st hg;subst hP hw hK;obtain⟨xs,x,hq,hx⟩:=hg;obtain⟨its,rv,p,hz⟩:=I.list hq;obtain⟨u,hu,ru⟩:=rv.get hx;obtain⟨f0,f1,f2,f3,f4,f5⟩:=hf it (by simp);refine wpAny_pyNext_list_item st p.isList (x:=u) (by simpa using hu) λh' st' sb=>?_;have I1:Inv X pins σ H { s with heap:=h' }:=I.turned (t':=s.toks) (λb o hb e=>(sb.2 b hb).trans e) f0 f1 f3 f4 f5;obtain⟨o,e,c,d⟩:=id st';exact⟨u,rfl,Ac (s:={ s with heap:=h' }) e c d (by decide) ⟨x,H,I1,ru,⟨rfl,λys hy=>by rw[I.xR hy hq];exact hx⟩,st',λb hb=>(hf b hb).1⟩⟩
 done:=by
  intro X hP hw hK hc i pins s σ H E I hf st hg;subst hP hw hK;obtain⟨xs,hq,hx⟩:=hg;obtain⟨its,rv,p,hz⟩:=I.list hq;obtain⟨f0,f1,f2,f3,f4,f5⟩:=hf it (by simp);have hl:=rv.length;exact wpAny_pyNext_list_end (I.ok.hd hc) st p.isList (by simp;lia) λh' eb=>⟨rfl,I.turned (t':=s.toks) (λb o hb e=>eb b o hb e) f0 f1 f3 f4 f5⟩
 self:=λ_ _ _ _ _ st h=>wpAny_pyIter_listiter st h
theorem U0{K:PySem.W.Frag}(a it:ν):Turn P w K tg (LH K a) [it] it (λi h=>h.IsTupleIter it a i) where
 mem:=by simp
 obj:=λi h st b hb=>by
  have e:b=it:=by simpa using hb
  subst e;obtain⟨o,e,c,d⟩:=st;exact⟨o,e,λv z=>by rw[d] at z;cases z⟩
 keep:=λi h h' st k=>st.at λo e=>k it (by simp) o e
 item:=by
  intro X hP hw hK hc i pins s σ H E I hf st hg;subst hP hw hK;obtain⟨xs,x,hq,hx⟩:=hg;obtain⟨its,rv,p,hz⟩:=I.tuple hq;obtain⟨u,hu,ru⟩:=rv.get hx;obtain⟨f0,f1,f2,f3,f4,f5⟩:=hf it (by simp);refine wpAny_pyNext_tuple_item st (show s.heap.IsTuple a its.toArray from p) (x:=u) (by simpa using hu) λh' st' sb=>?_;have I1:Inv X pins σ H { s with heap:=h' }:=I.turned (t':=s.toks) (λb o hb e=>(sb.2 b hb).trans e) f0 f1 f3 f4 f5;obtain⟨o,e,c,d⟩:=id st';exact⟨u,rfl,Ac (s:={ s with heap:=h' }) e c d (by decide) ⟨x,H,I1,ru,⟨rfl,λys hy=>by rw[I.wu hy hq];exact hx⟩,st',λb hb=>(hf b hb).1⟩⟩
 done:=by
  intro X hP hw hK hc i pins s σ H E I hf st hg;subst hP hw hK;obtain⟨xs,hq,hx⟩:=hg;obtain⟨its,rv,p,hz⟩:=I.tuple hq;obtain⟨f0,f1,f2,f3,f4,f5⟩:=hf it (by simp);have hl:=rv.length;exact wpAny_pyNext_tuple_end (I.ok.hd hc) st (show s.heap.IsTuple a its.toArray from p) (by simp;lia) λh' eb=>⟨rfl,I.turned (t':=s.toks) (λb o hb e=>eb b o hb e) f0 f1 f3 f4 f5⟩
 self:=λ_ _ _ _ _ st h=>wpAny_pyIter_tupleiter st h
theorem UZ{K:PySem.W.Frag}(it:ν)(lo:Int)(n:Nat):Turn P w K tg (A8 lo n) [it] it (λi h=>IsRangeIter h it (lo+(i:Nat)*1) ((n:Int)-(i:Nat)) 1) where
 mem:=by simp
 obj:=λi h st b hb=>by
  have e:b=it:=by simpa using hb
  subst e;exact⟨_,st,λv z=>by
   have z':=z;cases z'⟩
 keep:=λi h h' st k=>k it (by simp) _ st
 item:=by
  intro X hP hw hK hc i pins s σ H E I hf st hg;subst hP hw hK;obtain⟨f0,f1,f2,f3,f4,f5⟩:=hf it (by simp);have W:=Walks.range (prog:=X.prog) (w:=X.w) (I.ok.hd hc) it lo 1 n;refine W.item i s _ _ hg st λv h' tk hv st' kk=>?_;obtain⟨t,rfl⟩:=hv;have I1:Inv X pins σ H { s with heap:=h',toks:=tk }:=I.turned (λb o hb e=>kk b o (by simpa using hb) e) f0 f1 f3 f4 f5;refine⟨_,rfl,Ac (s:={ s with heap:=h',toks:=tk }) (n:="range_iterator") st' rfl rfl (by decide) ⟨.int (lo+i),H,I1,⟨t,?_⟩,⟨rfl,rfl⟩,st',λb hb=>(hf b hb).1⟩⟩;rw[jR]
 done:=by
  intro X hP hw hK hc i pins s σ H E I hf st hg;obtain⟨f0,f1,f2,f3,f4,f5⟩:=hf it (by simp);exact wpAny_pyNext_range_end (I.ok.hd hc) st (by have:n≤i:=hg;lia) λh' eb=>⟨rfl,I.turned (t':=s.toks) (λb o hb e=>eb b o hb e) f0 f1 f3 f4 f5⟩
 self:=λ_ _ _ _ _ st h=>wpAny_pyIter_rangeiter st h
section
variable {X:Cx} {tg:aT}
theorem Jm{pins:List (ν×bT)}{σ:St}{H:Hp}{s:η}{R:It->Hp->Prop}{E:ζ->η->Prop}{lo hi:Int}{t u v:Tok}{tk:Nat}(I:Inv X pins σ H s)(h1:-(2^62)≤lo)(h2:lo<2^62)(h3:-(2^62)≤hi)(h4:hi<2^62)
  (q:R (A8 lo (hi-lo).toNat) H):χ (model X.prog X.w) X.A (pyIter (.ref s.heap.objs.size)) (DD X pins σ tg R) E { s with heap:=s.heap.push { cls:=.type "range",data:=.fields #[.int lo t,.int hi u,.int 1 v]},toks:=tk }:=by
 refine wpAny_pyIter_range (IsRange.new ..) (small_one h1 h2 h3 h4) ?_;have I1:Inv X pins σ H { s with heap:=s.heap.push { cls:=.type "range",data:=.fields #[.int lo t,.int hi u,.int 1 v]},toks:=tk }:=I.kept λb o e=>Heap.get?_push_of_some _ e;refine⟨(s.heap.push { cls:=.type "range",data:=.fields #[.int lo t,.int hi u,.int 1 v]}).objs.size,[(s.heap.push { cls:=.type "range",data:=.fields #[.int lo t,.int hi u,.int 1 v]}).objs.size],_,_,H,rfl,
  I1.kept (t':=tk) λb o e=>Heap.get?_push_of_some _ e,UZ _ lo (hi-lo).toNat,?_,λb hb=>?_,q⟩
 ·have e1:lo+((0:Nat):Int)*1=lo:=by simp
  have e2:(((hi-lo).toNat:Nat):Int)-((0:Nat):Int)=dO lo hi 1:=by rw[rangeSize_one];split<;>lia
  show IsRangeIter _ _ (lo+((0:Nat):Int)*1) ((((hi-lo).toNat:Nat):Int)-((0:Nat):Int)) 1;rw[e1,e2];exact Heap.get?_push_size _ rfl
 ·have e:b=(s.heap.push { cls:=.type "range",data:=.fields #[.int lo t,.int hi u,.int 1 v]}).objs.size:=by simpa using hb
  subst e;exact I1.rT (ρ _) (I1.bX.fresh (ρ _))
def p9(ta:TA):TI:=λσ H R=>ta σ H λvs H1=>∃j:Int,vs=[.int j]/\-(2^62)≤j/\j<2^62/\R (A8 0 j.toNat) H1
def p8(ta:TA):TI:=λσ H R=>ta σ H λvs H1=>∃i j:Int,vs=[.int i,.int j]/\(-(2^62)≤i/\i<2^62/\-(2^62)≤j/\j<2^62)/\R (A8 i (j-i).toNat) H1
theorem UY(hg:Gl X "range")(hm:X.mg "range" = none)(ha:PA X [a] ta)(hs:bP [a] X.env=[(false,eval a X.env)]:=by rfl):PI X tg (.Call (.Name "range" p) [a] [] pos) (p9 ta):=by
 intro pins s σ H R I h;refine Call_ (sS I hg hm boot_range (dJ (bN (ha pos pins s σ H _ I h) λus s1 zz=>?_) hs rfl));obtain⟨vs,H1,I1,r1,q1⟩:=zz;obtain⟨j,e,q1,q2,q⟩:=q1;subst e;cases r1 with
 |cons r rr=>
  cases rr;obtain⟨t,rfl⟩:=r;exact call_range_1 (Jm I1 (by lia) (by lia) q1 q2 (by simpa using q))
theorem UX(hg:Gl X "range")(hm:X.mg "range" = none)(ha:PA X [a,b] ta)(hs:bP [a,b] X.env=[(false,eval a X.env),(false,eval b X.env)]:=by rfl)(hs2:bP [b] X.env=[(false,eval b X.env)]:=by rfl):
  PI X tg (.Call (.Name "range" p) [a,b] [] pos) (p8 ta):=by
 intro pins s σ H R I h;refine Call_ (sS I hg hm boot_range (dJ (bN (ha pos pins s σ H _ I h) λus s1 zz=>?_) (by rw[hs,hs2]) (by rw[hs2];rfl)));obtain⟨vs,H1,I1,r1,q1⟩:=zz;obtain⟨i,j,e,⟨q1,q2,q3,q4⟩,q⟩:=q1;subst e;cases r1 with
 |cons r rr=>
  cases rr with
  |cons r' rr=>
   cases rr;obtain⟨t,rfl⟩:=r;obtain⟨t',rfl⟩:=r';exact call_range_2 (Jm I1 q1 q2 q3 q4 q)
def LU(wi:TI)(g:TG)(tb:TS):TS:=λD σ H=>wi σ H λJ H1=>∃W:Nat->Nat->St->Hp->Prop,(∃m,W 0 m σ H1)/\∀i m σ H,W i m σ H ->
 (J.stop i H/\D.nx σ H)∨(J.go i H/\∃N:St->Hp->Prop,(∀σ' H',N σ' H'->∃m',m' < m/\W (i+1) m' σ' H')/\∀x H',J.C4 i H x H'->g x σ H' λσ2 H2=>tb { D with nx:=N,ct:=N,bk:=D.nx } σ2 H2)
def sX(fp:List ν)(h:Heap):List (ν×bT):=fp.filterMap λb=>(h.get? b).map λo=>(b,o)
theorem Ab(hb:b∈fp)(e:h.get? b=some o):(b,o)∈sX fp h:=kE.mpr ⟨b,hb,by rw[e];rfl⟩
theorem UW(hp:p∈sX fp h):p.1∈fp/\h.get? p.1=some p.2:=by
 obtain⟨b,hb,e⟩:=kE.mp hp;cases q:h.get? b with
 |none=>rw[q] at e;cases e
 |some o=>
  rw[q] at e;have e':=aL e;subst e';exact⟨hb,q⟩
theorem Inv.pinned(I:Inv X pins σ H s)(hf:∀b∈fp,kv X pins H b)(ho:∀b∈fp,∃o,s.heap.get? b=some o/\∀v,o.data≠.cell v):Inv X (pins++sX fp s.heap) σ H s:=
 I.yD λp hp=>(aa.mp hp).elim (λz=>I.pin p (aj _ z)) λz=>by
  obtain⟨hb,e⟩:=UW z;obtain⟨f0,f1,f2,_⟩:=hf p.1 hb;obtain⟨o,e',d⟩:=ho p.1 hb;rw[e] at e';cases e';exact⟨e,f0,f1,f2,d⟩
theorem Inv.rC(I:Inv X (pins++pl) σ H s):Inv X pins σ H s:=I.yD λp hp=>I.pin p (aj _ (aD _ hp))
theorem UU(hp:qk (model X.prog X.w) X.A X.env X.xe)(hc:X.calm=true)(hi:PI X tg iter wi)(hg:PG X tg g)(hb:oq X body tb)
  (hs:∀x,foldedSetIterable iter X.env x=pure x:=by intro _;rfl):PS X (.For tg iter body [] pos) (LU wi g tb):=by
 intro pins s σ H D I h;refine wpAny_For (bN (hi pins s σ H _ I h) λv s1 h1=>bN h1 λitv s2 h2=>?_) hs;obtain⟨it,fp,tn,J,H2,e,I2,T,st2,f2,W,⟨m0,w0⟩,turn⟩:=h2;subst e
 -- what stays true of the iterator's objects through the loop
 have stat:∀{H':Hp},(∀b∈fp,H' b=none)->∀b∈fp,kv X pins H' b:=λhn b hb=>⟨hn b hb,(f2 b hb).2⟩;refine codeAny_forLoop_any (λn s'=>∃i σ' H',Inv X pins σ' H' s'/\tn i s'.heap/\(∀b∈fp,H' b=none)/\W i n σ' H') ?_ m0 ⟨0,σ,H2,I2,st2,λb hb=>(f2 b hb).1,w0⟩;rintro n s3 ⟨i,σ3,H3,I3,st3,fr3,w3⟩;rcases turn i n σ3 H3 w3 with⟨stop,qn⟩|⟨go,N,hN,step⟩
 ·refine gH hp (bN (T.done X rfl rfl rfl hc i pins s3 σ3 H3 X.xe I3 (stat fr3) st3 stop) λr s4 ⟨hr,I4⟩=>?_);subst hr;exact mE ⟨σ3,H3,I4,qn⟩
 ·refine gH hp (bN (T.item X rfl rfl rfl hc i pins s3 σ3 H3 X.xe I3 (stat fr3) st3 go) λr s4 zz=>?_);obtain⟨u,hr,h4⟩:=zz;subst hr;refine gH hp (bN h4 λ_ s5 zz=>?_);obtain⟨x,H5,I5,r5,y5,st5,fr5⟩:=zz;have I5':=I5.pinned (stat fr5) (T.obj _ _ st5);refine gH hp (bN (hg _ s5 σ3 H5 x u _ I5' r5 (step x H5 y5)) λ_ s6 zz=>?_);obtain⟨σ6,H6,I6,q6⟩:=zz;refine gH hp (bN (hb _ s6 σ6 H6 _ I6 q6) λf s7 q7=>?_);have again:∀{σ7:St} {H7:Hp},Inv X (pins++sX fp s5.heap) σ7 H7 s7->N σ7 H7->∃m,m<n/\∃i σ' H',Inv X pins σ' H' s7/\tn i s7.heap/\(∀b∈fp,H' b=none)/\W i m σ' H':=λ{σ7 H7} I7 n7=>by
   obtain⟨m',hm,w7⟩:=hN σ7 H7 n7;refine⟨m',hm,i+1,σ7,H7,I7.rC,T.keep _ _ _ st5 λb hb o e=>(I7.pin (b,o) (aj _ (aj _ (Ab hb e)))).1,λb hb=>?_,w7⟩;obtain⟨o,e,d⟩:=T.obj _ _ st5 b hb;exact (I7.pin (b,o) (aj _ (aj _ (Ab hb e)))).2.1
  cases f with
  |next=>obtain⟨σ7,H7,I7,n7⟩:=q7;exact again I7 n7
  |cont=>obtain⟨σ7,H7,I7,n7⟩:=q7;exact again I7 n7
  |brk=>obtain⟨σ7,H7,I7,q7⟩:=q7;exact⟨σ7,H7,I7.rC,q7⟩
  |ret v=>obtain⟨x7,σ7,H7,I7,r7,q7⟩:=q7;exact⟨x7,σ7,H7,I7.rC,r7,q7⟩
end
abbrev R2:=V->V->Hp->VK->Prop
def eV(X:Cx)(f:ζ->ζ->Sem ζ)(r:R2):Prop:=
 ∀(pins:List (ν×bT)) (s:η) (σ:St) (H:Hp) (x y:V) (v u:ζ) (Q:VK),Inv X pins σ H s->RelV x v->RelV y u->r x y H Q ->
  χ (model X.prog X.w) X.A (f v u) (EP X pins σ Q) X.xe s
def gG(X:Cx)(f:ζ)(r:List V->Hp->VK->Prop):Prop:=
 ∀(pins:List (ν×bT)) (s:η) (σ:St) (H:Hp) (xs:List V) (us:List ζ) (Q:VK),Inv X pins σ H s->bq xs us->r xs H Q ->
  χ (model X.prog X.w) X.A (call f us) (EP X pins σ Q) X.xe s
def ZJ(X:Cx)(r:V->Hp->(Bool->Hp->Prop)->Prop):Prop:=
 ∀(pins:List (ν×bT)) (s:η) (σ:St) (H:Hp) (x:V) (v:ζ) (Q:Bool->Hp->Prop),Inv X pins σ H s->RelV x v->r x H Q ->
  χ (model X.prog X.w) X.A (truthy v) (TP X pins σ Q) X.xe s
def AG(r:R2)(ta tb:TE):TE:=λσ H Q=>ta σ H λx H1=>tb σ H1 λy H2=>r x y H2 Q
def rI(C:Int->Int->Prop)(g:Int->Int->V):R2:=λx y H Q=>∃i j,x=.int i/\y=.int j/\C i j/\Q (g i j) H
def pd(g:Int->Int->V):R2:=λx y H Q=>∃i j,x=.int i/\y=.int j/\Q (g i j) H
section
variable {X:Cx} {a b c:aT} {ta tb tc:TE} {pos:d9}
theorem CZ(ha:PE X a ta)(hb:PE X b tb){R:V->V->Hp->Prop}(I:Inv X pins σ H s)
  (h:ta σ H λx H1=>tb σ H1 λy H2=>R x y H2) {f:ζ->ζ->Sem ζ}
  (hf:∀v u s2 x y H2,Inv X pins σ H2 s2->RelV x v->RelV y u->R x y H2->χ (model X.prog X.w) X.A (f v u) Q X.xe s2):
  χ (model X.prog X.w) X.A (eval a X.env) (λv s₁=>χ (model X.prog X.w) X.A (eval b X.env) (λu s₂=>χ (model X.prog X.w) X.A (f v u) Q X.xe s₂) X.xe s₁) X.xe s:=by
 refine bN (ha pins s σ H _ I h) λv s1 zz=>?_;obtain⟨x,H1,I1,r1,q1⟩:=zz;refine bN (hb pins s1 σ H1 _ I1 q1) λu s2 zz=>?_;obtain⟨y,H2,I2,r2,q2⟩:=zz;exact hf v u s2 x y H2 I2 r1 r2 q2
theorem UT(ho:eV X (binaryOp op) r)(ha:PE X a ta)(hb:PE X b tb):PE X (.BinOp a op b pos) (AG r ta tb):=by
 intro pins s σ H Q I h;exact wpAny_BinOp (CZ ha hb I h λv u s2 x y H2 I2 rx ry q=>ho pins s2 σ H2 x y v u Q I2 rx ry q)
theorem Dq{g:Int->Int->Int}
  (rule:∀(i j:Int) (t u:Tok) (s:η) (Q:ζ->η->Prop) (E:ζ->η->Prop),C i j->Q (.int (g i j) s.toks) { s with toks:=s.toks+1 }->χ (model X.prog X.w) X.A (f (.int i t) (.int j u)) Q E s):
  eV X f (rI C λi j=>.int (g i j)):=by
 intro pins s σ H x y v u Q I rx ry h;obtain⟨i,j,rfl,rfl,hc,q⟩:=h;obtain⟨t,rfl⟩:=rx;obtain⟨t',rfl⟩:=ry;exact rule i j t t' s _ _ hc ⟨.int (g i j),H,I.tok _,⟨_,rfl⟩,q⟩
theorem Js{g:Int->Int->Int}
  (rule:∀(i j:Int) (t u:Tok) (s:η) (Q:ζ->η->Prop) (E:ζ->η->Prop),Q (.int (g i j) s.toks) { s with toks:=s.toks+1 }->χ (model X.prog X.w) X.A (f (.int i t) (.int j u)) Q E s):
  eV X f (pd λi j=>.int (g i j)):=by
 intro pins s σ H x y v u Q I rx ry h;obtain⟨i,j,rfl,rfl,q⟩:=h;obtain⟨t,rfl⟩:=rx;obtain⟨t',rfl⟩:=ry;exact rule i j t t' s _ _ ⟨.int (g i j),H,I.tok _,⟨_,rfl⟩,q⟩
theorem Ae{g:Int->Int->Bool}
  (rule:∀(i j:Int) (t u:Tok) (s:η) (Q:ζ->η->Prop) (E:ζ->η->Prop),Q (.bool (g i j)) s->χ (model X.prog X.w) X.A (f (.int i t) (.int j u)) Q E s):
  eV X f (pd λi j=>.bl (g i j)):=by
 intro pins s σ H x y v u Q I rx ry h;obtain⟨i,j,rfl,rfl,q⟩:=h;obtain⟨t,rfl⟩:=rx;obtain⟨t',rfl⟩:=ry;exact rule i j t t' s _ _ ⟨.bl (g i j),H,I,rfl,q⟩
def C2(i j:Int):Prop:=0≤j/\j≤1000000/\i.natAbs<2^64
theorem Jr:eV X (binaryOp .Add) (pd λi j=>.int (i+j)):=Js λ_ _ _ _ _ _ _ q=>add_int q
theorem US:eV X (binaryOp .Sub) (pd λi j=>.int (i-j)):=Js λ_ _ _ _ _ _ _ q=>sub_int q
theorem UR:eV X (binaryOp .Mod) (rI (λ_ j=>0<j) λi j=>.int (i%j)):=Dq λi j _ _ _ _ _ hc q=>by
 have h1:(0:Int)<j:=hc;exact mod_int' (by lia) (by rw[Int.fmod_eq_emod_of_nonneg i (by lia)];exact q)
theorem UQ:eV X (binaryOp .Pow) (rI C2 λi j=>.int (i^j.toNat)):=Dq λ_ _ _ _ _ _ _ hc q=>pow_int_small hc.1 hc.2.1 hc.2.2 q
theorem CA(I:Inv X pins σ H s)(q:Q (.bl k) H)(e:k=k'):EP X pins σ Q (.bool k') s:=by
 subst e;exact⟨.bl k,H,I,rfl,q⟩
theorem Kt:eV X (compareOp .Lt) (pd λi j=>.bl (decide (i<j))):=Ae λ_ _ _ _ _ _ _ q=>lt_int q
theorem Jl:eV X (compareOp .LtE) (pd λi j=>.bl (decide (i≤j))):=Ae λ_ _ _ _ _ _ _ q=>le_int q
theorem UP:eV X (compareOp .Gt) (pd λi j=>.bl (decide (j<i))):=Ae λ_ _ _ _ _ _ _ q=>gt_int q
theorem UO:eV X (compareOp .GtE) (pd λi j=>.bl (decide (j≤i))):=Ae λ_ _ _ _ _ _ _ q=>ge_int q
theorem UN:eV X (compareOp .Is) (λx y H Q=>y=.aE/\Q (.bl (decide (x=.aE))) H):=by
 intro pins s σ H x y v u Q I rx ry h;obtain⟨rfl,q⟩:=h;cases ry;refine is_none_gen (CA I q ?_);cases x<;>first
  | (cases rx;rfl)
  | (obtain⟨t,rfl⟩:=rx;rfl)
theorem UM:eV X (compareOp .IsNot) (λx y H Q=>y=.aE/\Q (.bl (!decide (x=.aE))) H):=by
 intro pins s σ H x y v u Q I rx ry h;obtain⟨rfl,q⟩:=h;cases ry;refine isnot_none_gen (CA I q ?_);cases x<;>first
  | (cases rx;rfl)
  | (obtain⟨t,rfl⟩:=rx;rfl)
theorem eV.or{f:ζ->ζ->Sem ζ}{r r':R2}(h:eV X f r)(h':eV X f r'):eV X f (λx y H Q=>r x y H Q∨r' x y H Q):=by
 intro pins s σ H x y v u Q I rx ry q;rcases q with q|q
 ·exact h pins s σ H x y v u Q I rx ry q
 ·exact h' pins s σ H x y v u Q I rx ry q
theorem AM(b:aT)(h:op≠.In:=by decide)(h2:op≠.NotIn:=by decide):behindInMarks op b=false:=by
 have e1:(op==CmpOp.In)=false:=by cases op<;>first|rfl|exact absurd rfl h
 have e2:(op==CmpOp.NotIn)=false:=by cases op<;>first|rfl|exact absurd rfl h2
 cases b<;>simp[behindInMarks,e1,e2]
theorem UL{op:CmpOp}{r:R2}(ho:eV X (compareOp op) r)(ha:PE X a ta)(hb:PE X b tb)(hm:behindInMarks op b=false):PE X (.Compare a [op] [b] pos) (AG r ta tb):=by
 intro pins s σ H Q I h;exact wpAny_Compare1 (CZ ha hb I h λv u s2 x y H2 I2 rx ry q=>ho pins s2 σ H2 x y v u Q I2 rx ry q) hm
def C5(t:TE):TT:=λσ H Q=>t σ H λx H'=>∃k,x=.bl k/\Q k H'
theorem UK(ho:eV X (compareOp op) r)(ha:PE X a ta)(hb:PE X b tb)(hm:behindInMarks op b=false):PT X (.Compare a [op] [b] pos) (C5 (AG r ta tb)):=by
 intro pins s σ H Q I h;refine wpAny_isTrue_Compare1 (bN (ha pins s σ H _ I h) λv s1 ⟨x,H1,I1,r1,q1⟩=>bN (hb pins s1 σ H1 _ I1 q1) λu s2 ⟨y,H2,I2,r2,q2⟩=>
  bN (ho pins s2 σ H2 x y v u _ I2 r1 r2 q2) λc s3 ⟨z,H3,I3,r3,k,e,q3⟩=>?_) hm
 subst e;cases r3;exact fV ⟨H3,I3,q3⟩
def wU(r r':R2)(ta tb tc:TE):TE:=λσ H Q=>ta σ H λx H1=>tb σ H1 λy H2=>r x y H2 λz H3=>∃k,z=.bl k ∧
 (if k=true then tc σ H3 λw' H4=>r' y w' H4 Q else Q (.bl false) H3)
theorem Vk(ho:eV X (compareOp op) r)(ho':eV X (compareOp op') r')(ha:PE X a ta)(hb:PE X b tb)(hc:PE X c tc)
  (hm:lastMarks [op,op'] [b,c]=false:=by with_unfolding_all rfl):PE X (.Compare a [op,op'] [b,c] pos) (wU r r' ta tb tc):=by
 intro pins s σ H Q I h;refine Compare_chain (bN (ha pins s σ H _ I h) λv s1 ⟨x,H1,I1,r1,q1⟩=>chain_link (bN (hb pins s1 σ H1 _ I1 q1) λu s2 ⟨y,H2,I2,r2,q2⟩=>
  bN (ho pins s2 σ H2 x y v u _ I2 r1 r2 q2) λd s3 ⟨z,H3,I3,r3,k,e,q3⟩=>?_)) hm
 subst e;cases r3;refine fV ?_;cases k with
 |false=>exact ite_ff ⟨.bl false,H3,I3,rfl,q3⟩
 |true=>exact ite_tt (chain_last (bN (hc pins s3 σ H3 _ I3 q3) λw' s4 zz=>by obtain⟨z',H4,I4,r4,q4⟩:=zz;exact ho' pins s4 σ H4 y z' u w' Q I4 r2 r4 q4))
def J8(K:PySem.W.Frag)(x:V)(H:Hp)(k:Bool):Prop:=
 match x with
 |.aE=>k=false
 |.bl b=>k=b
 |.int i=>k=(i != 0)
 |.str y=>y.length≤aA/\k=((y.length:Int) != 0)
 |.A3 y=>y.size≤aA/\k=((y.size:Int) != 0)
 |.ref p=>(∃xs,fw K H p xs/\k = !xs.isEmpty)∨(∃xs,cR K H p xs/\k = !xs.isEmpty)∨∃kvs,H p=some (.dK kvs)/\k = !kvs.isEmpty
 |_=>False
theorem Vj(r:KV kvs vs):(!vs.isEmpty) = !kvs.isEmpty:=by
 cases r<;>rfl
theorem Jk(r:bq xs its):(!its.toArray.isEmpty) = !xs.isEmpty:=by
 cases r<;>simp
theorem qX:(aA:Nat)<2^63:=by rw[cG];decide
theorem Vi:ZJ X (λx H Q=>∃k,J8 X.K x H k/\Q k H):=by
 intro pins s σ H x v Q I rx h;obtain⟨k,e,q⟩:=h;have hs:=cG;cases x with
 |aE=>
  cases rx;have e':=e;subst e';exact truthy_none ⟨H,I,q⟩
 |bl b=>
  cases rx;have e':=e;subst e';exact fV ⟨H,I,q⟩
 |int i=>
  obtain⟨t,rfl⟩:=rx;have e':=e;subst e';exact PySem.P.truthy_int ⟨H,I,q⟩
 |str y=>
  obtain⟨t,rfl⟩:=rx;obtain⟨hy,e'⟩:y.length≤aA/\k=((y.length:Int) != 0):=e;subst e';exact PySem.P.truthy_str (by lia) ⟨H,I.tok _,q⟩
 |A3 y=>
  obtain⟨t,rfl⟩:=rx;obtain⟨hy,e'⟩:y.size≤aA/\k=((y.size:Int) != 0):=e;subst e';exact PySem.W.truthy_bytes (by lia) ⟨H,I.tok _,q⟩
 |ref p=>
  cases rx;have e':=e;rcases e' with⟨xs,hx,e'⟩|⟨xs,hx,e'⟩|⟨kvs,hx,e'⟩
  ·subst e';obtain⟨its,r,pl,hz⟩:=I.list hx;have hlen:=r.length;exact wpAny_truthy_list pl.isList (by simp only[Ω];lia) ⟨H,I.tok _,by rw[Jk r];exact q⟩
  ·subst e';obtain⟨its,r,pl,hz⟩:=I.tuple hx;have hlen:=r.length;exact truthy_tuple pl (by simp only[Ω];lia) ⟨H,I.tok _,by rw[Jk r];exact q⟩
  ·subst e';obtain⟨hz,hS,vs,r,m⟩:kvs.length≤aA/\(p==sysModules)=false/\∃vs,KV kvs vs/\s.heap.DictOf (v8 X.prog X.w) p vs:=I.bX p _ hx;have hlen:=Paired.length r;exact wpAny_truthy_dict hS m (by lia) ⟨H,I.tok _,by rw[Vj r];exact q⟩
 |_=>exact (show False from e).elim
theorem Vh(ha:PE X a ta)(he:∀whole,isTrue a X.env whole=(do let v ←whole;standAt a.pos;holding [v] (truthy v))):
  PT X a (λσ H Q=>ta σ H λx H'=>∃k,J8 X.K x H' k/\Q k H'):=by
 intro pins s σ H Q I h;exact isTrue_plain (bN (ha pins s σ H _ I h) λv s1 zz=>by obtain⟨x,H1,I1,r1,q1⟩:=zz;exact Vi pins s1 σ H1 x v Q I1 r1 q1) (he _)
theorem vals1(r:bq [x] us):∃u,us=[u]/\RelV x u:=by
 cases r with
 |cons r1 r2=>cases r2;exact⟨_,rfl,r1⟩
theorem vals2(r:bq [x,y] us):∃u w',us=[u,w']/\RelV x u/\RelV y w':=by
 cases r with
 |cons r1 r2=>
  cases r2 with
  |cons r3 r4=>cases r4;exact⟨_,_,rfl,r1,r3⟩
theorem Vg(hc:X.calm=true):gG X (.builtin "max") (λxs H Q=>∃i j,xs=[.int i,.int j]/\Q (.int (if j > i then j else i)) H):=by
 intro pins s σ H xs us Q I r h;obtain⟨i,j,rfl,q⟩:=h;obtain⟨u,w',rfl,⟨t,rfl⟩,⟨t',rfl⟩⟩:=vals2 r;refine max_two_ints (I.ok.hd hc) λh' tk k=>⟨_,H,I.kept k,?_,q⟩;by_cases hj:j > i
 ·rw[if_pos hj,if_pos hj];exact⟨_,rfl⟩
 ·rw[if_neg hj,if_neg hj];exact⟨_,rfl⟩
theorem Vf:gG X (.type "int") (λxs H Q=>(∃i,xs=[.int i]/\Q (.int i) H)∨∃k,xs=[.bl k]/\Q (.int (if k then 1 else 0)) H):=by
 intro pins s σ H xs us Q I r h;rcases h with⟨i,rfl,q⟩|⟨k,rfl,q⟩
 ·obtain⟨u,rfl,t,rfl⟩:=vals1 r;exact call_int_int ⟨.int i,H,I,⟨_,rfl⟩,q⟩
 ·obtain⟨u,rfl,r1⟩:=vals1 r;cases r1;exact call_int_bool ⟨.int (if k then 1 else 0),H,I.tok _,⟨_,rfl⟩,q⟩
end
structure cW(k:Nat)(A:aQ):Prop where
 hd:A.handled=none
 dp:A.depth+3*k+5<recursionLimit
 un:A.units+16*k+200<cLine
theorem cW.mono(r:cW k A)(h:j≤k):cW j A:=⟨r.hd,by have:=r.dp;lia,by have:=r.un;lia⟩
theorem cW.deeper(r:cW (k+1) A)(env:Env):cW k (A.deeper env):=
 ⟨r.hd,by have:=r.dp;show A.depth+1+3*k+5<_;lia,by have:=r.un;show A.units+3+16*k+200<_;lia⟩
theorem cW.depth(r:cW k A):A.depth<recursionLimit:=by have:=r.dp;lia
theorem cW.units(r:cW k A):A.units+64<cLine:=by have:=r.un;lia
theorem cW.AF(r:cW k A):A.units<cLine:=by have:=r.un;lia
def LQ:TA:=λ_ H Q=>Q [] H
def Kl(ta:TE)(tr:TA):TA:=λσ H Q=>ta σ H λx H1=>tr σ H1 λxs H2=>Q (x::xs) H2
section
variable {X:Cx} {e:aT} {es:List aT} {te:TE} {t:TA} {pos:d9}
theorem uk:PA X [] LQ:=λ_ _ _ _ H Q I h=>uf ⟨[],H,I,.nil,h⟩
theorem sW(ha:PE X e te)(hr:PA X es t)(hs:bP (e::es) X.env=(false,eval e X.env)::bP es X.env:=by rfl):PA X (e::es) (Kl te t):=by
 intro pos pins s σ H Q I h;rw[hs];show χ _ _ (spliced ((false,eval e X.env)::backTo pos (bP es X.env))) _ _ s;refine nJ (bN (ha pins s σ H _ I h) λu s1 zz=>?_);obtain⟨x,H1,I1,r1,q1⟩:=zz;exact bN (hr pos pins s1 σ H1 _ I1 q1) λus s2 zz=>by obtain⟨xs,H2,I2,r2,q2⟩:=zz;exact⟨x::xs,H2,I2,.cons r1 r2,q2⟩
def LM(t:TA):TE:=λσ H Q=>t σ H λxs H1=>xs.length≤aA/\∀p,H1 p=none->Q (.ref p) (upd H1 p (.tup xs))
def LR(t:TA):TE:=λσ H Q=>t σ H λxs H1=>xs.length≤aA/\∀p,H1 p=none->Q (.ref p) (upd H1 p (.lst xs))
theorem Ve(h:PA X es t):PE X (.Tuple es x1 pos) (LM t):=by
 intro pins s σ H Q I hq;refine wpAny_Tuple_spliced (bN (h pos pins s σ H _ I hq) λus s1 ⟨xs,H1,I1,r,z,q⟩=>⟨by rw[←r.length];exact z,?_⟩);have hf:=I1.bX.fresh (ρ _);refine⟨.ref s1.heap.objs.size,upd H1 s1.heap.objs.size (.tup xs),I1.laid (t':=s1.toks) (λb u e=>Heap.get?_push_of_some _ e) (ρ _) ?_,rfl,q _ hf⟩;exact⟨z,us,r,⟨_,Heap.get?_push_size _ rfl,rfl,⟨_,rfl⟩,rfl⟩⟩
theorem Vd(h:PA X es t):PE X (.List es pos) (LR t):=by
 intro pins s σ H Q I hq;refine wpAny_List_spliced (bN (h pos pins s σ H _ I hq) λus s1 ⟨xs,H1,I1,r,z,q⟩=>⟨by rw[←r.length];exact z,?_⟩);have hf:=I1.bX.fresh (ρ _);refine⟨.ref s1.heap.objs.size,upd H1 s1.heap.objs.size (.lst xs),I1.laid (t':=s1.toks) (λb u e=>Heap.get?_push_of_some _ e) (ρ _) ?_,rfl,q _ hf⟩;exact⟨z,us,0,r,Heap.get?_push_size _ rfl⟩
end
abbrev Sp:=List V->Hp->VK->XK->Prop
abbrev ux:=List Env->Hp->η->XK->ζ->η->Prop
structure Ax(P:ao)(w:aC)(K:PySem.W.Frag)(mg:aG->Option ζ)(base:Heap)(A:aQ)(outer:List Env)(s:η)(H:Hp):Prop where
 frames:A.frames=some outer
 mod:Mod K mg base
 bs:∀b o,base.get? b=some o->s.heap.get? b=some o/\H b=none
 vA:base.objs.size≤s.heap.objs.size
 nP:s.heap.FunFrames base outer
 xZ:∀b∈tj outer,H b=none
 bX:ku P w H s.heap
 bare:mj s.gens
def CE(outer:List Env)(P:ao)(w:aC)(H:Hp)(s:η)(Q:VK)(u:ζ)(s':η):Prop:=
 ∃v H',s'.os=s.os/\mj s'.gens/\Un (tj outer) [] H H' s.heap s'.heap/\ku P w H' s'.heap/\RelV v u/\Q v H'
def CR(CX:ux)(outer:List Env)(P:ao)(w:aC)(H:Hp)(s:η)(Q:VK)(E:XK)(r:Result)(s':η):Prop:=
 match r with
 |.ok (.ret u)=>CE outer P w H s Q u s'
 |.ok _=>False
 |.error e=>CX outer H s E e s'
structure mC(P:ao)(w:aC)(K:PySem.W.Frag)(mg:aG->Option ζ)(base:Heap)(CX:ux)(k:Nat)(f:ν)(fd:ik)(ps:List aG)(sp:Sp):Prop where
 len:∀vs H Q E,sp vs H Q E->vs.length=ps.length
 run:∀(A:aQ) (outer:List Env) (s:η) (H:Hp) (args:Args) (us:List ζ) (vs:List V) (Q:VK) (E:XK),cW k A->Ax P w K mg base A outer s H->BindsTo s fd args (ps.zip us)->bq vs us->sp vs H Q E ->
  gI (model P w) A (.call (.ref f) args) (CR CX outer P w H s Q E) s
theorem mC.mono{K:PySem.W.Frag}(F:mC P w K mg base CX j f fd ps sp)(h:j≤k):
  mC P w K mg base CX k f fd ps sp:=⟨F.len,λA outer s H args us vs Q E hr=>F.run A outer s H args us vs Q E (hr.mono h)⟩
theorem mC.imp{P:ao}{w:aC}{K:PySem.W.Frag}{mg:aG->Option ζ}{base:Heap}{CX:ux}{k:Nat}{f:ν}{fd:ik}{ps:List aG}{sp sp':Sp}(F:mC P w K mg base CX k f fd ps sp)
  (h:∀vs H Q E,sp' vs H Q E->sp vs H Q E):mC P w K mg base CX k f fd ps sp':=
 ⟨λvs H Q E q=>F.len vs H Q E (h _ _ _ _ q),λA outer s H args us vs Q E hr he hb hv hs=>F.run A outer s H args us vs Q E hr he hb hv (h _ _ _ _ hs)⟩
section
variable {X:Cx} {pins:List (ν×bT)} {σ:St} {H:Hp} {s s':η}
theorem Inv.Zz(I:Inv X pins σ H s):Ax X.prog X.w X.K X.mg X.base X.A X.stack s H:=
 ⟨I.ok.frames,I.ok.mod,I.bs,aH I.ok.vA I.sz,I.stack,I.yw,I.bX,I.bare⟩
theorem Inv.after{Q:VK}{u:ζ}(I:Inv X pins σ H s)(h:CE X.stack X.prog X.w H s Q u s'):EP X pins σ Q u s':=by
 obtain⟨v,H',os,bare,un,bX,r,q⟩:=h;obtain⟨hh,g,d,t,os'⟩:=s';obtain rfl:os'=s.os:=os;exact⟨v,H',I.call (h':=hh) (g':=g) (d':=d) (t':=t) (ch:=[]) un bX bare (λb z=>absurd z (by simp)),r,q⟩
end
def C6(sp:Sp)(dvs:List V)(E:XK)(t:TA):TE:=λσ H Q=>t σ H λvs H1=>sp (vs++dvs) H1 Q E
def Binds(K:PySem.W.Frag)(fd:ik)(ps:List aG)(ds:List ζ):Prop:=
 ∀(s:η) (us:List ζ),K.In s.heap->(us++ds).length=ps.length->BindsTo s fd ⟨us,[]⟩ (ps.zip (us++ds))
theorem Binds.all{K:PySem.W.Frag}{fd:ik}{ps:List aG}(h:∀us:List ζ,us.length=ps.length->bindArgs fd ⟨us,[]⟩=pure (ps.zip us)):Binds K fd ps []:=λs us _ hl=>by
 rw[bC] at hl ⊢;exact .of_eq (h us hl)
def yh(CX:ux)(X:Cx)(E:XK):Prop:=∀(pins:List (ν×bT)) (σ:St) (H:Hp) (s:η) (e:ζ) (s':η),Inv X pins σ H s->CX X.stack H s E e s'->X.xe e s'
section
variable {X:Cx} {CX:ux} {k:Nat} {f C:ν} {fd:ik} {ps:List aG} {sp:Sp} {dvs:List V} {ds:List ζ} {E:XK} {x m:aG} {p pos apos:d9} {e o:aT} {es:List aT} {ta:TE} {t:TA}
theorem Vc{pins:List (ν×bT)}{σ:St}{H:Hp}{s:η}{Q:VK}{us:List ζ}{vs:List V}(F:mC X.prog X.w X.K X.mg X.base CX k f fd ps sp)(hr:cW k X.A)(hb:Binds X.K fd ps ds)(hd:bq dvs ds)(hx:yh CX X E)
  (I:Inv X pins σ H s) (r:bq vs us) (h:sp (vs++dvs) H Q E):χ (model X.prog X.w) X.A (call (.ref f) us) (EP X pins σ Q) X.xe s:=by
 have r2:bq (vs++dvs) (us++ds):=r.append hd;have hl:(us++ds).length=ps.length:=by rw[←r2.length];exact F.len _ _ _ _ h
 refine wpAny_call (ky (F.run X.A X.stack s H ⟨us,[]⟩ (us++ds) (vs++dvs) Q E hr I.Zz (hb s us I.oi hl) r2 h) λr s' hq=>?_);cases r with
 |error e=>exact hx pins σ H s e s' I hq
 |ok fl=>
  cases fl with
  |ret u=>exact I.after hq
  |next=>exact g7 hq
  |brk=>exact g7 hq
  |cont=>exact g7 hq
theorem Vb(F:mC X.prog X.w X.K X.mg X.base CX k f fd ps sp)(hr:cW k X.A)(hg:Gl X x)(hm:X.mg x=some (.ref f))(hk:PySem.W.keepIn X.K (.ref f)=true)(hb:Binds X.K fd ps ds)(hd:bq dvs ds)(hx:yh CX X E)
  (ha:PA X (e::es) t) (vg:(x==("__debug__":aG))=false:=by decide) (he:bP (e::es) X.env=(false,eval e X.env)::bP es X.env:=by rfl) (hpl:(backTo pos (bP es X.env)).any (·.1)=false:=by rfl):
  PE X (.Call (.Name x p) (e::es) [] pos) (C6 sp dvs E t):=by
 intro pins s σ H Q I h;exact nF (Jo I hg hm (PySem.W.callWith_K (h₀:=X.base) I.ok.mod.Ds hk (bN (ha pos pins s σ H _ I h) λus s1 ⟨vs,H1,I1,r,q⟩=>⟨I1.oi,(Vc F hr hb hd hx I1 r q)⟩) he hpl) vg)
end
structure jP(N P:List aG)(sc:kP):Prop where
 kind:sc.kind=.function
 co:sc.isCoroutine=false
 gen:sc.isGenerator=false
 nd:N.Nodup
 pre:N.take P.length=P
 par:∀x∈P,sc.names.lookup x=some .local∨sc.names.lookup x=some .cell
 Ju:∀y∈sc.names,y.2≠.free
theorem Jj{kindOf:aG->Option gN}:∀{binds:List (aG×ζ)} {m:aG->Option ζ},(∀v,(x,v)∉binds)->bindL kindOf binds m x=m x
 |[],_,_=>rfl
 | (n,v)::r,m,h=>by
  unfold bindL;rw[Jj λw hw=>h w (μ _ hw)];split
  ·have:x≠n:=by rintro rfl;exact h v ι
   simp[this]
  ·rfl
theorem Ji{kindOf:aG->Option gN}:∀{binds:List (aG×ζ)} {m:aG->Option ζ},(∀v,(x,v)∉binds)->bindC kindOf binds m x=m x
 |[],_,_=>rfl
 | (n,v)::r,m,h=>by
  unfold bindC;rw[Ji λw hw=>h w (μ _ hw)];split
  ·rfl
  ·have:x≠n:=by rintro rfl;exact h v ι
   simp[this]
theorem Jh{kindOf:aG->Option gN}:∀{P:List aG} {vs:List ζ} {i:Nat} {m:aG->Option ζ},P.Nodup->P[i]?=some x->vs[i]?=some v->kindOf x=some .local ->
  bindL kindOf (P.zip vs) m x=some v
 |[],_,_,_,_,h,_,_=>by simp at h
 |_::_,[],_,_,_,_,h,_=>by simp at h
 |p::P,w::vs,0,m,nd,h1,h2,hk=>by
  simp at h1 h2;subst h1;subst h2;show bindL kindOf ((p,w)::P.zip vs) m p=_;unfold bindL;rw[Jj λv hv=>(cc.mp nd).1 (iN hv).1,if_pos hk];simp
 |p::P,w::vs,i+1,m,nd,h1,h2,hk=>by
  show bindL kindOf ((p,w)::P.zip vs) m x=_;exact Jh (i:=i) (cc.mp nd).2 (by simpa using h1) (by simpa using h2) hk
theorem Jg{kindOf:aG->Option gN}:∀{P:List aG} {vs:List ζ} {i:Nat} {m:aG->Option ζ},P.Nodup->P[i]?=some x->vs[i]?=some v->kindOf x≠some .local ->
  bindC kindOf (P.zip vs) m x=some v
 |[],_,_,_,_,h,_,_=>by simp at h
 |_::_,[],_,_,_,_,h,_=>by simp at h
 |p::P,w::vs,0,m,nd,h1,h2,hk=>by
  simp at h1 h2;subst h1;subst h2;show bindC kindOf ((p,w)::P.zip vs) m p=_;unfold bindC;rw[Ji λv hv=>(cc.mp nd).1 (iN hv).1,if_neg hk];simp
 |p::P,w::vs,i+1,m,nd,h1,h2,hk=>by
  show bindC kindOf ((p,w)::P.zip vs) m x=_;exact Jg (i:=i) (cc.mp nd).2 (by simpa using h1) (by simpa using h2) hk
def start(N:List aG)(vs:List V):St:=vs.map some++bF (N.length-vs.length) none
def tu(CX:ux)(P:ao)(w:aC)(K:PySem.W.Frag)(mg:aG->Option ζ)(base:Heap)(N:List aG)(qual:aG)(scope:kP)(f:ν)(cd:ζ)(A:aQ)(outer:List Env)(s:η)(H:Hp)(E:XK):Cx where
 prog:=P
 w:=w
 K:=K
 mg:=mg
 base:=base
 A:=A.deeper (envOfC qual scope s.heap.objs.size f cd)
 N:=N
 s₀:=s
 H₀:=H
 env:=envOfC qual scope s.heap.objs.size f cd
 outer:=outer
 stack:=envOfC qual scope s.heap.objs.size f cd::outer
 ex:=[]
 calm:=true
 fn:=λ_=>true
 pn:=[]
 xe:=λe s'=>χ (model P w) (A.deeper (envOfC qual scope s.heap.objs.size f cd)) (leaving (envOfC qual scope s.heap.objs.size f cd) e) (λ_ s''=>CX outer H s E e s'') (λe' s''=>CX outer H s E e' s'') s'
theorem Jf{sc:kP}(h:sc.names.lookup x=some .cell):∃c,(cellsFrom n sc.names []).lookup x=some c:=by
 have q:=PySem.W.cellsFrom_some sc.names n [] (.inl h);exact Option.isSome_iff_exists.mp q
theorem Uy{K:PySem.W.Frag}
  (S:jP N ps scope) (hd:A.handled=none) (e0:Ax P w K mg base A outer s H) (hl:vs.length=ps.length) (r:bq vs us)
  (x:InCallC s s.heap.objs.size (bindL (envOfC qual scope s.heap.objs.size f cd).kindOf (ps.zip us) λ_=>none) (cellsFrom (s.heap.objs.size+1) scope.names []) (bindC (envOfC qual scope s.heap.objs.size f cd).kindOf (ps.zip us) λ_=>none) s1):
  Inv (tu CX P w K mg base N qual scope f cd A outer s H E) [] (start N vs) H s1:=by
 have hpl:ps.length≤N.length:=by have:=congrArg bM S.pre;rw[aZ] at this;lia
 obtain⟨h1,tk,rfl,hk⟩:=x.done;have noA:∀b:ν,b∉(tu CX P w K mg base N qual scope f cd A outer s H E).ex:=λb z=>absurd (show b∈([]:List ν) from z) (by simp);refine⟨⟨e0.mod,S.kind,rfl,rfl,ρ _,λy z c h1 h2=>?_,λy hy=>?_,λy c _ h=>?_,λ_=>hd,aQ.frames_deeper e0.frames,.inr ⟨rfl,rfl⟩,λb z=>absurd z (noA b),e0.bs,e0.vA,λb _ _=>noA b,λb z=>absurd z (noA b),e0.nP,e0.xZ⟩,
  rfl,e0.bare,Un.kept hk,⟨_,x.toInCall.ns,λi y v h1 h2 h3=>?_⟩,λy c h=>⟨_,x.cell y c h⟩,e0.bX.fresh (ρ _),λy c h=>?_,λp hp=>absurd (show p∈([]:List (ν×bT)) from hp) (by simp),e0.bX.kept hk,?_⟩
 ·exact name_of_addr x.apart (PySem.mem_of_lookup h1) (PySem.mem_of_lookup h2)
 ·rcases hy with hy|hy
  ·exact Jf hy
  ·exact absurd rfl (S.Ju _ (PySem.mem_of_lookup hy))
 ·exact mH (x.above y c (PySem.mem_of_lookup h))
 ·have hi:i<vs.length:=by
   unfold start at h2;by_cases hi:i<vs.length
   ·exact hi
   ·rw[bI (by simpa using hi)] at h2;rw[pV] at h2;split at h2<;>cases h2
  have ha:vs[i]?=some v:=by
   unfold start at h2;rw[cx (by simpa using hi),ax] at h2;cases e:vs[i]? with
   |none=>rw[e] at h2;cases h2
   |some a=>rw[e] at h2;cases h2;rfl
  obtain⟨u,hu,rv⟩:=r.get ha;have hp:ps[i]?=some y:=by
   rw[←S.pre,eK (by lia)];exact h1
  have ndP:ps.Nodup:=by rw[←S.pre];exact S.nd.sublist (ee _ _)
  refine⟨u,rv,?_⟩;rcases S.par y (av hp) with k|k
  ·exact .inl ⟨k,Jh ndP hp hu k⟩
  ·obtain⟨c,e⟩:=Jf (n:=s.heap.objs.size+1) k;refine .inr ⟨.inl k,c,e,?_⟩;have q:=x.cell y c e;rw[Jg ndP hp hu (by show scope.names.lookup y≠_;rw[k];decide)] at q;exact q
 ·exact e0.bX.fresh (mH (x.above y c (PySem.mem_of_lookup h)))
 ·unfold start;show _=N.length;rw[π,ε,mf];lia
theorem Ux{CX:ux}{P:ao}{w:aC}{K:PySem.W.Frag}{mg:aG->Option ζ}{base:Heap}{k:Nat}{f:ν}{name qual:aG}{params:Arguments}{body:List iz}{scope:kP}{dV kV doc pm cdv ct oc:ζ}{an od:Option ν}
  {osl:Array (Option ζ)} {N ps:List aG} {sp:Sp} (lk:K.lookup f=some ⟨oc,od,.func (PySem.W.fnOf name qual params body scope dV kV doc pm an cdv ct),osl⟩) (qb:PySem.W.codeIn K cdv qual=true) (S:jP N ps scope)
  (len:∀vs H Q E,sp vs H Q E->vs.length=ps.length)
  (vh:∀(A:aQ) (outer:List Env) (s:η) (H:Hp) (vs:List V) (Q:VK) (E:XK),cW k (A.deeper (envOfC qual scope s.heap.objs.size f cdv))->sp vs H Q E ->
   ∃t,oq (tu CX P w K mg base N qual scope f cdv A outer s H E) body t/\t { nx:=λ_ H'=>Q .aE H',rt:=Q } (start N vs) H):
  mC P w K mg base CX (k+1) f (PySem.W.fnOf name qual params body scope dV kV doc pm an cdv ct) ps sp:=by
 refine⟨len,λA outer s H args us vs Q E hr e0 hb r um=>?_⟩;have hl:=len _ _ _ _ um;have KX:K.In s.heap:=e0.mod.Ds.keeps λb o e=>(e0.bs b o e).1;have lim:s.heap.NoLimit:=e0.mod.nolimit.keeps λb o e=>(e0.bs b o e).1;have hkind:∀y∈ps.zip us,scope.names.lookup y.1=some .local∨(scope.names.lookup y.1=some .cell/\((cellsFrom (s.heap.objs.size+1) scope.names []).lookup y.1).isSome=true):=λ⟨n,v⟩ hy=>by
  rcases S.par n (iN hy).1 with q|q
  ·exact .inl q
  ·exact .inr ⟨q,PySem.W.cellsFrom_some _ _ _ (.inl q)⟩
 refine codeAny_call_function hr.depth (KX _ _ lk) rfl S.co S.gen rfl (PySem.W.codeRec_of KX qb) (hb _ _ _ _ ?_);refine wpAny_newFunctionEnv_cells S.kind hkind λenv he s1 x=>?_;subst he;refine⟨lim.keeps x.toInCall.keep,codeAny_func ?_⟩;obtain⟨t,ht,hq⟩:=vh A outer s H vs Q E (hr.deeper _) um;have I:Inv (tu CX P w K mg base N qual scope f cdv A outer s H E) [] (start N vs) H s1:=Uy S hr.hd e0 hl r x;refine eY (ht [] s1 (start N vs) H _ I hq) (λfl s' hs=>?_) λe s' hs=>hs;have fin:∀{σ':St} {H':Hp} {v:V} {u:ζ},Inv (tu CX P w K mg base N qual scope f cdv A outer s H E) [] σ' H' s'->RelV v u->Q v H'->CE outer P w H s Q u s':=
  λ{σ' H' v u} J rv q=>⟨v,H',J.os,J.bare,J.base,J.bX,rv,q⟩
 cases fl with
 |ret u=>
  obtain⟨v,σ',H',J,rv,q⟩:=hs;exact fin J rv q
 |next=>
  obtain⟨σ',H',J,q⟩:=hs;exact fin (v:=V.aE) (u:=cq) J rfl q
 |brk=>
  obtain⟨_,_,_,q⟩:=hs;exact g7 q
 |cont=>
  obtain⟨_,_,_,q⟩:=hs;exact g7 q
section
variable {X:Cx} {x:aG} {p pos:d9} {e:aT} {es:List aT} {t:TA} {id T:String} {r:List V->Hp->VK->Prop}
def C7(r:List V->Hp->VK->Prop)(t:TA):TE:=λσ H Q=>t σ H λvs H1=>r vs H1 Q
theorem qT(hc:gG X (.builtin id) r)(hg:Gl X x)(hm:X.mg x=none)(hv:jj x=some (.builtin id))(ha:PA X (e::es) t)(hn:x≠"__name__":=by decide)(vg:(x==("__debug__":aG))=false:=by decide)
  (he:bP (e::es) X.env=(false,eval e X.env)::bP es X.env:=by rfl) (hpl:(backTo pos (bP es X.env)).any (·.1)=false:=by rfl):PE X (.Call (.Name x p) (e::es) [] pos) (C7 r t):=by
 intro pins s σ H Q I h;refine nF (sS I hg hm hv ?_ hn vg);exact PyProof.Rows.callWith_builtin1 (bN (ha pos pins s σ H _ I h) λus s1 zz=>by obtain⟨vs,H1,I1,r1,q1⟩:=zz;exact hc pins s1 σ H1 vs us Q I1 r1 q1) he hpl
theorem vQ(hc:gG X (.type T) r)(hg:Gl X x)(hm:X.mg x=none)(hv:jj x=some (.type T))(ha:PA X (e::es) t)(hn:x≠"__name__":=by decide)(vg:(x==("__debug__":aG))=false:=by decide)
  (he:bP (e::es) X.env=(false,eval e X.env)::bP es X.env:=by rfl) (hpl:(backTo pos (bP es X.env)).any (·.1)=false:=by rfl):PE X (.Call (.Name x p) (e::es) [] pos) (C7 r t):=by
 intro pins s σ H Q I h;refine nF (sS I hg hm hv ?_ hn vg);exact dJ (bN (ha pos pins s σ H _ I h) λus s1 zz=>by obtain⟨vs,H1,I1,r1,q1⟩:=zz;exact hc pins s1 σ H1 vs us Q I1 r1 q1) he hpl
end
end L2
namespace HT
open PySem PyProof.Rows
def lexLt:List Int->List Int->Bool
 |[],[]=>false
 |[],_::_=>true
 |_::_,[]=>false
 |x::xs,y::ys=>if x=y then lexLt xs ys else decide (x<y)
theorem aal(x y:Int)(xs ys:List Int):lexLt (x::xs) (y::ys)=if x=y then lexLt xs ys else decide (x<y):=rfl
theorem aav:lexLt [] []=false:=rfl
theorem aau(y:Int)(ys:List Int):lexLt [] (y::ys)=true:=rfl
theorem aat(x:Int)(xs:List Int):lexLt (x::xs) []=false:=rfl
theorem aas(A:aQ)(s:η)(a:Int)(t:Tok)(c:Int)(u:Tok):∃e,vG A s (.int a t) (.int c u) e/\(e=true↔a=c):=
 ⟨(a==c),kz a t c u,by simp⟩
theorem Uw(A:aQ)(s:η)(a:Int)(t:Tok)(c:Int)(u:Tok)(prog:ao)(w:aC)(E:ζ->η->Prop)(Q:ζ->η->Prop)(h:Q (.bool (decide (a<c))) s):
  χ (model prog w) A (jQ .Lt (.int a t) (.int c u)) Q E s:=
 (PyProof.Rows.lt_int h:χ (model prog w) A (compareOp .Lt (.int a t) (.int c u)) Q E s)
inductive tH{α:Type}(R:ζ->α->Prop):List ζ->List α->Prop
 |nil:tH R [] []
 |cons {v a vs as}:R v a->tH R vs as->tH R (v::vs) (a::as)
theorem tH.length{α:Type}{R:ζ->α->Prop}{vs as}(t:tH R vs as):vs.length=as.length:=by
 induction t with
 |nil=>rfl
 |cons _ _ ih=>simp[ih]
section
open PySem.SeqAt
open PySem.AutoSeq1 (wpAny_loadPart')
open PySem.MeetsSeq PySem.MeetsSeq2 PySem.MeetsSeq3
theorem Aa{α:Type}[DecidableEq α](le:Bool)(L:List α->List α->Bool)(c:α->α->Bool)(R1:ζ->α->Prop)(l b:ν)(items items2:Array ζ)(n n2:Nat)(dd dd2:Option ν)(sl sl2:Array (Option ζ))(ns ms:List α)(l1:L [] []=le)(l2:∀y ys,L [] (y::ys)=true)(l3:∀x xs,L (x::xs) []=false)(l4:∀x xs y ys,L (x::xs) (y::ys)=if x=y then L xs ys else c x y):
  Meets ((cond le f9.«tuple.__le__» f9.«tuple.__lt__») ⟨[.ref l,.ref b],[]⟩)
   (λA R s=>s.heap.get? l=some { cls:=.type "tuple",dict:=dd,data:=.seq items n,slots:=sl }/\s.heap.get? b=some { cls:=.type "tuple",dict:=dd2,data:=.seq items2 n2,slots:=sl2 } ∧
    (tH R1 items.toList ns/\tH R1 items2.toList ms/\∀(prog:ao) (w:aC) (x y:ζ) (a b:α),R1 x a->R1 y b->(∀(E:ζ->η->Prop) (Q:Bool->η->Prop),Q (decide (a=b)) s->χ (model prog w) A.in1 (eqBool x y) Q E s)/\∀(E Q:ζ->η->Prop),Q (.bool (c a b)) s->χ (model prog w) A.in1 (jQ (cond le .LtE .Lt) x y) Q E s)/\R (.ok (.ret (.bool (L ns ms)))) s):=
 .of_wp λprog w A R s h=>by
  obtain⟨hp,g,d,tk,os⟩:=s;obtain⟨hl,hb,⟨hi,hj,hr⟩,h⟩:=h;have f2:=AutoSeq1.sub_tuple_tuple;have z1:items.size=ns.length:=by rw[←hi.length];simp
  have z2:items2.size=ms.length:=by rw[←hj.length];simp
  cases le
  all_goals
   dsimp only[cond] at hr ⊢;wp_walk using wpAny_loadPart' hl,wpAny_loadPart' hb,cY _ (λrest b s'=>b.1=none/\s'=⟨hp,g,d,tk,os⟩/\∃(vs ws:List ζ) (ns' ms':List α),rest=vs.zip ws ∧
    tH R1 vs ns'/\tH R1 ws ms'/\ns'.length+items2.size=ms'.length+items.size/\R (.ok (.ret (.bool (L ns' ms')))) ⟨hp,g,d,tk,os⟩) _
   case turn=>
    rintro⟨y,x⟩ rest b s' ⟨hb',rfl,vs,ws,ns',ms',hz,hvi,hwi,hlen,hR⟩;cases hvi with
    |nil=>rw[List.zip_nil_left] at hz;cases hz
    |@cons _ a1 _ _ r1 hvi'=>
     cases hwi with
     |nil=>rw[List.zip_nil_right] at hz;cases hz
     |@cons _ a2 _ _ r2 hwi'=>
      rw[iM] at hz;injection hz with hyx hrest;injection hyx with hy hx;subst hy hx;rw[l4] at hR;simp only[ai] at hlen;obtain⟨k1,k2⟩:=hr prog w _ _ _ _ r1 r2;refine γ (k1 _ _ ?_);by_cases e:a1=a2
      ·rw[if_pos e] at hR;rw[decide_eq_true e];wp_walk;exact⟨rfl,rfl,_,_,_,_,hrest,hvi',hwi',by omega,hR⟩
      ·rw[if_neg e] at hR;rw[decide_eq_false e];wp_walk using k2;exact⟨_,rfl,by simpa using hR⟩
   case fin=>
    rintro⟨b1,b2⟩ s' ⟨hb',rfl,vs,ws,ns',ms',hz,hvi,hwi,hlen,hR⟩;simp only at hb';subst hb';wp_walk;refine⟨_,rfl,?_⟩;cases hvi<;>cases hwi<;>simp_all [f9.Tuple.tupleCompareSizes]<;>first|(rw[decide_eq_true (by omega)];exact hR)|(rw[decide_eq_false (by omega)];exact hR)
   case h=>
    exact⟨rfl,rfl,items.toList,items2.toList,ns,ms,rfl,hi,hj,by omega,h⟩
end
theorem vf{vs:List ζ}{ns:List Int}(t:f6 vs ns):tH (λv i=>∃t,v=.int i t) vs ns:=by
 induction t with
 |nil=>exact .nil
 |cons _ t _ ih=>exact .cons ⟨t,rfl⟩ ih
section
variable {prog:ao} {w:aC} {A:aQ} {E:ζ->η->Prop} {s:η}
theorem oG(hl:gK s.heap l items)(hb:gK s.heap b items2)(hi:f6 items.toList ns)(hj:f6 items2.toList ms)
  (hu:A.units<cLine) (h:Q (.bool (lexLt ns ms)) s):χ (model prog w) A (compareOp .Lt (.ref l) (.ref b)) Q E s:=by
 obtain⟨⟨cls,dd,data,sl⟩,ho,hc,n,hd⟩:=id hl;obtain⟨⟨cls2,dd2,data2,sl2⟩,ho2,hc2,n2,hd2⟩:=id hb;simp only at hc hd hc2 hd2;subst hc hd hc2 hd2;exact iU (op:=.Lt) ⟨_,ho,rfl⟩ ⟨_,ho2,rfl⟩ PySem.F.slot_tuple_lt PySem.F.entry_tuple_lt (PySem.F.args_tuple_lt_2 _ _) (Aa false lexLt (λa b=>decide (a<b)) (λv i=>∃t,v=.int i t) l b items items2 n n2 dd dd2 sl sl2 ns ms rfl (λ_ _=>rfl) (λ_ _=>rfl) λ_ _ _ _=>rfl)
  ⟨ho,ho2,⟨vf hi,vf hj,λprog w x y u v ⟨t1,e1⟩ ⟨t2,e2⟩=>by
   subst e1 e2;exact⟨λE Q q=>kz u t1 v t2 prog w _ _ q,λE Q q=>Uw _ _ u t1 v t2 prog w _ _ q⟩⟩,show gu (lexLt ns ms)≠jE/\Q (.bool (lexLt ns ms)) s from⟨(λx=>nomatch x),h⟩⟩ hu
theorem DQ{t b:ν}{vs ws:List ζ}{Q:ζ->η->Prop}(ht:gK s.heap t vs.toArray)(hb:gK s.heap b ws.toArray)(hv:vs≠[])
  (h1:ws=[]->Q (.ref t) s) (h2:ws≠[]->Q (.ref s.heap.objs.size) { s with heap:=s.heap.push { cls:=.type "tuple",data:=.seq (vs++ws).toArray }})
  (hsz:vs.length+ws.length≤aA):χ (model prog w) A (binaryOp .Add (.ref t) (.ref b)) Q E s:=by
 obtain⟨⟨cls,dd,data,sl⟩,ho,hc,n,hd⟩:=id ht;obtain⟨⟨cls2,dd2,data2,sl2⟩,ho2,hc2,n2,hd2⟩:=id hb;simp only at hc hd hc2 hd2;subst hc hd hc2 hd2;have e:vs.toArray++ws.toArray=(vs++ws).toArray:=by simp
 by_cases hw:ws=[]
 ·exact concat_meets ⟨_,ho,rfl⟩ ⟨_,ho2,rfl⟩ pI sj PySem.F.slot_tuple_add PySem.F.entry_tuple_add (PySem.F.args_tuple_add_2 _ _)
   (tuple_addW1 t b vs.toArray ws.toArray n n2 dd dd2 sl sl2 (by simpa using hv) (by simp[hw])) ⟨ho,ho2,h1 hw⟩
 ·refine concat_meets ⟨_,ho,rfl⟩ ⟨_,ho2,rfl⟩ pI sj PySem.F.slot_tuple_add PySem.F.entry_tuple_add (PySem.F.args_tuple_add_2 _ _)
   (tuple_addW2 t b vs.toArray ws.toArray n n2 dd dd2 sl sl2 (by simpa using hv) (by simpa using hw) (by rw[Ω,Ω];exact hsz)) ⟨ho,ho2,?_⟩
  rw[e];exact h2 hw
def cJ(n d:Nat):Option Int->Nat
 |none=>d
 |some v=>if v<0 then (v+(n:Int)).toNat else min v.toNat n
theorem wZ(n d:Nat):cJ n d none=d:=rfl
theorem yy(n d k:Nat):cJ n d (some (k:Int))=min k n:=by
 show (if (k:Int)<0 then ((k:Int)+(n:Int)).toNat else min (k:Int).toNat n)=min k n;rw[if_neg (by lia),a9]
theorem aar(n d:Nat)(hd:d≤n)(o:Option Int):cJ n d o≤n:=by
 cases o with
 |none=>exact hd
 |some v=>
  show (if v<0 then (v+(n:Int)).toNat else min v.toNat n)≤n;by_cases hv:v<0
  ·rw[if_pos hv];lia
  ·rw[if_neg hv];exact Nat.min_le_right _ _
theorem IQ(v:Int)(n d:Nat):(if v<0 then max (v+(n:Int)) 0 else min v (n:Int))=((cJ n d (some v):Nat):Int):=by
 show (if v<0 then max (v+(n:Int)) 0 else min v (n:Int))=(((if v<0 then (v+(n:Int)).toNat else min v.toNat n):Nat):Int);by_cases hv:v<0
 ·simp only[if_pos hv];lia
 ·simp only[if_neg hv];lia
theorem Uv(lo hi:Option Int)(n:Nat):oV lo hi 1 (n:Int)=(((cJ n 0 lo:Nat):Int),((cJ n n hi:Nat):Int)):=by
 refine uT ?_ ?_
 ·cases lo with
  |none=>rfl
  |some v=>exact IQ v n 0
 ·cases hi with
  |none=>rfl
  |some v=>exact IQ v n n
theorem Uu(i j:Nat):g8 (i:Int) (j:Int) 1=j-i:=by
 unfold g8;have h1:(1:Int) > 0:=by lia
 simp only[h1,if_true,Int.ediv_one];split<;>lia
theorem IP(p:mN v o)(h:Q o s):χ (model prog w) A (f9.Slice.slicePartIndex v) Q E s:=by
 cases p with
 |none=>exact slicePart_none h
 |int i t=>exact slicePart_int h
theorem o7{lo:Option Int}{Q:Int×Int×Nat->η->Prop}(hs:s.heap.IsSliceOf sl vl vu .none)(pl:mN vl lo)(pu:mN vu hi)
  (h:Q (((cJ n 0 lo:Nat):Int),1,cJ n n hi-cJ n 0 lo) s):χ (model prog w) A (f9.Slice.sliceApplied (.ref sl) (pure (n:Int))) Q E s:=by
 obtain⟨os,hos,hcs,hds⟩:=id hs;refine γ (γ (b6 hos hds (x:=vl) rfl (γ (b6 hos hds (x:=vu) rfl (γ (b6 hos hds (x:=.none) rfl (δ (γ (slicePart_none ?_)))))))));rw[if_neg (by decide)];refine γ (IP pl (γ (IP pu (γ (δ ?_)))));show χ _ _ (match oV lo hi 1 (n:Int) with|(lo,hi)=>pure (lo,(1:Int),g8 lo hi 1)) _ _ s
 rw[Uv lo hi n];show χ _ _ (pure (((cJ n 0 lo:Nat):Int),(1:Int),g8 ((cJ n 0 lo:Nat):Int) ((cJ n n hi:Nat):Int) 1)) _ _ s;rw[Uu];exact δ h
theorem Ut(xs:Array ζ)(i k:Nat):((Φ k).filterMap λ(m:Nat)=>xs[((i:Int)+(m:Int)*1).toNat]?).toArray=((xs.toList.drop i).take k).toArray:=by
 have e:(λ(m:Nat)=>xs[((i:Int)+(m:Int)*1).toNat]?)=λm=>xs[i+m]?:=by
  funext m;have:((i:Int)+(m:Int)*1).toNat=i+m:=by lia
  rw[this]
 rw[e];have:=pick_run xs i k;rw[nH] at this;have e2:((λx=>xs[x]?) ∘ λx=>i+x)=λm=>xs[i+m]?:=rfl;rw[e2] at this;rw[this]
theorem uc{lo:Option Int}(ht:gK s.heap t items)(hs:s.heap.IsSliceOf sl vl vu .none)(pl:mN vl lo)(pu:mN vu hi)
  (hw:¬(cJ items.size 0 lo=0/\cJ items.size items.size hi=items.size))
  (h:Q (.ref s.heap.objs.size) { s with heap:=s.heap.push { cls:=.type "tuple",data:=.seq ((items.toList.drop (cJ items.size 0 lo)).take (cJ items.size items.size hi-cJ items.size 0 lo)).toArray }})
  (hsz:items.size≤aA):χ (model prog w) A (getItem (.ref t) (.ref sl)) Q E s:=by
 have htake:sizeOk (.seq ((items.toList.drop (cJ items.size 0 lo)).take (cJ items.size items.size hi-cJ items.size 0 lo)).toArray):=by
  show ((items.toList.drop (cJ items.size 0 lo)).take (cJ items.size items.size hi-cJ items.size 0 lo)).toArray.size≤aA;rw[Ω,aZ,aX,aK];lia
 obtain⟨os,hos,hcs,hds⟩:=id hs;have hTs:s.TypeIs (.ref sl) "slice":=⟨os,hos,hcs⟩;unfold getItem
 try with_reducible refine bY ?_
 first|refine γ (δ ?_)|skip
 refine γ (wpAny_sequenceKey ht.typeIs (by decide) ?_);refine γ (bD (name:=dY "__getitem__") ht.typeIs df
  (bA df ht.typeIs entry_tuple_getitem ?_ (args_tuple_getitem _ _)))
 show χ _ _ (jN (.ref t) >>= _) _ _ s;refine γ (tupleItemsOf_ ht (γ (fx hTs ?_)));rw[if_pos (by decide)];refine γ (o7 hs pl pu ?_);have ko:¬((((cJ items.size 0 lo:Nat):Int)==0&&(1:Int)==1&&(cJ items.size items.size hi-cJ items.size 0 lo)==items.size)=true):=by
  intro q;rw[aM,aM] at q;exact hw ⟨by lia,by lia⟩
 show χ _ _ (if (((cJ items.size 0 lo:Nat):Int)==0&&(1:Int)==1&&(cJ items.size items.size hi-cJ items.size 0 lo)==items.size)=true then _ else _) _ _ s;rw[if_neg ko,Ut]
 first
  |exact γ (m:=il _) (bj (δ ⟨_,rfl,δ h⟩) htake)
  |exact γ (m:=il _) (bj (γ (δ (δ ⟨_,rfl,δ h⟩))) htake)
  |exact γ (γ (m:=il _) (bj (δ (δ ⟨_,rfl,δ h⟩)) htake))
  |exact γ (γ (m:=il _) (bj (δ ⟨_,rfl,δ h⟩) htake))
end
end HT
namespace L2
open PySem PySem.Spec PyProof.Rows
abbrev TO:=St->Hp->(Option Int->Hp->Prop)->Prop
def PO(X:Cx)(e:Option aT)(t:TO):Prop:=
 ∀(pins:List (ν×bT)) (s:η) (σ:St) (H:Hp) (Q:Option Int->Hp->Prop),Inv X pins σ H s->t σ H Q ->
  χ (model X.prog X.w) X.A (evalPart e X.env) (λu s'=>∃o H',Inv X pins σ H' s'/\mN u o/\Q o H') X.xe s
def DJ:TO:=λ_ H Q=>Q none H
def Kh(t:TE):TO:=λσ H Q=>t σ H λx H1=>∃i,x=.int i/\Q (some i) H1
theorem intsAre_of:∀{us:List ζ},bq (ns.map V.int) us->f6 us ns:=by
 induction ns with
 |nil=>intro us r;rw[tN] at r;cases r;exact .nil
 |cons n ns ih=>
  intro us r;rw[ay] at r;cases r with
  |cons r1 r2=>
   obtain⟨t,e⟩:=r1;subst e;exact .cons n t (ih r2)
section
variable {X:Cx} {e:aT} {te:TE} {lo hi:Option aT} {tl th:TO} {pos p2:d9}
theorem Us:PO X none DJ:=by
 intro pins s σ H Q I h;rw[sk];exact δ ⟨none,H,I,.none,h⟩
theorem Ur(h:PE X e te):PO X (some e) (Kh te):=by
 intro pins s σ H Q I hw;rw[evalPart_some];refine bN (h pins s σ H _ I hw) λu s1 zz=>?_;obtain⟨x,H1,I1,r1,q1⟩:=zz;obtain⟨i,rfl,q⟩:=q1;obtain⟨t,rfl⟩:=r1;exact⟨some i,H1,I1,.int i t,q⟩
def wD(X:Cx)(r:V->Option Int->Option Int->Hp->VK->Prop):Prop:=
 ∀(pins:List (ν×bT)) (s:η) (σ:St) (H:Hp) (x:V) (v vl vu:ζ) (lo hi:Option Int) (sl:ν) (Q:VK),Inv X pins σ H s->RelV x v->s.heap.IsSliceOf sl vl vu .none->mN vl lo->mN vu hi->r x lo hi H Q ->
  ∃T id,typeLookup (.type T) "__getitem__" = pure (some (.builtin id))/\s.TypeIs v T/\χ (model X.prog X.w) X.A (getItem v (.ref sl)) (EP X pins σ Q) X.xe s
theorem wD.or(h:wD X r)(h':wD X r'):wD X (λx lo hi H Q=>r x lo hi H Q∨r' x lo hi H Q):=by
 intro pins s σ H x v vl vu lo hi sl Q I rx hs pl pu q;rcases q with q|q
 ·exact h pins s σ H x v vl vu lo hi sl Q I rx hs pl pu q
 ·exact h' pins s σ H x v vl vu lo hi sl Q I rx hs pl pu q
def ZN(r:V->Option Int->Option Int->Hp->VK->Prop)(te:TE)(tl th:TO):TE:=λσ H Q=>te σ H λx H1=>tl σ H1 λl H2=>th σ H2 λu H3=>r x l u H3 Q
theorem Uq{r:V->Option Int->Option Int->Hp->VK->Prop}(hr:wD X r)(he:PE X e te)(hl:PO X lo tl)(hu:PO X hi th):PE X (.Subscript e (.Slice lo hi none p2) pos) (ZN r te tl th):=by
 intro pins s σ H Q I h;refine Subscript_ (bN (he pins s σ H _ I h) λv s1 zz=>?_);obtain⟨x,H1,I1,r1,q1⟩:=zz;refine wpAny_Slice (bN (hl pins s1 σ H1 _ I1 q1) λvl s2 zz=>?_);obtain⟨l,H2,I2,pl,q2⟩:=zz;refine bN (hu pins s2 σ H2 _ I2 q2) λvu s3 zz=>?_;obtain⟨u,H3,I3,pu,q3⟩:=zz;rw[sk];refine δ ?_;have I4:Inv X pins σ H3 { s3 with heap:=s3.heap.push { cls:=.type "slice",data:=.fields #[vl,vu,.none]}}:=I3.kept (t':=s3.toks) λb ob q=>Heap.get?_push_of_some _ q;obtain⟨T,id,hT,ht,hg⟩:=hr pins { s3 with heap:=s3.heap.push { cls:=.type "slice",data:=.fields #[vl,vu,.none]}} σ H3 x v vl vu l u s3.heap.objs.size Q I4 r1 (Heap.IsSliceOf.new ..) pl pu q3;show χ (model X.prog X.w) X.A (subscriptTail e (.Slice lo hi none p2) v (.ref s3.heap.objs.size)) (EP X pins σ Q) X.xe { s3 with heap:=s3.heap.push { cls:=.type "slice",data:=.fields #[vl,vu,.none]}};exact tail_any (ops:=[.ref s3.heap.objs.size,v]) ht hT hg (by with_unfolding_all rfl)
def tw(xs:List V)(lo hi:Option Int):List V:=(xs.drop (HT.cJ xs.length 0 lo)).take (HT.cJ xs.length xs.length hi-HT.cJ xs.length 0 lo)
theorem IM(xs:List V)(lo hi:Option Int):(tw xs lo hi).length≤xs.length:=by
 unfold tw;rw[aZ,aX];lia
def L6(K:PySem.W.Frag):V->Option Int->Option Int->Hp->VK->Prop:=λx lo hi H Q=>∃a xs,x=.ref a/\cR K H a xs ∧
 ¬(HT.cJ xs.length 0 lo=0/\HT.cJ xs.length xs.length hi=xs.length)/\∀p,H p=none->Q (.ref p) (upd H p (.tup (tw xs lo hi)))
theorem D4:wD X (L6 X.K):=by
 intro pins s σ H x v vl vu lo hi sl Q I rx hs pl pu h;obtain⟨a,xs,rfl,hx,hw,q⟩:=h;cases rx;obtain⟨its,r,ht,hz⟩:=I.tuple hx;have hlen:its.toArray.size=xs.length:=by rw[Ω];exact r.length.symm
 refine⟨"tuple",_,df.lookup,ht.typeIs,(HT.uc ht hs pl pu (by rw[hlen];exact hw) ?_ (by rw[hlen];exact hz))⟩;rw[hlen];refine⟨.ref s.heap.objs.size,_,I.laid (t':=s.toks) (o:=.tup (tw xs lo hi)) (λb ob q=>Heap.get?_push_of_some _ q) (ρ _) ?_,rfl,q _ (I.bX.fresh (ρ _))⟩;exact⟨aH (IM xs lo hi) hz,_,(r.drop (HT.cJ xs.length 0 lo)).take (HT.cJ xs.length xs.length hi-HT.cJ xs.length 0 lo),lu.new _ _⟩
def Ea(K:PySem.W.Frag):R2:=λx y H Q=>∃a b ns ms,x=.ref a/\y=.ref b/\cR K H a (ns.map V.int)/\cR K H b (ms.map V.int)/\Q (.bl (HT.lexLt ns ms)) H
theorem Up(hu:X.A.units<cLine):eV X (compareOp .Lt) (Ea X.K):=by
 intro pins s σ H x y v u Q I rx ry h;obtain⟨a,b,ns,ms,rfl,rfl,ha,hb,q⟩:=h;cases rx;cases ry;obtain⟨its,r1,p1,_⟩:=I.tuple ha;obtain⟨its2,r2,p2,_⟩:=I.tuple hb;have i1:=intsAre_of r1;have i2:=intsAre_of r2;exact HT.oG p1 p2 i1 i2 hu ⟨.bl (HT.lexLt ns ms),H,I,rfl,q⟩
def Dl(K:PySem.W.Frag):R2:=λx y H Q=>∃a b xs ys,x=.ref a/\y=.ref b/\cR K H a xs/\cR K H b ys/\xs≠[]/\xs.length+ys.length≤aA ∧
 (ys=[]->Q (.ref a) H)/\(ys≠[]->∀p,H p=none->Q (.ref p) (upd H p (.tup (xs++ys))))
theorem bq.v7(r:bq xs us):us=[]↔xs=[]:=by
 cases r with
 |nil=>simp
 |cons _ _=>simp
theorem DM:eV X (binaryOp .Add) (Dl X.K):=by
 intro pins s σ H x y v u Q I rx ry h;obtain⟨a,b,xs,ys,rfl,rfl,ha,hb,hx,hz,q1,q2⟩:=h;cases rx;cases ry;obtain⟨its,r1,p1,_⟩:=I.tuple ha;obtain⟨its2,r2,p2,_⟩:=I.tuple hb;refine HT.DQ p1 p2 (λz=>hx (r1.v7.mp z)) (λz=>⟨.ref a,H,I,rfl,q1 (r2.v7.mp z)⟩) (λz=>⟨.ref s.heap.objs.size,_,I.laid (t':=s.toks) (o:=.tup (xs++ys)) (λb ob q=>Heap.get?_push_of_some _ q) (ρ _) ?_,rfl,q2 (λw=>z (r2.v7.mpr w)) _ (I.bX.fresh (ρ _))⟩) (by rw[←r1.length,←r2.length];exact hz);exact⟨by rw[π];exact hz,_,r1.append r2,lu.new _ _⟩
end
def sZ(n:Nat)(i:Int):Option Nat:=if 0≤i then (if i<n then some i.toNat else none) else if -(n:Int)≤i then some (i+n).toNat else none
def oj{α:Type}(xs:List α)(i:Int):Option α:=(sZ xs.length i).bind λj=>xs[j]?
theorem IL(h:sZ n i=some j):seqIndex? i n=some j/\j<n/\-(n:Int)≤i/\i<n:=by
 unfold sZ at h;by_cases h0:0≤i
 ·rw[if_pos h0] at h;by_cases h1:i<n
  ·rw[if_pos h1] at h;have e:=aL h;exact⟨by rw[qA h0 h1,e],by lia,by lia,h1⟩
  ·rw[if_neg h1] at h;cases h
 ·rw[if_neg h0] at h;by_cases h1:-(n:Int)≤i
  ·rw[if_pos h1] at h;have e:=aL h;exact⟨by rw[seqIndex_neg (by lia) h1,e],by lia,h1,by lia⟩
  ·rw[if_neg h1] at h;cases h
theorem z9(h:oj xs i=some v):∃j,seqIndex? i xs.length=some j/\xs[j]?=some v/\j<xs.length/\-(xs.length:Int)≤i/\i<xs.length:=by
 unfold oj at h;cases e:sZ xs.length i with
 |none=>rw[e] at h;cases h
 |some j=>
  rw[e] at h;obtain⟨h1,h2,h3,h4⟩:=IL e;exact⟨j,h1,h,h2,h3,h4⟩
theorem uM{j:Nat}(h:xs[j]?=some v):oj xs (j:Int)=some v:=by
 have hj:=(Γ.mp h).1;have e:sZ xs.length (j:Int)=some j:=by
  unfold sZ;rw[if_pos (by lia),if_pos (by lia)];simp
 unfold oj;rw[e];exact h
def wm(b:aT):Prop:=∀o i,subscripted b false o i=operate [o,i] (getItem o i)
def vD(X:Cx)(r:R2):Prop:=
 ∀(value slice:aT) (pins:List (ν×bT)) (s:η) (σ:St) (H:Hp) (x y:V) (v u:ζ) (Q:VK),Inv X pins σ H s->RelV x v->RelV y u->r x y H Q ->
  subscripted slice false v u=operate [v,u] (getItem v u)->χ (model X.prog X.w) X.A (subscriptTail value slice v u) (EP X pins σ Q) X.xe s
def DF(X:Cx)(id:String)(r:V->List V->Hp->VK->Prop):Prop:=
 ∀(pins:List (ν×bT)) (s:η) (σ:St) (H:Hp) (x:V) (xs:List V) (v:ζ) (us:List ζ) (Q:VK),Inv X pins σ H s->RelV x v->bq xs us->r x xs H Q ->
  χ (model X.prog X.w) X.A (call (.builtin id) (v::us)) (EP X pins σ Q) X.xe s
section
variable {X:Cx} {a b:aT} {ta tb:TE} {pos:d9}
theorem vD.or(h:vD X r)(h':vD X r'):vD X (λx y H Q=>r x y H Q∨r' x y H Q):=by
 intro value slice pins s σ H x y v u Q I rx ry q hs;rcases q with q|q
 ·exact h value slice pins s σ H x y v u Q I rx ry q hs
 ·exact h' value slice pins s σ H x y v u Q I rx ry q hs
theorem Uo{r:R2}(hr:vD X r)(ha:PE X a ta)(hb:PE X b tb)(hs:wm b):PE X (.Subscript a b pos) (AG r ta tb):=by
 intro pins s σ H Q I h;exact Subscript_ (CZ ha hb I h λv u s2 x y H2 I2 rx ry q=>hr a b pins s2 σ H2 x y v u Q I2 rx ry q (hs _ _))
def Be(K:PySem.W.Frag):R2:=λx y H Q=>∃p xs i v,x=.ref p/\y=.int i/\fw K H p xs/\oj xs i=some v/\Q v H
def Ed(K:PySem.W.Frag):R2:=λx y H Q=>∃p xs i v,x=.ref p/\y=.int i/\cR K H p xs/\oj xs i=some v/\Q v H
def Ee:R2:=λx y H Q=>∃z i c,x=.str z/\y=.int i/\z.length≤aA/\oj z.cps.toList i=some c/\Q (.str ⟨#[c]⟩) H
theorem DO:vD X (Be X.K):=by
 intro value slice pins s σ H x y v u Q I rx ry h hs;obtain⟨p,xs,i,z,rfl,rfl,hq,he,q⟩:=h;cases rx;obtain⟨t,rfl⟩:=ry;obtain⟨its,r,pl,hz⟩:=I.list hq;obtain⟨j,h1,h2,h3,h4,h5⟩:=z9 he;obtain⟨w,ew,rw'⟩:=r.get h2;have hl:=r.length;have hn:=qX;have fin:EP X pins σ Q w s:=⟨z,H,I,rw',q⟩;by_cases h0:0≤i
 ·have hj:i.toNat=j:=by
   rw[qA h0 h5] at h1;exact aL h1
  exact item_listR pl.isList h0 (by lia) (by rw[hj];simpa using ew) fin hs
 ·have hj:(i+(its.toArray.size:Int)).toNat=j:=by
   rw[seqIndex_neg (by lia) h4] at h1;rw[Ω,←hl];exact aL h1
  exact subscriptTail_builtinR (x:=w) pl.isList.typeIs oB.lookup
   (wpAny_getItem_list_neg (Q:=λr s'=>r=w/\EP X pins σ Q r s') pl.isList (by lia) (by rw[Ω]<;>lia) (by lia) (by rw[hj];simpa using ew) ⟨rfl,fin⟩) hs
theorem JJ:vD X (Ed X.K):=by
 intro value slice pins s σ H x y v u Q I rx ry h hs;obtain⟨p,xs,i,z,rfl,rfl,hq,he,q⟩:=h;cases rx;obtain⟨t,rfl⟩:=ry;obtain⟨its,r,pl,hz⟩:=I.tuple hq;obtain⟨j,h1,h2,h3,h4,h5⟩:=z9 he;obtain⟨w,ew,rw'⟩:=r.get h2;have hl:=r.length;have hn:=qX;have fin:EP X pins σ Q w s:=⟨z,H,I,rw',q⟩;exact subscriptTail_builtinR (x:=w) pl.typeIs slot_tuple_getitem.lookup
  (getItem_tuple (j:=j) (Q:=λr s'=>r=w/\EP X pins σ Q r s') pl (by lia) (by lia) (by rw[Ω,←hl];exact h1) (by simpa using ew) ⟨rfl,fin⟩) hs
theorem Um:vD X Ee:=by
 intro value slice pins s σ H x y v u Q I rx ry h hs;obtain⟨z,i,c,rfl,rfl,hz,he,q⟩:=h;obtain⟨t,rfl⟩:=rx;obtain⟨t',rfl⟩:=ry;obtain⟨j,h1,h2,h3,h4,h5⟩:=z9 he;have hl:z.cps.toList.length=z.length:=by simp[aG.length]
 rw[hl] at h1 h4 h5;have hn:=qX;exact tail_any (typeIs_str s z t) slot_str_getitem.lookup (getItem_str (c:=c) (by
  have e1:decide (i < -(2^63:Int))=false:=decide_eq_false (by lia);have e2:decide (i≥2^63)=false:=decide_eq_false (by lia);rw[e1,e2,Bool.or_false]) (by rw[h1];simpa using h2) ⟨.str ⟨#[c]⟩,H,I.tok _,⟨_,rfl⟩,q⟩) hs
def KS(K:PySem.W.Frag):R2:=λx y H Q=>Be K x y H Q∨Ed K x y H Q∨Ee x y H Q
theorem Ul:vD X (KS X.K):=DO.or (JJ.or Um)
theorem Uk(its:List ζ)(n j:Nat)(u:ζ):a7 (·.setIfInBounds j u) { cls:=.type "list",data:=.seq its.toArray n }={ cls:=.type "list",data:=.seq (its.set j u).toArray n }:=by
 simp[a7]
theorem Inv.lst(I:Inv X pins σ H s)(h:H p=some (.lst xs)):
  ∃(its:List ζ) (n:Nat),bq xs its/\s.heap.get? p=some { cls:=.type "list",data:=.seq its.toArray n }/\xs.length≤aA:=by
 obtain⟨z,its,n,r,e⟩:=I.bX p _ h;exact⟨its,n,r,e,z⟩
theorem Inv.JA{pins:List (ν×bT)}{σ:St}{H:Hp}{s:η}{p:ν}{xs ys:List V}{its its':List ζ}{n n':Nat}{f:bT->bT}(I:Inv X pins σ H s)(h:H p=some (.lst xs))
  (ho:s.heap.get? p=some { cls:=.type "list",data:=.seq its.toArray n }) (hf:f { cls:=.type "list",data:=.seq its.toArray n }={ cls:=.type "list",data:=.seq its'.toArray n' }) (r:bq ys its') (hz:ys.length≤aA) (t:Nat):
  Inv X pins σ (upd H p (.lst ys)) { s with heap:=s.heap.update p f,toks:=t }:=by
 have e:(s.heap.update p f).get? p=some { cls:=.type "list",data:=.seq its'.toArray n' }:=by
  rw[Heap.get?_update_self f ho (by rw[hf]<;>rfl),hf]
 refine I.write (x:=p) (e:=p) (by rw[h];trivial) (.inl rfl) (λb u hb q=>(Heap.get?_update_other _ _ (di hb)).trans q) ⟨_,e⟩ ?_;exact⟨hz,its',n',r,e⟩
def Dh:V->V->V->Hp->(Hp->Prop)->Prop:=λo i v H Q=>∃p xs k j,o=.ref p/\i=.int k/\H p=some (.lst xs)/\sZ xs.length k=some j/\Q (upd H p (.lst (xs.set j v)))
theorem set_list:C1 X Dh:=by
 intro pins s σ H o i v ov iv u Q I ro ri rv h;obtain⟨p,xs,k,j,rfl,rfl,hp,hj,q⟩:=h;cases ro;obtain⟨t,rfl⟩:=ri;obtain⟨its,n,r,ho,hz⟩:=I.lst hp;obtain⟨h1,h2,h3,h4⟩:=IL hj;have hl:=r.length;have hn:=qX;have I':Inv X pins σ (upd H p (.lst (xs.set j v))) { s with heap:=s.heap.update p (a7 (·.setIfInBounds j u))}:=
  I.JA hp ho (Uk its n j u) (r.set rv j) (by rw[List.length_set];exact hz) s.toks
 by_cases h0:0≤k
 ·have hk:k.toNat=j:=by
   rw[qA h0 h4] at h1;exact aL h1
  exact PySem.W.ki_setAt ho h0 (by lia) (by rw[Ω,←hl];exact h4) (by rw[hk];exact⟨_,I',q⟩)
 ·have hk:(k+(its.toArray.size:Int)).toNat=j:=by
   rw[seqIndex_neg (by lia) h3] at h1;rw[Ω,←hl];exact aL h1
  exact PySem.W.ki_setBack ho (by lia) (by rw[Ω,←hl];exact h3) (by lia) (by rw[hk];exact⟨_,I',q⟩)
theorem Uj(lo hi:Option Int)(n:Nat):(sliceBounds lo hi none n).1=((HT.cJ n 0 lo:Nat):Int)/\(sliceBounds lo hi none n).2.1=((HT.cJ n n hi:Nat):Int)/\(sliceBounds lo hi none n).2.2=1:=by
 refine⟨?_,?_,rfl⟩
 ·cases lo with
  |none=>simp[sliceBounds,HT.cJ]
  |some i=>
   simp only[sliceBounds,HT.cJ,uV,show (1:Int) > 0 by decide,if_true];by_cases h:i<0
   ·simp only[h,if_true]<;>lia
   ·simp only[h,if_false]<;>lia
 ·cases hi with
  |none=>simp[sliceBounds,HT.cJ]
  |some i=>
   simp only[sliceBounds,HT.cJ,uV,show (1:Int) > 0 by decide,if_true];by_cases h:i<0
   ·simp only[h,if_true]<;>lia
   ·simp only[h,if_false]<;>lia
theorem Ui(its:List ζ)(lo hi:Option Int):slicePick its.toArray lo hi none=((its.drop (HT.cJ its.length 0 lo)).take (HT.cJ its.length its.length hi-HT.cJ its.length 0 lo)).toArray:=by
 obtain⟨h1,h2,h3⟩:=Uj lo hi its.toArray.size;unfold slicePick;rw[h1,h2,h3];simp only[sliceRange_one,pick_run,Ω]<;>rfl
def L7(K:PySem.W.Frag):V->Option Int->Option Int->Hp->VK->Prop:=λx lo hi H Q=>∃a xs,x=.ref a/\fw K H a xs/\∀p,H p=none->Q (.ref p) (upd H p (.lst (tw xs lo hi)))
theorem Uh:wD X (L7 X.K):=by
 intro pins s σ H x v vl vu lo hi sl Q I rx hs pl pu h;obtain⟨a,xs,rfl,hx,q⟩:=h;cases rx;obtain⟨its,r,ht,hz⟩:=I.list hx;have hlen:=r.length;refine⟨"list",_,oB.lookup,ht.isList.typeIs,(pE ht.isList hs pl pu .none (by simp) ?_ (by rw[Ω]<;>lia))⟩
 rw[Ui,←hlen];refine⟨.ref s.heap.objs.size,_,I.laid (t':=s.toks) (o:=.lst (tw xs lo hi)) (λb ob q=>Heap.get?_push_of_some _ q) (ρ _) ?_,rfl,q _ (I.bX.fresh (ρ _))⟩;exact⟨aH (IM xs lo hi) hz,_,0,(r.drop (HT.cJ xs.length 0 lo)).take (HT.cJ xs.length xs.length hi-HT.cJ xs.length 0 lo),Heap.get?_push_size _ rfl⟩
theorem Ug:gG X (.builtin "len") (λxs H Q=>∃p ys,xs=[.ref p]/\(fw X.K H p ys∨cR X.K H p ys)/\Q (.int ys.length) H):=by
 intro pins s σ H xs us Q I r h;obtain⟨p,ys,rfl,hq,q⟩:=h;obtain⟨u,rfl,rx⟩:=vals1 r;cases rx;have hn:=qX;rcases hq with hq|hq
 ·obtain⟨its,r',pl,hz⟩:=I.list hq;have hlen:=r'.length;exact Calls.call_len_list pl.isList (by simp only[Ω]<;>lia) ⟨.int ys.length,H,I.tok _,⟨s.toks+1,by rw[Ω,hlen]⟩,q⟩
 ·obtain⟨its,r',pl,hz⟩:=I.tuple hq;have hlen:=r'.length;exact len_tuple pl (by simp only[Ω]<;>lia) ⟨.int ys.length,H,I.tok _,⟨s.toks+1,by rw[Ω,hlen]⟩,q⟩
theorem Ue:gG X (.type "list") (λxs H Q=>∃p ys,xs=[.ref p]/\(fw X.K H p ys∨cR X.K H p ys)/\∀l,H l=none->Q (.ref l) (upd H l (.lst ys))):=by
 intro pins s σ H xs us Q I r h;obtain⟨p,ys,rfl,hq,q⟩:=h;obtain⟨u,rfl,rx⟩:=vals1 r;cases rx;have fin:∀(its:List ζ),bq ys its->ys.length≤aA->∀(h':Heap) (c':Nat),(∀b o',s.heap.get? b=some o'->h'.get? b=some o') ->
   h'.get? s.heap.objs.size=some { cls:=.type "list",dict:=none,data:=.seq its.toArray c',slots:=#[]}->EP X pins σ Q (.ref s.heap.objs.size) { s with heap:=h' }:=λits r' hz h' c' kp e=>
  ⟨.ref s.heap.objs.size,_,I.laid (t':=s.toks) kp (ρ _) (show fk X.prog X.w _ h' _ (.lst ys) from⟨hz,its,c',r',e⟩),rfl,q _ (I.bX.fresh (ρ _))⟩
 rcases hq with hq|hq
 ·obtain⟨its,r',pl,hz⟩:=I.list hq;have hlen:=r'.length;obtain⟨o,ho,hc,n,hd⟩:=pl.isList;exact call_list_seq p (.inl rfl) ho hc hd (λh' c' kp e=>fin its r' hz h' c' kp e) (by simp only[Ω]<;>lia)
 ·obtain⟨its,r',pl,hz⟩:=I.tuple hq;have hlen:=r'.length;obtain⟨o,ho,hc,n,hd⟩:=pl;exact call_list_seq p (.inr rfl) ho hc hd (λh' c' kp e=>fin its r' hz h' c' kp e) (by simp only[Ω]<;>lia)
theorem Ud:gG X (.type "tuple") (λxs H Q=>∃p ys,xs=[.ref p]/\((fw X.K H p ys/\∀l,H l=none->Q (.ref l) (upd H l (.tup ys)))∨(cR X.K H p ys/\Q (.ref p) H))):=by
 intro pins s σ H xs us Q I r h;obtain⟨p,ys,rfl,h⟩:=h;obtain⟨u,rfl,rx⟩:=vals1 r;cases rx;rcases h with⟨hq,q⟩|⟨hq,q⟩
 ·obtain⟨its,r',pl,hz⟩:=I.list hq;have hlen:=r'.length;refine call_tuple_list pl.isList (λh' kp=>?_) (by simp only[Ω]<;>lia)
  have I1:Inv X pins σ H { s with heap:=h' }:=I.kept (t':=s.toks) kp;have I2:Inv X pins σ (upd H h'.objs.size (.tup ys)) { s with heap:=h'.push { cls:=.type "tuple",data:=.seq its.toArray }}:=
   I1.laid (t':=s.toks) (λb o e=>Heap.get?_push_of_some _ e) (ρ _) (show fk X.prog X.w _ _ _ (.tup ys) from⟨hz,its,r',lu.new _ _⟩)
  exact⟨.ref h'.objs.size,_,I2,rfl,q _ (I1.bX.fresh (ρ _))⟩
 ·obtain⟨its,r',pl,hz⟩:=I.tuple hq;exact call_tuple_same pl ⟨.ref p,H,I,rfl,q⟩
def KR(K:PySem.W.Frag)(T:String)(x:V)(H:Hp):Prop:=match x with
 |.str _=>T="str"
 |.int _=>T="int"
 |.ref p=>(T="list"/\∃xs,fw K H p xs)∨(T="tuple"/\∃o,K.lookup p=some o/\o.cls=.type "tuple"/\o.dict=none) ∨
   (T="dict"/\((∃kvs,H p=some (.dK kvs))∨∃kvs,H p=some (.dT kvs)))∨(T="set"/\∃S n,H p=some (.set S n))
 |_=>False
theorem Uc(I:Inv X pins σ H s)(r:RelV x v)(ty:KR X.K T x H):
  s.TypeIs v T/\∀a,v=.ref a->∃ob,s.heap.get? a=some ob/\ob.dict=none:=by
 cases x with
 |str z=>
  obtain⟨t,rfl⟩:=r;cases (show T="str" from ty);exact⟨typeIs_str s z t,λ_ e=>nomatch e⟩
 |int i=>
  obtain⟨t,rfl⟩:=r;cases (show T="int" from ty);exact⟨typeIs_int s i t,λ_ e=>nomatch e⟩
 |ref p=>
  cases r;rcases ty with⟨rfl,xs,hq⟩|⟨rfl,o,hk,hc,hd⟩|⟨rfl,hk⟩|⟨rfl,S,n,hk⟩
  ·obtain⟨its,_,pl,_⟩:=I.list hq;refine⟨pl.isList.typeIs,λa e=>?_⟩;cases e;obtain⟨o,n,e,c,hd,_⟩:=pl;exact⟨o,e,hd⟩
  ·refine⟨⟨o,I.oi p o hk,hc⟩,λa e=>?_⟩;cases e;exact⟨o,I.oi _ o hk,hd⟩
  ·have z:∃o,s.heap.get? p=some o/\o.ExactDict:=by
    rcases hk with⟨kvs,hk⟩|⟨kvs,hk⟩
    ·obtain⟨_,_,_,_,o,_,_,e,ex,_⟩:=I.bX p _ hk;exact⟨o,e,ex⟩
    ·obtain⟨_,_,_,_,o,_,_,e,ex,_⟩:=I.bX p _ hk;exact⟨o,e,ex⟩
   obtain⟨o,e,ex⟩:=z;refine⟨⟨o,e,ex.1⟩,λa e2=>?_⟩;cases e2;exact⟨o,e,ex.2.1⟩
  ·obtain⟨o,_,_,_,e,ex,_⟩:=I.bX p _ hk;refine⟨⟨o,e,ex.1⟩,λa e2=>?_⟩;cases e2;exact⟨o,e,ex.2.1⟩
 |_=>exact g7 ty
def DX(K:PySem.W.Frag)(T:String)(r:V->List V->Hp->VK->Prop)(to:TE)(t:TA):TE:=λσ H Q=>to σ H λx H1=>KR K T x H1/\t σ H1 λxs H2=>r x xs H2 Q
variable {o e:aT} {es:List aT} {to:TE} {t:TA} {name:aG} {apos cpos:d9} {T id:String} {r:V->List V->Hp->VK->Prop}
theorem Ub(pa:PlainAttrs T)(slot:Slot T name id)(hty:typeOf (.builtin id)=pure (.type "method_descriptor"))(hm:DF X id r)(ho:PE X o to)(ha:PA X (e::es) t)
  (rR:attributeBase o name X.env (eval o X.env)=eval o X.env:=by rfl)
  (CS:((backTo cpos (bP (e::es) X.env)).all (λx=>!x.1)&&(backToKw cpos (keywordEach [] X.env)).all (λx=>x.1.isSome)
   && decide ((e::es).length+([]:List rq).length+(if ([]:List rq).isEmpty then 0 else 1)<30))=true:=by rfl)
  (rP:(apos.endLine==cpos.line)=true:=by rfl) (hs:bP (e::es) X.env=(false,eval e X.env)::bP es X.env:=by rfl) (hplain:(backTo cpos (bP es X.env)).any (·.1)=false:=by rfl):
  PE X (.Call (.Attribute o name apos) (e::es) [] cpos) (DX X.K T r to t):=by
 intro pins s σ H Q I h;refine wpAny_Call_method_late rR CS rP rfl (bN (ho pins s σ H _ I h) λv s1 zz=>?_);obtain⟨x,H1,I1,r1,ty,q1⟩:=zz;obtain⟨h1,h2⟩:=Uc I1 r1 ty;refine⟨T,id,pa,slot,hty,h1,h2,?_⟩;have hA:=ha cpos pins s1 σ H1 _ I1 q1;rw[hs] at hA ⊢;exact lD (by show (false||(backTo cpos (bP es X.env)).any (·.1))=false;rw[hplain]<;>rfl) (r8 (bN hA λus s2 zz=>by obtain⟨vs,H2,I2,r2,q2⟩:=zz;exact hm pins s2 σ H2 x vs v us Q I2 r1 r2 q2))
/- xs.append(e),list.index on a module's tuple .. are DF facts of 06m -/
end
def LF(X:Cx)(id:String)(r:V->List V->Hp->VK->Prop):Prop:=
 ∀(pins:List (ν×bT)) (s:η) (σ:St) (H:Hp) (x:V) (xs:List V) (v:ζ) (us:List ζ) (Q:VK),Inv X pins σ H s->RelV x v->bq xs us->r x xs H Q ->
  χ (model X.prog X.w) X.A (call (.builtin id) (v::us)) (EP X pins σ Q) X.xe s
theorem bq.one:∀{x:V} {us:List ζ},bq [x] us->∃u,us=[u]/\RelV x u
 |_,_,.cons r .nil=>⟨_,rfl,r⟩
theorem bq.zero:∀{us:List ζ},bq [] us->us=[]
 |_,.nil=>rfl
theorem bq.rep(h:bq xs us):∀k:Nat,bq (bF k xs).flatten (bF k us).flatten
 |0=>.nil
 |k+1=>by
  rw[iu,iu,fY,fY];exact bq.append h (bq.rep h k)
theorem foldl_rep(its:List ζ):∀(k:Nat) (acc:List ζ),
  List.foldl (λx1 x2=>x1++x2) acc.toArray (bF k its.toArray)=(acc++(bF k its).flatten).toArray
 |0,acc=>by simp
 |k+1,acc=>by
  have e:acc.toArray++its.toArray=(acc++its).toArray:=by simp
  have e2:(acc++its)++(bF k its).flatten=acc++(bF (k+1) its).flatten:=by
   rw[iu,fY,Δ]
  rw[←e2,←foldl_rep its k (acc++its),←e,iu,mL]
section
variable {X:Cx} {pins:List (ν×bT)} {σ:St} {H:Hp} {s:η} {l b:ν} {xs ys zs:List V}
theorem Inv.JB{its:List ζ}(I:Inv X pins σ H s)(hH:H l=some (.lst xs))
  (e:s.heap.get? l=some { cls:=.type "list",data:=.seq its.toArray n }) (hf:f its.toArray=its'.toArray) (hv:bq ys its') (hz:ys.length≤aA):
  Inv X pins σ (upd H l (.lst ys)) { s with heap:=s.heap.update l (a7 f),toks:=t' }:=by
 have q:=PySem.IsL.update e f;rw[hf] at q;refine I.write (x:=l) (e:=l) (by rw[hH];exact trivial) (.inl rfl) (λb' u hb hu=>(Heap.get?_update_other s.heap (a7 f) (di hb)).trans hu) ⟨_,q⟩ ?_;exact⟨hz,its',_,hv,q⟩
theorem Inv.CO(I:Inv X pins σ H s)(hv:bq ys its)(hz:ys.length≤aA):
  Inv X pins σ (upd H s.heap.objs.size (.lst ys)) { s with heap:=s.heap.push { cls:=.type "list",data:=.seq its.toArray },toks:=t' }:=
 I.laid (λ_ _ q=>Heap.get?_push_of_some _ q) (ρ _) ⟨hz,its,0,hv,Heap.get?_push_size _ rfl⟩
theorem Inv.fresh(I:Inv X pins σ H s):H s.heap.objs.size=none:=I.bX.fresh (ρ _)
theorem Inv.uO(I:Inv X pins σ H s)(hH:H l=some (.lst xs)):xs.length≤aA/\∃(its:List ζ) (n:Nat),bq xs its/\xs.length=its.length/\s.heap.get? l=some { cls:=.type "list",data:=.seq its.toArray n }:=by
 obtain⟨z,its,n,r,e⟩:=I.bX l _ hH;exact⟨z,its,n,r,r.length,e⟩
theorem xN(h:n≤aA):kJ n=false:=decide_eq_false (by lia)
end
section
variable {X:Cx}
def yC:V->List V->Hp->VK->Prop:=λx vs H Q=>∃l xs y,x=.ref l/\vs=[y]/\H l=some (.lst xs)/\xs.length<aA/\Q .aE (upd H l (.lst (xs++[y])))
theorem IK:LF X "list.append" yC:=by
 intro pins s σ H x vs v us Q I rx rv h;obtain⟨l,xs,y,rfl,rfl,hH,hz,q⟩:=h;cases rx;obtain⟨u,rfl,ru⟩:=rv.one;obtain⟨z,its,n,r,hl,e⟩:=I.uO hH;refine oM F.slot_list_append ⟨_,e,rfl⟩ F.entry_list_append (F.args_list_append_2 _ _) (PySem.list_append l its.toArray n u (by rw[Ω];lia)) ⟨e,⟨.aE,_,I.JB (its':=its++[u]) hH e (by simp) (r.append (.cons ru .nil)) ?_,rfl,q⟩⟩;rw[π,c9];lia
def yA:V->List V->Hp->VK->Prop:=λx vs H Q=>∃l b xs zs,x=.ref l/\vs=[.ref b]/\H l=some (.lst xs)/\H b=some (.lst zs)/\xs.length+zs.length≤aA/\Q .aE (upd H l (.lst (xs++zs)))
theorem Ua:LF X "list.extend" yA:=by
 intro pins s σ H x vs v us Q I rx rv h;obtain⟨l,b,xs,zs,rfl,rfl,hH,hB,hz,q⟩:=h;cases rx;obtain⟨u,rfl,ru⟩:=rv.one;cases ru;obtain⟨z,its,n,r,hl,e⟩:=I.uO hH;obtain⟨z2,its2,n2,r2,hl2,e2⟩:=I.uO hB;have hsz:its.toArray.size+its2.toArray.size≤aA:=by rw[Ω,Ω];lia
 have hlong:¬(!its.toArray.isEmpty&&kJ (its.toArray.size+its2.toArray.size))=true:=by
  rw[xN hsz,rA];exact af
 refine oM F.slot_list_extend ⟨_,e,rfl⟩ F.entry_list_extend (F.args_list_extend_2 _ _)
  (AutoSeq1.list_extend_list_list_0 l its.toArray n b its2.toArray n2 hlong (by rw[Ω];lia) (by lia)) ⟨e,e2,?_⟩
 refine⟨.aE,_,I.JB (its':=its++its2) hH e (by simp) (r.append r2) ?_,rfl,q⟩;rw[π];lia
def Ef:R2:=λx y H Q=>∃l b xs zs,x=.ref l/\y=.ref b/\H l=some (.lst xs)/\H b=some (.lst zs)/\xs.length+zs.length≤aA/\∀p,H p=none->Q (.ref p) (upd H p (.lst (xs++zs)))
theorem Jq:eV X (binaryOp .Add) Ef:=by
 intro pins s σ H x y v u Q I rx ry h;obtain⟨l,b,xs,zs,rfl,rfl,hH,hB,hz,q⟩:=h;cases rx;cases ry;obtain⟨z,its,n,r,hl,e⟩:=I.uO hH;obtain⟨z2,its2,n2,r2,hl2,e2⟩:=I.uO hB;refine PySem.P.add_list e e2 ?_ (by rw[Ω,Ω];lia);have ea:its.toArray++its2.toArray=(its++its2).toArray:=by simp
 rw[ea];exact⟨.ref _,_,I.CO (t':=s.toks) (r.append r2) (by rw[π];lia),rfl,q _ I.fresh⟩
def D9:R2:=λx y H Q=>∃l k xs,x=.ref l/\y=.int k/\H l=some (.lst xs)/\-(2^63)≤k/\k<2^63/\xs.length*k.toNat≤aA ∧
 ∀p,H p=none->Q (.ref p) (upd H p (.lst (bF k.toNat xs).flatten))
theorem len_rep{α:Type}(xs:List α)(k:Nat):(bF k xs).flatten.length=k*xs.length:=by
 induction k with
 |zero=>simp
 |succ k ih=>rw[iu,fY,π,ih,Nat.succ_mul,Nat.add_comm]
theorem T9:eV X (binaryOp .Mult) D9:=by
 intro pins s σ H x y v u Q I rx ry h;obtain⟨l,k,xs,rfl,rfl,hH,h1,h2,hz,q⟩:=h;cases rx;obtain⟨t,rfl⟩:=ry;obtain⟨z,its,n,r,hl,e⟩:=I.uO hH;have hlen:its.toArray.size*k.toNat≤aA:=by rw[Ω,←hl];exact hz
 have hcap:¬its.toArray.size*k.toNat > (2^63-1) / 8:=by
  have:(aA:Nat)≤(2^63-1) / 8:=by decide
  lia
 have hfit:¬(!f9.List.listFitsIndex k)=true:=by
  rw[fitsIndex_both h1 h2];exact af
 have hlong:¬kJ (its.toArray.size*k.toNat)=true:=by
  rw[xN hlen];exact af
 have hnew:List.foldl (λx1 x2=>x1++x2) #[] (bF (if its.toArray.isEmpty=true then 0 else k.toNat) its.toArray)=(bF k.toNat its).flatten.toArray:=by
  have f0:=λm=>by
   have:=foldl_rep its m [];rw[br] at this;exact this
  rw[f0];cases its with
  |nil=>simp
  |cons a r'=>rw[if_neg (by simp)]
 refine wpAny_binaryOp_repeat_ref (T:="list") (U:="int") (by decide) ⟨_,e,rfl⟩ (λs'=>typeIs_int s' k t) noFill_list_mul F.fills_int_mul F.slot_int_rmul repeat_list F.slot_int_index.lookup
  (oM F.slot_int_rmul (typeIs_int s k t) F.entry_int_rmul (F.args_int_rmul_2 _ _) (int___rmul___int_list k t l its.toArray n)
   ⟨e,rfl,⟨_,e,rfl⟩,oM F.slot_list_mul ⟨_,e,rfl⟩ F.entry_list_mul (F.args_list_mul_2 _ _) (AutoListH.list___mul___list_int_3 l its.toArray n k t hfit hcap hlong) ⟨e,?_⟩⟩)
 rw[hnew];exact⟨.ref _,_,I.CO (t':=s.toks) (r.rep k.toNat) (by rw[len_rep,dE];exact hz),rfl,q _ I.fresh⟩
end
end L2
namespace LK
open PySem PySem.W PySem.Calls PyProof.Rows
theorem T7:∀(ns:List Int) (vs:List ζ),WellAll P h vs (ns.map WData.int)->f6 vs ns:=by
 intro ns
 induction ns with
 |nil=>
  intro vs w;rw[tN] at w;cases w;exact .nil
 |cons n ns ih=>
  intro vs w;rw[ay] at w;cases w with
  |cons a b=>
   cases a;exact .cons _ _ (ih _ b)
theorem T6{l:OpenLaw}(hn:l.most=some n)
  (Ak:l.row.toRowW.claim.pre args=true) (hwl:WellAll P h vals args):
  ∃a vs ns,vals=[aw a]/\args=[WData.list (ns.map WData.int)]/\h.get? a=some { cls:=.type "list",data:=.seq vs.toArray }/\f6 vs ns/\ns.length≤n:=by
 have hsh:WShape.hasAll [] args [.list .int]=true:=(pre_splitW Ak).1;have hc:l.pre.holds [] { args:=args }=true:=(pre_splitW Ak).2;obtain⟨d,r,rfl,h1,h2⟩:=hasAllW_cons hsh;obtain rfl:=hasAllW_nil h2;obtain⟨xs,rfl,h3⟩:=hasW_list h1;obtain⟨ns,rfl⟩:=items_int h3;have hlen:ns.length≤n:=by
  have h4:(WTm.not (.lt (.lit (.int (n:Int))) (.len (.arg 0)))).holds [] { args:=[.list (ns.map .int)]}=true:=by
   have h4:=(holds_andW hc).1;rw[hn] at h4;exact h4
  have h5:=condW_of h4 (w_not (w_lt w_lit (w_len_list (w_arg rfl))));rw[ε] at h5;refine Nat.le_of_not_lt λq=>?_
  first
   | (rw[decide_eq_true q'] at h5;exact absurd h5 (by decide))
   | (simp at h5;lia)
 cases hwl with
 |cons w1 w2=>
  cases w2;cases w1 with
  |list ho hall=>exact⟨_,_,ns,rfl,rfl,ho,T7 ns _ hall,hlen⟩
theorem UJ(l:OpenLaw)(args:List WData):l.row.toRowW.claim.post args (.bool true) args=true:=
 postW_of (r:=l.row.toRowW) (X:=(true==true))
  (show WShape.has [] (.bool true) .bool=true by first|rfl|decide|simp[WShape.has,WShape.arms,WShape.armsAll])
  (show (WTm.eq .res (.lit (.bool true))).value [] { args:=args,res:=some (.bool true),after:=args }=some (.bool (true==true)) from w_eq_bool (w_res rfl) w_lit) rfl
theorem yt{l:OpenLaw}{n:Nat}{q:ao}{loose:List aG}{XP:(aG->Option ζ)->Heap->Prop}{YP:aC->Heap->Prop}{d:DefRec}
  (hn:l.most=some n) (hdf:d.params.defaults=[])
  (call:∀(w:aC) (s₀ s₁:η) (mg mb:aG->Option ζ) (fa:ν) (o:bT) (pm cd doc:ζ) (a:ν) (vs:List ζ) (ns:List Int),
   Ground q loose [] XP w s₀ mg mb s₁.heap->YP w s₁.heap ->
   s₁.heap.get? fa=some o->o.data=.func (docDef d.name d.params d.body d.scope pm cd doc)->s₁.heap.CodeRec cd d.name->mg d.name=some (.ref fa) ->
   s₁.heap.get? a=some { cls:=.type "list",data:=.seq vs.toArray }->f6 vs ns->ns.length≤n->s₁.gens = #[] ->
   gI (model l.prog w) callerA (.call (.ref fa) ⟨[.ref a],[]⟩) (λr s'=>r=.ok (.ret (.bool true))/\OldK s₁.heap s'.heap/\s'.os=s₁.os/\mj s'.gens) s₁):
  WalkO q loose XP YP l.row.toRowW d [] (λf vs=>PySem.call f vs):=by
 intro w s₀ s₁ mg mb G Y fa o pm cd doc dV kV ho hd qb hD hmg hg args vals as Ak hlay K3 hwl hlo;obtain rfl:dV=.none:=Dflts.none hD hdf;obtain rfl:kV=.none:=Dflts.noKw hD;obtain⟨a,vs,ns,rfl,rfl,hobj,hints,hlen⟩:=T6 hn Ak hwl;refine enter_call (ky (call w s₀ s₁ mg mb fa o pm cd doc a vs ns G Y ho (fd_plain hd) qb hmg hobj hints hlen hg) λr s' hq=>?_);obtain⟨rfl,h2,h3,h4⟩:=hq;exact⟨.inl ⟨.bool true,.bool true,[],rfl,λ_=>rfl,.bool true,UJ l _,λ_=>⟨gS,λ_ hm=>(nomatch hm)⟩⟩,h2,h3,h4⟩
end LK
namespace L2
open PySem PySem.Spec PyProof.Rows
theorem IJ:∀{vs:List ζ} {ns:List Int},f6 vs ns->bq (ns.map V.int) vs
 |_,_,.nil=>.nil
 |_,_,.cons n t h=>.cons ⟨t,rfl⟩ (IJ h)
def Av(H:Hp):Prop:=∀b,H b=none∨∃o xs,H b=some (.iZ o (.lst xs))
theorem UI{P:ao}{w:aC}{K:PySem.W.Frag}{mg mb:aG->Option ζ}{CX:ux}{k:Nat}{fa a:ν}{fd:ik}{x:aG}{sp:Sp}{s₁:η}{vs:List ζ}{ns:List Int}
  (KX:K.In s₁.heap) (hns:s₁.heap.Ns cO mg) (hb:s₁.heap.Ns builtinsNs mb) (hbb:∀x:aG,x≠"__name__"->mb x=jj x) (hlim:s₁.heap.NoLimit) (hg:s₁.gens = #[])
  (ha:s₁.heap.get? a=some { cls:=.type "list",data:=.seq vs.toArray }) (hi:f6 vs ns) (hl:ns.length≤aA) (hr:cW k callerA)
  (F:∀base:Heap,K.In base->base.Ns cO mg->mC P w K mg base CX k fa fd [x] sp) (hbind:∀(s:η) (u:ζ),BindsTo s fd ⟨[u],[]⟩ [(x,u)])
  (um:∀H:Hp,Av H->fw K H a (ns.map V.int)->sp [.ref a] H (λv _=>v=.bl true) λ_ _ _=>False)
  (JQ:∀H e s',CX [] H s₁ (λ_ _ _=>False) e s'->False):
  gI (model P w) callerA (.call (.ref fa) ⟨[.ref a],[]⟩) (λr s'=>r=.ok (.ret (.bool true))/\OldK s₁.heap s'.heap/\s'.os=s₁.os/\mj s'.gens) s₁:=by
 have rv:=IJ hi;have lenV:=hi.length
 -- from an abstract heap in which nothing but the script may be tracked
 have core:∀H:Hp,Av H->fw K H a (ns.map V.int)->ku P w H s₁.heap->(∀b,H b≠none->b=a)->(H a≠none->K.lookup a=none) ->
   gI (model P w) callerA (.call (.ref fa) ⟨[.ref a],[]⟩) (λr s'=>r=.ok (.ret (.bool true))/\OldK s₁.heap s'.heap/\s'.os=s₁.os/\mj s'.gens) s₁:=by
  intro H hO hS bX hA hK;have base_of:∀{b:ν} {o:bT},s₁.heap.get? b=some o->H b=none->(rQ s₁.heap H).get? b=some o:=λe n=>Vu e n;have noA:∀{b:ν} {o:bT} {es:Array DictEntry} {ep:Nat},s₁.heap.get? b=some o->o.data=.dict es ep->H b=none:=λ{b o es ep} e d=>by
   cases q:H b with
   |none=>rfl
   |some u=>
    have e':b=a:=hA b (by rw[q];simp);subst e';rw[ha] at e;cases e;have d':Data.seq vs.toArray _=Data.dict es ep:=d;cases d'
  have nsK:∀{b:ν} {m:aG->Option ζ},s₁.heap.Ns b m->(rQ s₁.heap H).Ns b m:=λ{b m} zz=>by obtain⟨o,es,ep,e,d,r⟩:=zz;exact⟨o,es,ep,base_of e (noA e d),d,r⟩
  have hKb:K.In (rQ s₁.heap H):=λb o e=>base_of (KX b o e) (by
   cases q:H b with
   |none=>rfl
   |some u=>
    have e':b=a:=hA b (by rw[q];simp);subst e';rw[hK (by rw[q];simp)] at e;cases e)
  have hM:Mod K mg (rQ s₁.heap H):=⟨hKb,nsK hns,⟨mb,nsK hb,hbb⟩,let ⟨mc,h1,h2⟩:=hlim;⟨mc,nsK h1,h2⟩⟩
  have e0:Ax P w K mg (rQ s₁.heap H) callerA [] s₁ H:=⟨rfl,hM,λb o e=>Vt e,Nat.le_of_eq (Vv _ _),trivial,λb hb=>absurd (show b∈([]:List ν) from hb) (by simp),bX,.of_eq hg⟩;refine ky ((F _ hKb (nsK hns)).run callerA [] s₁ H ⟨[.ref a],[]⟩ [.ref a] [.ref a] _ _ hr e0 (hbind s₁ (.ref a)) (.cons rfl .nil) (um H hO hS)) λr s' h=>?_;cases r with
  |error e=>exact (JQ H e s' h).elim
  |ok fl=>
   cases fl with
   |next=>exact g7 h
   |brk=>exact g7 h
   |cont=>exact g7 h
   |ret u=>
    obtain⟨v,H',os,bare,un,hok',r',q⟩:=h;have q':v=.bl true:=q;subst q';obtain rfl:u=gu true:=r';refine⟨rfl,OldK.of_keep λb o e=>?_,os,bare⟩;cases q:H b with
    |none=>exact un.keep b o e q (by intro z;exact absurd (show b∈([]:List ν) from z) (by simp)) (by simp)
    |some u=>
     rcases hO b with z|⟨ob,xs,z⟩
     ·rw[q] at z;cases z
     ·have z2:=un.rS b ob _ z;obtain⟨e1,_⟩:=bX b _ z;obtain⟨e2,_⟩:=hok' b _ z2;rw[e] at e1;cases e1;exact e2
 cases hk:K.lookup a with
 |some o=>
  -- the script is one of the module's own objects
  have e:=KX a o hk;rw[ha] at e;cases e;refine core (λ_=>none) (λ_=>.inl rfl) (.inr ⟨_,vs.toArray,_,hk,rfl,rfl,rfl,by rw[Ω,lenV];exact hl,by simpa using rv⟩) (λb u z=>by have z':(none:Option HO)=some u:=z;cases z') (λb z=>absurd rfl z) λz=>absurd rfl z
 |none=>
  refine core (λb=>if b=a then some (.iZ { cls:=.type "list",data:=.seq vs.toArray } (.lst (ns.map V.int))) else none) (λb=>?_) (.inl (.inr ⟨{ cls:=.type "list",data:=.seq vs.toArray },if_pos rfl⟩)) (λb u z=>?_) (λb z=>?_) λ_=>hk
  ·by_cases hb:b=a
   ·exact .inr ⟨_,_,if_pos hb⟩
   ·exact .inl (if_neg hb)
  ·by_cases hb:b=a
   ·have z':=(if_pos hb).symm.trans z;cases z';subst hb;exact⟨ha,by rw[ε];exact hl,vs,_,rv,ha⟩
   ·have z':=(if_neg hb).symm.trans z;cases z'
  ·by_cases hb:b=a
   ·exact hb
   ·exact absurd (if_neg hb) z
theorem yv{l:PySem.W.OpenLaw}{n k:Nat}{q:ao}{loose:List aG}{XP:(aG->Option ζ)->Heap->Prop}{YP:aC->Heap->Prop}{d:DefRec}{K:Params->PySem.W.Frag}{CX:aC->ux}{sp:aC->Sp}{x:aG}
  (hn:l.most=some n) (hn2:n≤aA) (hdf:d.params.defaults=[]) (hr:cW k callerA)
  (hY:∀(w:aC) (h:Heap),YP w h->(K w.params).In h)
  (F:∀(w:aC) (mg:aG->Option ζ) (fa:ν) (h:Heap),(K w.params).In h->h.Ns cO mg->mg d.name=some (.ref fa) ->
   ∃fd:ik,(∀(s:η) (u:ζ),BindsTo s fd ⟨[u],[]⟩ [(x,u)]) ∧
    ∀base:Heap,(K w.params).In base->base.Ns cO mg->mC l.prog w (K w.params) mg base (CX w) k fa fd [x] (sp w))
  (um:∀(w:aC) (H:Hp) (a:ν) (ns:List Int),ns.length≤n->Av H->fw (K w.params) H a (ns.map V.int)->sp w [.ref a] H (λv _=>v=.bl true) λ_ _ _=>False)
  (JQ:∀(w:aC) (H:Hp) (s:η) (e:ζ) (s':η),CX w [] H s (λ_ _ _=>False) e s'->False):
  PySem.W.WalkO q loose XP YP l.row.toRowW d [] (λf vs=>PySem.call f vs):=by
 refine LK.yt hn hdf λw s₀ s₁ mg mb fa o pm cd doc a vs ns G Y ho hd qb hmg hobj hints hlen hg=>?_;have KX:=hY w _ Y;obtain⟨fd,hb,hF⟩:=F w mg fa _ KX G.T.g hmg;exact UI KX G.T.g G.T.b G.T.builtins G.T.nolimit hg hobj hints (aH hlen hn2) hr hF hb (λH hO hS=>um w H a ns hlen hO hS) λH e s'=>JQ w H s₁ e s'
end L2
/- THE LAST THEOREM (shape;LID,My.* are yours):
  My.Adr: a structure of the addresses that your layer names (classes,functions);My.Txt K t: a structure (Prop) of the equations over K;
  My.txt_mk:{K} {implicit addresses ..} (e1:nsIn K cO "law" = some (some (.ref f))) (e2:K.lookup f=some ⟨oc,od,.func (fnOf "law" "law" params body scope dV kV doc pm an cdv ct),sl⟩) (e3:codeIn K cdv "law" = true) ..:∃t,My.Txt K t
set_option maxRecDepth 100000 in
set_option maxHeartbeats 0 in
theorem PySem.Challenge.cw_LID_holds : PySem.Challenge.rw_LID.Holds := by
 w_on;o_law;k_head;(case hw=>w_witness2)
 k_fill
 refine L2.yv (l:=PySem.Challenge.rw_LID) (n:=63) (k:=40) (x:="script") (CX:=λw=>..) (sp:=λ_=>My.o6) rfl (by decide) rfl ⟨rfl,by decide,by decide⟩ (λw h Y=>PySem.W.kIn_of Y) ?F ?S ?C
 case F=>
  intro w mg fa h KX G hmg
  have T:∃t,My.Txt (L2.KOf KX) t:=by
   dsimp only[L2.KOf]                          -- K must stand as «<heap const> w.params» for k_is
   refine' My.txt_mk ?e1 ?e2 ?e3 ..
   (case e1=>PySem.W.k_is)                    -- in the order: a name -> its address -> its object -> its parts
   (case e2=>PySem.W.k_is)
   ..
  obtain⟨t,T⟩:=T
  have e0:=hmg.symm.trans (PySem.W.mg_of KX G T.law)
  cases e0                                       -- fa is the law's own address
  exact⟨_,λs u=>.of_eq rfl,λbase kb nb=>My.law_fn T kb nb⟩     -- if «.of_eq rfl» comes too early: refine' ⟨_,?b,λbase kb nb=>My.law_fn T kb nb⟩;exactλs u=>.of_eq rfl
 case S=>exactλw H a ns hl hO hS=>..
 case C=>exact ..
(the tactic k_is has no namespace: write k_is) -/
namespace L2
open PySem PySem.Spec PyProof.Rows
def qY(s:iz):Arguments:=match s with
 |.FunctionDef _ a _ _ _ _ _ _ _ _=>a
 |_=>{ posonlyargs:=[],args:=[],vararg:=none,kwonlyargs:=[],kw_defaults:=[],kwarg:=none,defaults:=[]}
def lZ(s:iz):List iz:=match s with
 |.FunctionDef _ _ b _ _ _ _ _ _ _=>b
 |_=>[]
def dw(s:iz):kP:=match s with
 |.FunctionDef _ _ _ _ _ _ sc _ _ _=>sc
 |_=>{ kind:=.function,names:=[],isGenerator:=false,isCoroutine:=false }
abbrev wG:ux:=λ_ _ _ _ _ _=>False
abbrev E0:XK:=λ_ _ _=>False
theorem Kr:yh wG X E0:=λ_ _ _ _ _ _ _ h=>h.elim
structure A9(K:PySem.W.Frag)(x qual:aG)(st:iz)(f:ν)(fd:ik):Prop where
 ex:∃(oc:ζ) (od:Option ν) (kV doc pm:ζ) (an:Option ν) (cdv ct:ζ) (osl:Array (Option ζ)),
  fd=PySem.W.fnOf x qual (qY st) (lZ st) (dw st) .none kV doc pm an cdv ct/\K.lookup f=some ⟨oc,od,.func fd,osl⟩/\PySem.W.codeIn K cdv qual=true
 kp:PySem.W.keepIn K (.ref f)=true
section
variable {P:ao} {w:aC} {K:PySem.W.Frag} {mg:aG->Option ζ} {base:Heap}
theorem A9.ok{x qual:aG}{st:iz}{f:ν}{fd:ik}{N ps:List aG}{k:Nat}{sp:Sp}(F:A9 K x qual st f fd)(S:jP N ps (dw st))(len:∀vs H Q E,sp vs H Q E->vs.length=ps.length)
  (vh:∀(cdv:ζ) (A:aQ) (outer:List Env) (s:η) (H:Hp) (vs:List V) (Q:VK) (E:XK),cW k (A.deeper (envOfC qual (dw st) s.heap.objs.size f cdv))->sp vs H Q E ->
   ∃t,oq (tu wG P w K mg base N qual (dw st) f cdv A outer s H E).yE (lZ st) t/\t { nx:=λ_ H'=>Q .aE H',rt:=Q } (start N vs) H):mC P w K mg base wG (k+1) f fd ps sp:=by
 obtain⟨oc,od,kV,doc,pm,an,cdv,ct,osl,rfl,lk,qb⟩:=F.ex;refine Ux lk qb S len λA outer s H vs Q E hr um=>?_;obtain⟨t,h,q⟩:=vh cdv A outer s H vs Q E hr um;exact⟨t,h.yE,q⟩
theorem UH{st:iz}{kV:ζ}(l:K.lookup f=some ⟨oc,od,.func (PySem.W.fnOf x qual (qY st) (lZ st) (dw st) .none kV doc pm an cdv ct),osl⟩)
  (c:PySem.W.codeIn K cdv qual=true) (k:PySem.W.keepIn K (.ref f)=true):A9 K x qual st f (PySem.W.fnOf x qual (qY st) (lZ st) (dw st) .none kV doc pm an cdv ct):=⟨⟨oc,od,kV,doc,pm,an,cdv,ct,osl,rfl,l,c⟩,k⟩
variable{X:Cx}
theorem pv(i:Nat){pos:d9}(hN:X.N[i]?=some x:=by rfl)(hv:Dz X.env.scope x:=by first|exact Or.inl rfl|exact tI (Or.inl rfl)|exact tI (tI rfl))(hd:(x==("__debug__":aG))=false:=by decide)
  (qb:(x==("__classdict__":aG))=false:=by decide):PE X (.Name x pos) (yS i):=Vs hN hv hd qb
end
end L2
namespace L3
open PySem PySem.Spec PyProof.Rows L2
inductive D where
 |aE|bl (b:Bool)|int (i:Int)|str (x:aG)|tup (xs:List D)|gQ (xs:List D)|obj (a:ν)|dc (a:ν)
def sh(K:PySem.W.Frag)(H:Hp)(a:ν)(xs:List V):Prop:=
 (∃o,H a=some (.iZ o (.lst xs))) ∨
  ∃(o:bT) (its:Array ζ) (n:Nat),K.lookup a=some o/\o.cls=.type "list"/\o.dict=none/\o.data=.seq its n/\its.size≤aA/\bq xs its.toList
theorem sh.l{K:PySem.W.Frag}(h:sh K H a xs):fw K H a xs:=by
 rcases h with h|h
 ·exact .inl (.inr h)
 ·exact .inr h
mutual
def Hv(K:PySem.W.Frag)(H:Hp):D->V->Prop
 |.aE,v=>v=.aE
 |.bl b,v=>v=.bl b
 |.int i,v=>v=.int i
 |.str x,v=>v=.str x
 |.tup ds,v=>∃a vs,v=.ref a/\cR K H a vs/\aU K H ds vs
 |.gQ ds,v=>∃a vs,v=.ref a/\sh K H a vs/\aU K H ds vs
 |.obj a,v=>v=.ref a
 |.dc a,v=>v=.ref a/\∃ob φ,H a=some (.iZ ob (.ext φ))/\ob.cls=.type "dict"
def aU(K:PySem.W.Frag)(H:Hp):List D->List V->Prop
 |[],vs=>vs=[]
 |d::ds,vs=>∃v r,vs=v::r/\Hv K H d v/\aU K H ds r
end
inductive GO where
 |lst (ds:List D)|qV|mS
 |gen (R:PySem.W.Frag->ν->Hp->Prop)
def GO.plain:GO->Prop
 |.gen _=>False
 |_=>True
abbrev Gp:=ν->Option GO
def fO(G:Gp)(a:ν)(o:GO):Gp:=λb=>if b=a then some o else G b
theorem oh:fO G a o a=some o:=by simp[fO]
theorem mR(h:b≠a):fO G a o b=G b:=by simp[fO,h]
theorem UG(hn:G a=none)(h:G b=some u):fO G a o b=some u:=by
 rw[mR]
 ·exact h
 ·intro e;rw[e,hn] at h;cases h
theorem UE:fO (fO G a o) a u=fO G a u:=by
 funext b;unfold fO;by_cases h:b=a
 ·rw[if_pos h,if_pos h]
 ·rw[if_neg h,if_neg h,if_neg h]
def ua(a b c:Int):Prop:=0≤a/\0≤c/\c<2147483647
def uw(K:PySem.W.Frag)(H:Hp)(a:ν):GO->Prop
 |.lst ds=>∃vs,H a=some (.lst vs)/\aU K H ds vs
 |.qV=>∃i j k,H a=some (.lst [.int i,.int j,.int k])/\ua i j k
 |.mS=>H a=some (.ext λh=>∃o,h.get? a=some o/\o.cls=.type "dict")
 |.gen R=>R K a H/\(∃o,H a=some o/\(∀xs,o≠.tup xs)/\∀ob u,o≠.iZ ob u)/\∀H1 H2:Hp,(∀b xs,H1 b=some (.tup xs)->H2 b=some (.tup xs))->(∀b o u,H1 b=some (.iZ o u)->H2 b=some (.iZ o u))->H2 a=H1 a->R K a H1->R K a H2
def bh(K:PySem.W.Frag)(G:Gp)(H:Hp):Prop:=∀a o,G a=some o->uw K H a o
structure Ext(H H':Hp):Prop where
 tup:∀b xs,H b=some (.tup xs)->H' b=some (.tup xs)
 iZ:∀b o u,H b=some (.iZ o u)->H' b=some (.iZ o u)
theorem Ext.refl(H:Hp):Ext H H:=⟨λ_ _ h=>h,λ_ _ _ h=>h⟩
theorem Ext.trans(a:Ext H H1)(b:Ext H1 H2):Ext H H2:=⟨λc x h=>b.tup c x (a.tup c x h),λc o u h=>b.iZ c o u (a.iZ c o u h)⟩
structure Step(H:Hp)(G:Gp)(H':Hp)(G':Gp):Prop where
 fr:∀a o,H a=some o->G a=none->H' a=some o
 pX:∀a,H a≠none->H' a≠none
 new:∀a,G a=none->G' a≠none->H a=none
theorem Step.refl(H:Hp)(G:Gp):Step H G H G:=⟨λ_ _ h _=>h,λ_ h=>h,λ_ h1 h2=>absurd h1 h2⟩
theorem Step.trans(a:Step H G H1 G1)(b:Step H1 G1 H2 G2):Step H G H2 G2 where
 fr:=λc o h n=>b.fr c o (a.fr c o h n) (by
  refine aB λq=>?_;rw[a.new c n q] at h;cases h)
 pX:=λc h=>b.pX c (a.pX c h)
 new:=λc n q=>by
  by_cases h1:G1 c=none
  ·have h2:=b.new c h1 q;exact aB λz=>a.pX c z h2
  ·exact a.new c n h1
def Sub(G' G:Gp):Prop:=∀a o,G' a=some o->G a=some o
theorem Sub.refl(G:Gp):Sub G G:=λ_ _ h=>h
theorem Sub.trans(a:Sub A B)(b:Sub B C):Sub A C:=λx o h=>b x o (a x o h)
theorem Sub.upd(h:G a=none):Sub G (fO G a o):=λ_ _ e=>UG h e
theorem Sub.of_none(s:Sub G' G)(h:G a=none):G' a=none:=by
 cases e:G' a with
 |none=>rfl
 |some o=>
  rw[s a o e] at h;cases h
structure d8(G:Gp)(p:ν)(o:GO)(G':Gp):Prop where
 aE:G p=none
 sub:Sub G G'
 at_:G' p=some o
theorem d8.mk'(h:G p=none):d8 G p o (fO G p o):=⟨h,Sub.upd h,oh⟩
theorem Step.sub(s:Sub G' G):Step H G H G':=⟨λ_ _ h _=>h,λ_ h=>h,λa n q=>absurd (s.of_none n) q⟩
section
variable {K:PySem.W.Frag} {H H':Hp} {G G':Gp}
theorem bh.sub(R:bh K G H)(s:Sub G' G):bh K G' H:=λa o e=>R a o (s a o e)
theorem uw.mut(h:uw K H a o):∃o,H a=some o/\(∀xs,o≠.tup xs)/\∀ob u,o≠.iZ ob u:=by
 cases o with
 |lst ds=>obtain⟨vs,e,_⟩:=h;exact⟨_,e,λ_=>nofun,λ_ _=>nofun⟩
 |qV=>obtain⟨i,j,k,e,_⟩:=h;exact⟨_,e,λ_=>nofun,λ_ _=>nofun⟩
 |mS=>exact⟨_,h,λ_=>nofun,λ_ _=>nofun⟩
 |gen R=>exact h.2.1
theorem bh.Ze(R:bh K G H)(e:H a=some (.tup xs)):G a=none:=by
 cases q:G a with
 |none=>rfl
 |some u=>
  obtain⟨o,z,h1,_⟩:=(R a u q).mut;rw[e] at z;exact absurd (aL z).symm (h1 xs)
theorem bh.outF(R:bh K G H)(e:H a=some (.iZ ob u)):G a=none:=by
 cases q:G a with
 |none=>rfl
 |some g=>
  obtain⟨o,z,_,h1⟩:=(R a g q).mut;rw[e] at z;exact absurd (aL z).symm (h1 ob u)
theorem bh.free(R:bh K G H)(e:H a=none):G a=none:=by
 cases q:G a with
 |none=>rfl
 |some u=>
  obtain⟨o,z,_⟩:=(R a u q).mut;rw[e] at z;cases z
theorem Step.ext(S:Step H G H' G')(R:bh K G H):Ext H H':=⟨λb xs h=>S.fr b _ h (R.Ze h),λb o u h=>S.fr b _ h (R.outF h)⟩
theorem cR.ext(E:Ext H H')(h:cR K H a xs):cR K H' a xs:=by
 rcases h with (h|⟨o,h⟩)|h
 ·exact .inl (.inl (E.tup _ _ h))
 ·exact .inl (.inr ⟨o,E.iZ _ _ _ h⟩)
 ·exact .inr h
theorem sh.ext(E:Ext H H')(h:sh K H a xs):sh K H' a xs:=by
 rcases h with⟨o,h⟩|h
 ·exact .inl ⟨o,E.iZ _ _ _ h⟩
 ·exact .inr h
mutual
theorem Hv.ext(E:Ext H H'):∀{d:D} {v:V},Hv K H d v->Hv K H' d v
 |.aE,_,h=>by simpa [Hv] using h
 |.bl _,_,h=>by simpa [Hv] using h
 |.int _,_,h=>by simpa [Hv] using h
 |.str _,_,h=>by simpa [Hv] using h
 |.obj _,_,h=>by simpa [Hv] using h
 |.dc a,v,h=>by
  unfold Hv at h ⊢;obtain⟨e,ob,φ,q,c⟩:=h;exact⟨e,ob,φ,E.iZ _ _ _ q,c⟩
 |.tup ds,v,h=>by
  unfold Hv at h ⊢;obtain⟨a,vs,e,q,r⟩:=h;exact⟨a,vs,e,cR.ext E q,aU.ext E r⟩
 |.gQ ds,v,h=>by
  unfold Hv at h ⊢;obtain⟨a,vs,e,q,r⟩:=h;exact⟨a,vs,e,sh.ext E q,aU.ext E r⟩
theorem aU.ext(E:Ext H H'):∀{ds:List D} {vs:List V},aU K H ds vs->aU K H' ds vs
 |[],_,h=>by simpa [aU] using h
 |d::ds,vs,h=>by
  unfold aU at h ⊢;obtain⟨v,r,e,q,z⟩:=h;exact⟨v,r,e,Hv.ext E q,aU.ext E z⟩
end
theorem aU.nil:aU K H [] []:=by simp[aU]
theorem aU.cons(h:Hv K H d v)(r:aU K H ds vs):aU K H (d::ds) (v::vs):=⟨v,vs,rfl,h,r⟩
theorem aU.inv(h:aU K H (d::ds) vs):∃v r,vs=v::r/\Hv K H d v/\aU K H ds r:=h
theorem aU.kn(h:aU K H [] vs):vs=[]:=h
theorem aU.length:∀{ds:List D} {vs:List V},aU K H ds vs->ds.length=vs.length
 |[],_,h=>by rw[h.kn];rfl
 |d::ds,vs,h=>by
  obtain⟨v,r,rfl,_,q⟩:=h.inv;simp[q.length]
theorem aU.get:∀{ds:List D} {vs:List V} {i:Nat} {d:D},aU K H ds vs->ds[i]?=some d->∃v,vs[i]?=some v/\Hv K H d v
 |[],_,_,_,_,e=>by simp at e
 |x::ds,vs,0,d,h,e=>by
  obtain⟨v,r,rfl,q,_⟩:=h.inv;simp at e;subst e;exact⟨v,rfl,q⟩
 |x::ds,vs,i+1,d,h,e=>by
  obtain⟨v,r,rfl,_,q⟩:=h.inv;obtain⟨u,e2,q2⟩:=q.get e;exact⟨u,by simpa using e2,q2⟩
theorem aU.append:∀{ds es:List D} {vs us:List V},aU K H ds vs->aU K H es us->aU K H (ds++es) (vs++us)
 |[],es,_,_,h,q=>by rw[h.kn];exact q
 |d::ds,es,vs,us,h,q=>by
  obtain⟨v,r,rfl,z,w⟩:=h.inv;exact .cons z (w.append q)
theorem aU.drop:∀{ds:List D} {vs:List V} (n:Nat),aU K H ds vs->aU K H (ds.drop n) (vs.drop n)
 |ds,vs,0,h=>h
 |[],_,n+1,h=>by rw[h.kn];exact .nil
 |d::ds,vs,n+1,h=>by
  obtain⟨v,r,rfl,_,q⟩:=h.inv;exact q.drop n
theorem aU.take:∀{ds:List D} {vs:List V} (n:Nat),aU K H ds vs->aU K H (ds.take n) (vs.take n)
 |ds,vs,0,h=>by simpa using aU.nil
 |[],_,n+1,h=>by rw[h.kn];exact .nil
 |d::ds,vs,n+1,h=>by
  obtain⟨v,r,rfl,q,z⟩:=h.inv;exact .cons q (z.take n)
theorem aU.set:∀{ds:List D} {vs:List V} (i:Nat) {d:D} {v:V},aU K H ds vs->Hv K H d v->aU K H (ds.set i d) (vs.set i v)
 |[],_,i,d,v,h,_=>by rw[h.kn];exact .nil
 |x::ds,vs,0,d,v,h,q=>by
  obtain⟨u,r,rfl,_,z⟩:=h.inv;exact .cons q z
 |x::ds,vs,i+1,d,v,h,q=>by
  obtain⟨u,r,rfl,y,z⟩:=h.inv;exact .cons y (z.set i q)
theorem aU.rep(h:aU K H ds vs):∀k:Nat,aU K H (bF k ds).flatten (bF k vs).flatten
 |0=>.nil
 |k+1=>h.append (h.rep k)
theorem aU.ints:∀(ns:List Int),aU K H (ns.map D.int) (ns.map V.int)
 |[]=>.nil
 |n::ns=>.cons (by simp[Hv]) (aU.ints ns)
theorem Ext.laid{p:ν}{o:HO}(h:H p=none):Ext H (upd H p o):=⟨λb xs e=>by rw[fj (qU e h)];exact e,λb x u e=>by rw[fj (qU e h)];exact e⟩
theorem uw.ext(h:uw K H a o)(E:Ext H H')(e:H' a=H a):uw K H' a o:=by
 cases o with
 |lst ds=>
  obtain⟨vs,z,q⟩:=h;exact⟨vs,e.trans z,q.ext E⟩
 |qV=>
  obtain⟨i,j,k,z,q⟩:=h;exact⟨i,j,k,e.trans z,q⟩
 |mS=>exact e.trans h
 |gen R=>
  obtain⟨h1,h2,h3⟩:=h;exact⟨h3 H H' E.tup E.iZ e h1,by rw[e];exact h2,h3⟩
theorem bh.laid(R:bh K G H)(h:H p=none):bh K G (upd H p o):=λa u e=>by
 have hne:a≠p:=λz=>by
  rw[z,R.free h] at e;cases e
 exact (R a u e).ext (Ext.laid h) (fj hne)
theorem bh.iq(R:bh K G H)(h:H p=none)(new:uw K (upd H p o) p g):bh K (fO G p g) (upd H p o):=λa u e=>by
 by_cases z:a=p
 ·subst z;rw[oh] at e;cases e;exact new
 ·rw[mR z] at e;exact (R.laid h) a u e
theorem Step.laid(h:H p=none):Step H G (upd H p o) G:=⟨λa u e _=>by rw[fj (qU e h)];exact e,λa q=>by
 by_cases z:a=p
 ·rw[z,jw];simp
 ·rw[fj z];exact q,λa n q=>absurd n q⟩
theorem Step.iq(h:H p=none):Step H G (upd H p o) (fO G p g):=⟨(Step.laid (G:=G) h).fr,(Step.laid (G:=G) h).pX,λa n q=>by
 by_cases z:a=p
 ·rw[z];exact h
 ·rw[mR z] at q;exact absurd n q⟩
theorem UD{p b:ν}{xs ys:List V}(h:H p=some (.lst xs))(e:H b=some (.tup ys)):b≠p:=λz=>by
 rw[z,h] at e;cases e
theorem UC(h:H p=some (.lst xs))(e:H b=some (.iZ o u)):b≠p:=λz=>by
 rw[z,h] at e;cases e
theorem Ext.wrote(h:H p=some (.lst xs)):Ext H (upd H p o):=
 ⟨λb ys e=>by rw[fj (UD h e)];exact e,λb x u e=>by rw[fj (UC h e)];exact e⟩
theorem bh.wrote(R:bh K G H)(h:H p=some (.lst xs))(new:uw K (upd H p o) p g):bh K (fO G p g) (upd H p o):=λa u e=>by
 by_cases z:a=p
 ·subst z;rw[oh] at e;cases e;exact new
 ·rw[mR z] at e;exact (R a u e).ext (Ext.wrote h) (fj z)
theorem bh.nN(R:bh K G H)(h:H p=none)(hv:aU K H ds xs):bh K (fO G p (.lst ds)) (upd H p (.lst xs)):=R.iq h ⟨xs,jw,hv.ext (.laid h)⟩
theorem bh.AE(R:bh K G H)(e:H p=some (.lst xs))(hv:aU K H ds ys):bh K (fO G p (.lst ds)) (upd H p (.lst ys)):=R.wrote e ⟨ys,jw,hv.ext (.wrote e)⟩
theorem Step.wrote(h:G p=some u):Step H G (upd H p o) (fO G p g):=⟨λa x e n=>by
 have hne:a≠p:=λz=>by
  rw[z,h] at n;cases n
 rw[fj hne];exact e,λa q=>by
 by_cases z:a=p
 ·rw[z,jw];simp
 ·rw[fj z];exact q,λa n q=>by
 have hne:a≠p:=λz=>by
  rw[z,h] at n;cases n
 rw[mR hne] at q;exact absurd n q⟩
end
abbrev S3:=List (Option D)
def lq:S3->Nat->Option D
 |[],_=>none
 |x::_,0=>x
 |_::r,n+1=>lq r n
def nM:S3->Nat->D->S3
 |[],_,_=>[]
 |_::r,0,d=>some d::r
 |x::r,n+1,d=>x::nM r n d
structure fR(K:PySem.W.Frag)(τ:S3)(σ:L2.St)(H:Hp):Prop where
 len:τ.length=σ.length
 at_:∀(i:Nat) d,lq τ i=some d->∃v,σ[i]?=some (some v)/\Hv K H d v
theorem II:∀(τ:S3) (i:Nat) (d:D),(nM τ i d).length=τ.length
 |[],_,_=>rfl
 |_::r,0,d=>rfl
 |x::r,n+1,d=>by simp[nM,II r n d]
theorem IH:∀(τ:S3) (i j:Nat) (d:D),lq (nM τ i d) j=if j=i/\i<τ.length then some d else lq τ j
 |[],i,j,d=>by simp[nM,lq]
 |x::r,0,0,d=>by simp[nM,lq]
 |x::r,0,j+1,d=>by simp[nM,lq]
 |x::r,i+1,0,d=>by simp[nM,lq]
 |x::r,i+1,j+1,d=>by
  simp only[nM,lq,IH r i j d,ai];by_cases h:j=i/\i<r.length
  ·rw[if_pos h,if_pos (by lia)]
  ·rw[if_neg h,if_neg (by lia)]
section
variable {K:PySem.W.Frag} {τ:S3} {σ:L2.St} {H H':Hp}
theorem fR.ext(R:fR K τ σ H)(E:Ext H H'):fR K τ σ H':=⟨R.len,λi d h=>by
 obtain⟨v,e,q⟩:=R.at_ i d h;exact⟨v,e,q.ext E⟩⟩
theorem fR.set(R:fR K τ σ H)(h:Hv K H d v):fR K (nM τ i d) (σ.set i (some v)) H:=⟨by rw[II,List.length_set];exact R.len,λj e q=>by
 rw[IH] at q;by_cases c:j=i/\i<τ.length
 ·rw[if_pos c] at q;cases q;refine⟨v,?_,h⟩;rw[c.1,lB (by rw[←R.len];exact c.2)]
 ·rw[if_neg c] at q;obtain⟨u,e1,e2⟩:=R.at_ j e q;refine⟨u,?_,e2⟩;by_cases hij:i=j
  ·subst hij;have:σ.length≤i:=by
    have:=R.len;lia
   rw[eD.mpr this] at e1;cases e1
  ·rw[mK hij];exact e1⟩
end
def aY:List aG->List D->S3
 |[],_=>[]
 |_::N,[]=>none::aY N []
 |_::N,d::ds=>some d::aY N ds
theorem Cz:∀(N:List aG) (ds:List D),(aY N ds).length=N.length
 |[],_=>rfl
 |_::N,[]=>by simp[aY,Cz N []]
 |_::N,d::ds=>by simp[aY,Cz N ds]
theorem IG:∀(N:List aG) (i:Nat),lq (aY N []) i=none
 |[],i=>rfl
 |_::N,0=>rfl
 |_::N,i+1=>IG N i
theorem IF:∀(N:List aG) (ds:List D) (i:Nat) (d:D),lq (aY N ds) i=some d->ds[i]?=some d
 |[],_,_,_,h=>by cases h
 |_::N,[],i,d,h=>by
  rw[IG] at h;cases h
 |_::N,x::ds,0,d,h=>by
  simp only[aY,lq] at h;simpa using h
 |_::N,x::ds,i+1,d,h=>by
  simpa using IF N ds i d h
theorem fR.start{K:PySem.W.Frag}(h:aU K H ds vs)(hl:vs.length≤N.length):fR K (aY N ds) (L2.start N vs) H:=⟨by
 rw[Cz];simp[L2.start];lia,λi d e=>by
 obtain⟨v,e1,q⟩:=h.get (IF N ds i d e);refine⟨v,?_,q⟩;unfold L2.start;have hi:=(Γ.mp e1).1;rw[cx (by simpa using hi),ax,e1];rfl⟩
abbrev V3:=D->Gp->Prop
abbrev cu:=S3->Gp->V3->Prop
abbrev jY:=S3->Gp->(Bool->Gp->Prop)->Prop
abbrev jK:=S3->Gp->(List D->Gp->Prop)->Prop
structure rU where
 nx:S3->Gp->Prop
 rt:V3
 bk:S3->Gp->Prop:=λ_ _=>False
 ct:S3->Gp->Prop:=λ_ _=>False
abbrev au:=rU->S3->Gp->Prop
def low(K:PySem.W.Frag)(t:cu):TE:=λσ H Q=>∃τ G Q3,fR K τ σ H/\bh K G H/\t τ G Q3/\∀v H' d G',Hv K H' d v->Step H G H' G'->bh K G' H'->Q3 d G'->Q v H'
def rN(K:PySem.W.Frag)(t:jY):TT:=λσ H Q=>∃τ G Q3,fR K τ σ H/\bh K G H/\t τ G Q3/\∀b H' G',Step H G H' G'->bh K G' H'->Q3 b G'->Q b H'
def wc(K:PySem.W.Frag)(t:jK):TA:=λσ H Q=>∃τ G Q3,fR K τ σ H/\bh K G H/\t τ G Q3/\∀vs H' ds G',aU K H' ds vs->Step H G H' G'->bh K G' H'->Q3 ds G'->Q vs H'
structure ub(K:PySem.W.Frag)(H:Hp)(G:Gp)(D3:rU)(D2:Ends):Prop where
 nx:∀τ σ G' H',fR K τ σ H'->Step H G H' G'->bh K G' H'->D3.nx τ G'->D2.nx σ H'
 bk:∀τ σ G' H',fR K τ σ H'->Step H G H' G'->bh K G' H'->D3.bk τ G'->D2.bk σ H'
 ct:∀τ σ G' H',fR K τ σ H'->Step H G H' G'->bh K G' H'->D3.ct τ G'->D2.ct σ H'
 rt:∀d v G' H',Hv K H' d v->Step H G H' G'->bh K G' H'->D3.rt d G'->D2.rt v H'
theorem ub.step{K:PySem.W.Frag}(E:ub K H G D3 D2)(S:Step H G H1 G1):ub K H1 G1 D3 D2:=
 ⟨λτ σ G' H' a b c q=>E.nx τ σ G' H' a (S.trans b) c q,λτ σ G' H' a b c q=>E.bk τ σ G' H' a (S.trans b) c q,λτ σ G' H' a b c q=>E.ct τ σ G' H' a (S.trans b) c q,λd v G' H' a b c q=>E.rt d v G' H' a (S.trans b) c q⟩
def JC(K:PySem.W.Frag)(t:au):TS:=λD2 σ H=>∃τ G D3,fR K τ σ H/\bh K G H/\t D3 τ G/\ub K H G D3 D2
abbrev cv(X:Cx)(e:aT)(t:cu):Prop:=PE X e (low X.K t)
abbrev qf(X:Cx)(e:aT)(t:jY):Prop:=PT X e (rN X.K t)
abbrev wF(X:Cx)(e:aT)(t:jY):Prop:=PW X e (rN X.K t)
abbrev l5(X:Cx)(es:List aT)(t:jK):Prop:=PA X es (wc X.K t)
abbrev pB(X:Cx)(st:iz)(t:au):Prop:=PS X st (JC X.K t)
abbrev qy(X:Cx)(st:List iz)(t:au):Prop:=oq X st (JC X.K t)
section
variable {X:Cx} {e:aT}
theorem jJ(h:PE X e t)(f:∀σ H Q,t' σ H Q->t σ H Q):PE X e t':=λpins s σ H Q I q=>h pins s σ H Q I (f σ H Q q)
theorem Cy(h:PT X e t)(f:∀σ H Q,t' σ H Q->t σ H Q):PT X e t':=λpins s σ H Q I q=>h pins s σ H Q I (f σ H Q q)
theorem pw_of(h:PW X e t)(f:∀σ H Q,t' σ H Q->t σ H Q):PW X e t':=λw pins s σ H Q I q=>h w pins s σ H Q I (f σ H Q q)
theorem IE(h:PA X es t)(f:∀σ H Q,t' σ H Q->t σ H Q):PA X es t':=λp pins s σ H Q I q=>h p pins s σ H Q I (f σ H Q q)
theorem sf{st:iz}(h:PS X st t)(f:∀D σ H,t' D σ H->t D σ H):PS X st t':=λpins s σ H Q I q=>h pins s σ H Q I (f Q σ H q)
theorem ID{st:List iz}(h:oq X st t)(f:∀D σ H,t' D σ H->t D σ H):oq X st t':=λpins s σ H Q I q=>h pins s σ H Q I (f Q σ H q)
end
def Br(b:Bool)(A B:Prop):Prop:=(b=true->A)/\(b=false->B)
theorem Br.ite{B':Prop}(h:Br b A B)(f:A->A')(g:B->B'):if b=true then A' else B':=by
 cases b with
 |true=>rw[if_pos rfl];exact f (h.1 rfl)
 |false=>rw[if_neg af];exact g (h.2 rfl)
section
variable {X:Cx} {a b e c:aT} {ta tb te:cu} {tA tB:jY} {pos:d9} {es rest:List aT}
def eC(d:D):cu:=λ_ G Q=>Q d G
def θ(i:Nat):cu:=λτ G Q=>match lq τ i with
 |some d=>Q d G
 |none=>False
theorem UB(h:PE X (.Name x pos) (yS i)):cv X (.Name x pos) (θ i):=jJ h λσ H Q zz=>by
 obtain⟨τ,G,Q3,RS,RG,h,k⟩:=zz;unfold θ at h;cases hd:lq τ i with
 |none=>rw[hd] at h;exact h.elim
 |some d=>
  rw[hd] at h;obtain⟨v,e1,e2⟩:=RS.at_ i d hd;exact⟨v,e1,k v H d G e2 (.refl H G) RG h⟩
theorem z8(h:PE X e (tC v))(r:∀H,Hv X.K H d v):cv X e (eC d):=jJ h λσ H Q zz=>by obtain⟨τ,G,Q3,RS,RG,h,k⟩:=zz;exact k v H d G (r H) (.refl H G) RG h
theorem UA:cv X (.Constant (.int i) j pos) (eC (.int i)):=z8 Jc λH=>by simp[Hv]
theorem ZF:cv X (.Constant (.bool i) j pos) (eC (.bl i)):=z8 Vr λH=>by simp[Hv]
theorem Uz:cv X (.Constant .none j pos) (eC .aE):=z8 Vq λH=>by simp[Hv]
theorem TL{x:aG}{i:Int}{u:Tok}(hm:X.mg x=some (.int i u))(hg:Gl X x:=by rfl)(hd:(x==("__debug__":aG))=false:=by decide):cv X (.Name x pos) (eC (.int i)):=z8 (v:=.int i) (Vp hg hm ⟨u,rfl⟩ hd) λH=>by simp[Hv]
abbrev R3:=D->D->Gp->V3->Prop
def aq(r:R3)(ta tb:cu):cu:=λτ G Q=>ta τ G λx G1=>tb τ G1 λy G2=>r x y G2 Q
def eG(K:PySem.W.Frag)(r:R3)(r2:R2):Prop:=∀x y vx vy G H Q3 Q,Hv K H x vx->Hv K H y vy->bh K G H->r x y G Q3->(∀v H' d G',Hv K H' d v->Step H G H' G'->bh K G' H'->Q3 d G'->Q v H')->r2 vx vy H Q
theorem zZ{K:PySem.W.Frag}(L:eG K r r2)(h:low K (aq r ta tb) σ H Q):AG r2 (low K ta) (low K tb) σ H Q:=by
 obtain⟨τ,G,Q3,RS,RG,h,k⟩:=h;exact⟨τ,G,_,RS,RG,h,λv1 H1 d1 G1 h1 S1 R1 q1=>⟨τ,G1,_,RS.ext (S1.ext RG),R1,q1,λv2 H2 d2 G2 h2 S2 R2 q2=>(L _ _ _ _ _ _ _ _ (h1.ext (S2.ext R1)) h2 R2 q2 λv H' d G' z1 z2 z3 z4=>k v H' d G' z1 ((S1.trans S2).trans z2) z3 z4)⟩⟩
theorem ZD(L:eG X.K r r2)(ho:eV X (binaryOp op) r2)(ha:cv X a ta)(hb:cv X b tb):cv X (.BinOp a op b pos) (aq r ta tb):=
 jJ (UT ho ha hb) λ_ _ _ h=>zZ L h
theorem TK(L:eG X.K r r2)(ho:eV X (compareOp op) r2)(ha:cv X a ta)(hb:cv X b tb)(hm:behindInMarks op b=false):cv X (.Compare a [op] [b] pos) (aq r ta tb):=
 jJ (UL ho ha hb hm) λ_ _ _ h=>zZ L h
def bz(t:cu):jY:=λτ G Q=>t τ G λx G1=>match x with
 |.bl k=>Q k G1
 |_=>False
theorem IC{K:PySem.W.Frag}(h:rN K (bz t) σ H Q):C5 (low K t) σ H Q:=by
 obtain⟨τ,G,Q3,RS,RG,h,k⟩:=h;refine⟨τ,G,_,RS,RG,h,λv H' d G' h1 h2 h3 h4=>?_⟩;cases d with
 |bl c=>
  exact⟨c,h1,k c H' G' h2 h3 h4⟩
 |_=>exact h4.elim
theorem TJ(L:eG X.K r r2)(ho:eV X (compareOp op) r2)(ha:cv X a ta)(hb:cv X b tb)(hm:behindInMarks op b=false):qf X (.Compare a [op] [b] pos) (bz (aq r ta tb)):=
 Cy (UK ho ha hb hm) λσ H Q h=>by
  obtain⟨τ,G,Q3,RS,RG,h,k⟩:=IC h;exact zZ L ⟨τ,G,Q3,RS,RG,h,k⟩
theorem TH(h:cv X a ta)(he:∀whole,isTrue a X.env whole=(do let v ←whole;standAt a.pos;holding [v] (truthy v)):=by intro _;rfl):qf X a (bz ta):=
 Cy (Vh h he) λσ H Q h=>by
  obtain⟨τ,G,Q3,RS,RG,h,k⟩:=IC h;refine⟨τ,G,Q3,RS,RG,h,λv H' d G' h1 h2 h3 h4=>?_⟩;obtain⟨c,rfl,q⟩:=k v H' d G' h1 h2 h3 h4;exact⟨c,rfl,q⟩
def vt(r r':R3)(ta tb tc:cu):cu:=λτ G Q=>ta τ G λx G1=>tb τ G1 λy G2=>r x y G2 λz G3=>match z with
 |.bl k=>Br k (tc τ G3 λw G4=>r' y w G4 Q) (Q (.bl false) G3)
 |_=>False
theorem TF{K:PySem.W.Frag}(L:eG K r r2)(L':eG K r' r2')(h:low K (vt r r' ta tb tc) σ H Q):wU r2 r2' (low K ta) (low K tb) (low K tc) σ H Q:=by
 obtain⟨τ,G,Q3,RS,RG,h,k⟩:=h;refine⟨τ,G,_,RS,RG,h,λv1 H1 d1 G1 h1 S1 R1 q1=>⟨τ,G1,_,RS.ext (S1.ext RG),R1,q1,λv2 H2 d2 G2 h2 S2 R2 q2=>(L _ _ _ _ _ _ _ _ (h1.ext (S2.ext R1)) h2 R2 q2 λv H3 d G3 z1 S3 R3 z4=>?_)⟩⟩;cases d with
 |bl c=>
  refine⟨c,z1,Br.ite z4 (λq=>?_) λq=>?_⟩
  ·refine⟨τ,G3,_,((RS.ext (S1.ext RG)).ext (S2.ext R1)).ext (S3.ext R2),R3,q,λv4 H4 d4 G4 h4 S4 R4 q4=>?_⟩;exact L' _ _ _ _ _ _ _ _ ((h2.ext (S3.ext R2)).ext (S4.ext R3)) h4 R4 q4 λv H' d G' y1 y2 y3 y4=>k v H' d G' y1 ((((S1.trans S2).trans S3).trans S4).trans y2) y3 y4
  ·exact k _ H3 (.bl false) G3 (by simp[Hv]) ((S1.trans S2).trans S3) R3 q
 |_=>exact z4.elim
theorem TC{op op':CmpOp}{r r':R3}{r2 r2':R2}{tc:cu}(L:eG X.K r r2)(L':eG X.K r' r2')(h:PE X e (wU r2 r2' (low X.K ta) (low X.K tb) (low X.K tc))):cv X e (vt r r' ta tb tc):=
 jJ h λ_ _ _ h=>TF L L' h
def tp(t u:jY):jY:=λτ G Q=>t τ G λc G1=>Br c (u τ G1 Q) (Q false G1)
def ya(t u:jY):jY:=λτ G Q=>t τ G λc G1=>Br c (Q true G1) (u τ G1 Q)
def wg(t:jY):jY:=λτ G Q=>t τ G λc G1=>Q (!c) G1
theorem TB(ha:qf X a tA):wF X (.BoolOp .And [a] pos) tA:=pw_and1 ha
theorem Tz(ha:qf X a tA):wF X (.BoolOp .Or [a] pos) tA:=pw_or1 ha
theorem IB(ha:qf X a tA)(hb:wF X (.BoolOp .And (b::rest) pos) tB):wF X (.BoolOp .And (a::b::rest) pos) (tp tA tB):=pw_of (pw_and ha hb) λσ H Q h=>by
 obtain⟨τ,G,Q3,RS,RG,h,k⟩:=h;exact⟨τ,G,_,RS,RG,h,λc H1 G1 S1 R1 q1=>(Br.ite q1 (λq=>⟨τ,G1,Q3,RS.ext (S1.ext RG),R1,q,λb' H' G' y1 y2 y3=>k b' H' G' (S1.trans y1) y2 y3⟩) λq=>k false H1 G1 S1 R1 q)⟩
theorem IA(ha:qf X a tA)(hb:wF X (.BoolOp .Or (b::rest) pos) tB):wF X (.BoolOp .Or (a::b::rest) pos) (ya tA tB):=pw_of (pw_or ha hb) λσ H Q h=>by
 obtain⟨τ,G,Q3,RS,RG,h,k⟩:=h;exact⟨τ,G,_,RS,RG,h,λc H1 G1 S1 R1 q1=>(Br.ite q1 (λq=>k true H1 G1 S1 R1 q) λq=>⟨τ,G1,Q3,RS.ext (S1.ext RG),R1,q,λb' H' G' y1 y2 y3=>k b' H' G' (S1.trans y1) y2 y3⟩)⟩
theorem DT(h:wF X a tA):qf X a tA:=h.pt
theorem Tx(ha:qf X a tA):qf X (.UnaryOp .Not a pos) (wg tA):=Cy (Vn ha) λσ H Q h=>by
 obtain⟨τ,G,Q3,RS,RG,h,k⟩:=h;exact⟨τ,G,_,RS,RG,h,λc H1 G1 S1 R1 q1=>k _ H1 G1 S1 R1 q1⟩
def ni(ta tb:cu):cu:=λτ G Q=>ta τ G λx G1=>match x with
 |.bl c=>Br c (tb τ G1 Q) (Q (.bl false) G1)
 |_=>False
def Dw(ta:cu):cu:=λτ G Q=>ta τ G λx G1=>match x with
 |.bl c=>Q (.bl (!c)) G1
 |_=>False
theorem Tw(h:cv X a ta):cv X (.BoolOp op [a] pos) ta:=Vm h
theorem Tv(ha:cv X a ta)(hb:cv X (.BoolOp .And (b::rest) pos) tb):cv X (.BoolOp .And (a::b::rest) pos) (ni ta tb):=jJ (Vl ha hb) λσ H Q h=>by
 obtain⟨τ,G,Q3,RS,RG,h,k⟩:=h;refine⟨τ,G,_,RS,RG,h,λv H1 d G1 h1 S1 R1 q1=>?_⟩;cases d with
 |bl c=>
  exact⟨c,h1,Br.ite q1 (λq=>⟨τ,G1,Q3,RS.ext (S1.ext RG),R1,q,λb' H' d' G' y0 y1 y2 y3=>k b' H' d' G' y0 (S1.trans y1) y2 y3⟩) λq=>k _ H1 (.bl false) G1 (by simp[Hv]) S1 R1 q⟩
 |_=>exact q1.elim
theorem Tu(ha:cv X a ta):cv X (.UnaryOp .Not a pos) (Dw ta):=jJ (VJ ha) λσ H Q h=>by
 obtain⟨τ,G,Q3,RS,RG,h,k⟩:=h;refine⟨τ,G,_,RS,RG,h,λv H1 d G1 h1 S1 R1 q1=>?_⟩;cases d with
 |bl c=>
  exact⟨c,h1,k _ H1 (.bl (!c)) G1 (by simp[Hv]) S1 R1 q1⟩
 |_=>exact q1.elim
def J5(t:jY)(ta tb:cu):cu:=λτ G Q=>t τ G λc G1=>Br c (ta τ G1 Q) (tb τ G1 Q)
theorem Tt(hc:qf X c tA)(ha:cv X a ta)(hb:cv X b tb):cv X (.IfExp c a b pos) (J5 tA ta tb):=jJ (VI hc ha hb) λσ H Q h=>by
 obtain⟨τ,G,Q3,RS,RG,h,k⟩:=h;exact⟨τ,G,_,RS,RG,h,λc H1 G1 S1 R1 q1=>(Br.ite q1 (λq=>⟨τ,G1,Q3,RS.ext (S1.ext RG),R1,q,λb' H' d' G' y0 y1 y2 y3=>k b' H' d' G' y0 (S1.trans y1) y2 y3⟩) λq=>⟨τ,G1,Q3,RS.ext (S1.ext RG),R1,q,λb' H' d' G' y0 y1 y2 y3=>k b' H' d' G' y0 (S1.trans y1) y2 y3⟩)⟩
def notStar:aT->Bool
 |.Starred ..=>false
 |_=>true
theorem eU(h:notStar e=true):bP (e::es) env=(false,eval e env)::bP es env:=by
 cases e<;>first|rfl|(simp[notStar] at h)
theorem k9:∀{es:List aT},es.all notStar=true->(backTo pos (bP es env)).any (·.1)=false
 |[],_=>rfl
 |e::es,h=>by
  rw[List.all_cons,aM] at h;rw[eU h.1];show (false||(backTo pos (bP es env)).any (·.1))=false;rw[k9 h.2];rfl
def ab:jK:=λ_ G Q=>Q [] G
def ξ(ta:cu)(tr:jK):jK:=λτ G Q=>ta τ G λx G1=>tr τ G1 λxs G2=>Q (x::xs) G2
theorem Ts:l5 X [] ab:=IE uk λσ H Q zz=>by obtain⟨τ,G,Q3,RS,RG,h,k⟩:=zz;exact k [] H [] G .nil (.refl H G) RG h
theorem Tr(ha:cv X a ta)(hr:l5 X es tr)(hs:notStar a=true:=by rfl):l5 X (a::es) (ξ ta tr):=IE (sW ha hr (eU hs)) λσ H Q h=>by
 obtain⟨τ,G,Q3,RS,RG,h,k⟩:=h;exact⟨τ,G,_,RS,RG,h,λv1 H1 d1 G1 h1 S1 R1 q1=>⟨τ,G1,_,RS.ext (S1.ext RG),R1,q1,λvs H2 ds G2 h2 S2 R2 q2=>(k _ H2 _ G2 (.cons (h1.ext (S2.ext R1)) h2) (S1.trans S2) R2 q2)⟩⟩
def uY{α:Type}(P:Prop):List α->Nat->Prop
 |[],_=>P
 |_::_,0=>False
 |_::xs,n+1=>uY P xs n
theorem Cw:∀{xs:List α} {n:Nat},uY P xs n->xs.length≤n/\P
 |[],n,h=>⟨ar _,h⟩
 |_::_,0,h=>h.elim
 |_::xs,n+1,h=>by
  obtain⟨h1,h2⟩:=Cw (xs:=xs) (n:=n) h;exact⟨Nat.succ_le_succ h1,h2⟩
theorem AQ(h:n≤64):n≤aA:=aH h (by decide)
def fN(t:jK):cu:=λτ G Q=>t τ G λds G1=>uY (Q (.tup ds) G1) ds 64
def kW(t:jK):cu:=λτ G Q=>t τ G λds G1=>uY (∀p G2,d8 G1 p (.lst ds) G2->Q (.obj p) G2) ds 64
theorem Tq(h:l5 X es t):cv X (.Tuple es x1 pos) (fN t):=jJ (Ve h) λσ H Q h=>by
 obtain⟨τ,G,Q3,RS,RG,h,k⟩:=h;refine⟨τ,G,_,RS,RG,h,λvs H1 ds G1 h1 S1 R1 q1=>?_⟩;obtain⟨z,q1⟩:=Cw q1;exact⟨by rw[←h1.length];exact AQ z,λp hp=>(k _ _ (.tup ds) G1 ⟨p,vs,rfl,.of jw,h1.ext (.laid hp)⟩ (S1.trans (.laid hp)) (R1.laid hp) q1)⟩
theorem Tp(h:l5 X es t):cv X (.List es pos) (kW t):=jJ (Vd h) λσ H Q h=>by
 obtain⟨τ,G,Q3,RS,RG,h,k⟩:=h;refine⟨τ,G,_,RS,RG,h,λvs H1 ds G1 h1 S1 R1 q1=>?_⟩;obtain⟨z,q1⟩:=Cw q1;exact⟨by rw[←h1.length];exact AQ z,λp hp=>(k _ _ (.obj p) (fO G1 p (.lst ds)) (by simp[Hv]) (S1.trans (.iq hp)) (R1.iq hp ⟨vs,jw,h1.ext (.laid hp)⟩) (q1 p _ (.mk' (R1.free hp))))⟩
end
end L3
namespace L2
open PySem PySem.Spec PyProof.Rows
def mV(env:Env):List (aG×gN)->List (aG×ν)->List (aG×ν)
 |[],acc=>acc
 | (n,k)::r,acc=>mV env r (if k=.free then (n,(env.cells.lookup n).getD 0)::acc else acc)
theorem Iz(h:∀y∈scope.names,y.2=.free->∃c,env.cells.lookup y.1=some c):closureFor scope env=pure (mV env scope.names []):=by
 have key:∀(l:List (aG×gN)) (acc:List (aG×ν)),(∀y∈l,y.2=.free->∃c,env.cells.lookup y.1=some c) ->
   (forIn l acc λ(x:aG×gN) (r:List (aG×ν))=>(do
    if (x.2==cS)=true then do
     let a ←cellOf env x.1
     pure (gM ((x.1,a)::r))
    else pure (gM r):Sem (ForInStep (List (aG×ν)))))=pure (mV env l acc):=by
  intro l
  induction l with
  |nil=>intro acc _;rfl
  |cons y r ih=>
   intro acc hy;obtain⟨n,k⟩:=y;rw[qm];by_cases hk:k=.free
   ·obtain⟨c,hc⟩:=hy (n,k) ι hk;have e1:cellOf env n=pure c:=by unfold cellOf;rw[show env.cells.lookup n=some c from hc]
    subst hk;simp only[beq_self_eq_true,if_true,e1,pure_bind];rw[ih _ λy hy'=>hy y (μ _ hy')];show _=pure (mV env r (if cS=cS then (n,(env.cells.lookup n).getD 0)::acc else acc));rw[if_pos rfl,show env.cells.lookup n=some c from hc];rfl
   ·have hb:(k==cS)=false:=by simpa using hk
    simp only[hb,eQ,if_false,pure_bind];rw[ih _ λy hy'=>hy y (μ _ hy')];show _=pure (mV env r (if k=cS then (n,(env.cells.lookup n).getD 0)::acc else acc));rw[if_neg hk]
 have:=key scope.names [] h;unfold closureFor
 first
  |exact (by simpa using this)
  | (simp only[bind_pure];exact this)
theorem Iy:∀(l:List (aG×gN)) (acc:List (aG×ν)),(mV env l acc).lookup x=some c ->
  acc.lookup x=some c∨((x,cS)∈l/\c=(env.cells.lookup x).getD 0)
 |[],_,h=>.inl h
 | (n,k)::r,acc,h=>by
  rcases Iy r _ h with q|⟨q1,q2⟩
  ·by_cases hk:k=.free
   ·rw[if_pos hk,ig] at q;by_cases hx:(x==n)=true
    ·rw[hx] at q;have hx':x=n:=by simpa using hx
     subst hx' hk;exact .inr ⟨ι,(aL q).symm⟩
    ·have hx2:(x==n)=false:=by simpa using hx
     rw[hx2] at q;exact .inl q
   ·rw[if_neg hk] at q;exact .inl q
  ·exact .inr ⟨μ _ q1,q2⟩
theorem Iw:∀(l:List (aG×gN)) (acc:List (aG×ν)),acc.lookup x=some ((env.cells.lookup x).getD 0)->(mV env l acc).lookup x=some ((env.cells.lookup x).getD 0)
 |[],_,h=>h
 | (n,k)::r,acc,h=>by
  refine Iw r _ ?_;by_cases hk:k=.free
  ·rw[if_pos hk,ig];by_cases hx:(x==n)=true
   ·rw[hx];have hx':x=n:=by simpa using hx
    rw[hx']
   ·have hx2:(x==n)=false:=by simpa using hx
    rwa [hx2]
  ·rw[if_neg hk];exact h
theorem Iv:∀(l:List (aG×gN)) (acc:List (aG×ν)),(x,cS)∈l->(mV env l acc).lookup x=some ((env.cells.lookup x).getD 0)
 |[],_,h=>by cases h
 | (n,k)::r,acc,h=>by
  rcases Ψ.mp h with e|e
  ·cases e;refine Iw r _ ?_;rw[if_pos rfl,ig,beq_self_eq_true]
  ·exact Iv r _ e
structure j4(N:List aG)(sc scope:kP)(own:List aG)(js:List Nat):Prop where
 kind:scope.kind=.function
 AN:∀y∈scope.names,y.2≠.cell
 names:∀y∈scope.names,y.2=.local->scope.names.lookup y.1=some .local
 free:∀y∈scope.names,y.2=.free->sc.names.lookup y.1=some .cell/\own.contains y.1=false
 only:∀y∈scope.names,y.2=.free->scope.names.lookup y.1=some .free
 js:∀j∈js,j<N.length/\(N.getD j iH,cS)∈scope.names
def ZG(N own:List aG)(js:List Nat):List aG:=own++js.map λj=>N.getD j iH
def t8(own:List aG)(js:List Nat)(σ:St):St:=bF own.length none++js.map λj=>(σ[j]?).getD none
def Cx.cmp(X:Cx)(scope:kP)(own:List aG)(js:List Nat)(s:η)(H:Hp)(fp:List ν):Cx:=
 { X with N:=ZG X.N own js,s₀:=s,H₀:=H,env:=compEnvC scope (mV X.env scope.names []) s.heap.objs.size X.env,outer:=X.stack,ex:=fp,fn:=λx=>own.contains x,pn:=[],xe:=λ_ _=>False }
theorem zY{sc:kP}{env:Env}{x:aG}{k:gN}:∀(names:List (aG×gN)),
  (names.map λ(n,k)=>if (k==cS&&env.scope.kind==.function&&env.kindOf n==some .cell) then (n,gN.cell) else (n,k)).lookup x=some k ->
  (names.lookup x=some k/\(k≠.free∨k=.free))∨(k=.cell/\names.lookup x=some .free)
 |[],h=>by simp at h
 | (n,k')::r,h=>by
  have ih:=@zY sc env x k r;have h':List.lookup x ((if (k'==cS&&env.scope.kind==.function&&env.kindOf n==some .cell)=true then (n,gN.cell) else (n,k'))::_)=some k:=h;rw[ig];by_cases hc:(k'==cS&&env.scope.kind==.function&&env.kindOf n==some .cell)=true
  ·rw[if_pos hc,ig] at h';cases hx:x==n with
   |true=>
    rw[hx] at h';have e:=aL h';have hk':k'=.free:=by
     rw[aM,aM] at hc;simpa using hc.1.1
    exact .inr ⟨e.symm,by rw[hk']⟩
   |false=>
    rw[hx] at h';exact ih h'
  ·rw[if_neg hc,ig] at h';cases hx:x==n with
   |true=>
    rw[hx] at h';have e:=aL h';subst e;exact .inl ⟨rfl,by by_cases z:k'=.free;exact .inr z;exact .inl z⟩
   |false=>
    rw[hx] at h';exact ih h'
theorem Cv{l:List (aG×gN)}(h:l.lookup x=some k):(x,k)∈l:=PySem.mem_of_lookup h
section
variable {X:Cx} {pins:List (ν×bT)} {σ:St} {H:Hp} {s:η} {scope:kP} {own:List aG} {js:List Nat} {fp:List ν}
theorem j4.cells(C:j4 X.N X.env.scope scope own js)(ok:X.Ok):∀y∈scope.names,y.2=.free->∃c,X.env.cells.lookup y.1=some c:=λy hy e=>
 ok.has y.1 (.inl (C.free y hy e).1)
theorem j4.t9(C:j4 X.N X.env.scope scope own js)(ok:X.Ok)(h:(mV X.env scope.names []).lookup x=some c):(x,cS)∈scope.names/\X.env.cells.lookup x=some c:=by
 rcases Iy scope.names [] h with q|⟨q1,q2⟩
 ·cases q
 ·obtain⟨c',e⟩:=C.cells ok _ q1 rfl;refine⟨q1,?_⟩;rw[q2,show X.env.cells.lookup x=some c' from e];rfl
theorem j4.A2(C:j4 X.N X.env.scope scope own js)(ok:X.Ok)(h:(x,cS)∈scope.names):∃c,(mV X.env scope.names []).lookup x=some c/\X.env.cells.lookup x=some c:=by
 obtain⟨c,e⟩:=C.cells ok _ h rfl;refine⟨c,?_,e⟩;rw[Iv scope.names [] h,show X.env.cells.lookup x=some c from e];rfl
theorem Inv.KN(I:Inv X pins σ H s)(C:j4 X.N X.env.scope scope own js)(hf:∀b∈fp,kv X pins H b/\b<s.heap.objs.size):(X.cmp scope own js s H fp).Ok where
 mod:=I.ok.mod
 kind:=C.kind
 glob:=I.ok.glob
 blt:=I.ok.blt
 above:=ρ _
 inj:=λx y c h1 h2=>I.ok.inj x y c (C.t9 I.ok h1).2 (C.t9 I.ok h2).2
 has:=λx h=>by
  have hfree:(x,cS)∈scope.names:=by
   rcases h with h|h
   ·rcases zY (sc:=scope) (env:=X.env) scope.names h with⟨q,_⟩|⟨_,q⟩
    ·exact absurd rfl (C.AN _ (Cv q))
    ·exact Cv q
   ·rcases zY (sc:=scope) (env:=X.env) scope.names h with⟨q,_⟩|⟨q,_⟩
    ·exact Cv q
    ·cases q
  obtain⟨c,e,_⟩:=C.A2 I.ok hfree;exact⟨c,e⟩
 yN:=λx c h1 h2=>by
  have q:=(C.free _ (C.t9 I.ok h2).1 rfl).2;have h1':own.contains x=true:=h1;rw[q] at h1';cases h1'
 hd:=I.ok.hd
 frames:=I.ok.frames
 AH:=.inl rfl
 AZ:=λb hb=>⟨aV (hf b hb).2,λx c e=>(hf b hb).1.2.2.2.2.1 x c (C.t9 I.ok e).2⟩
 bs:=I.bs
 vA:=aH I.ok.vA I.sz
 uN:=λb o e hb=>by
  rcases (hf b hb).1.2.2.2.1 with z|z
  ·exact I.ok.uN b o e z
  ·exact absurd (bw (Heap.lt_size e) (aH I.ok.vA z)) (cA _)
 we:=λb hb z=>by
  rcases Ψ.mp (I.wW b z) with e|e
  ·exact (hf b hb).1.2.1 e
  ·exact (hf b hb).1.2.2.1 e
 nP:=I.stack
 xZ:=I.yw
theorem Tn{N:List aG}{i:Nat}(h:(js.map λj=>N.getD j iH)[i]?=some x):∃j,js[i]?=some j/\x=N.getD j iH:=by
 rw[ax] at h;cases e:js[i]? with
 |none=>rw[e] at h;cases h
 |some j=>rw[e] at h;exact⟨j,rfl,(aL h).symm⟩
theorem Inv.cmp(I:Inv X pins σ H s)(C:j4 X.N X.env.scope scope own js)(hf:∀b∈fp,kv X pins H b/\b<s.heap.objs.size){h':Heap}{tk:Nat}(hn:h'.Ns s.heap.objs.size λ_=>none)
  (kept:∀b o,s.heap.get? b=some o->h'.get? b=some o):Inv (X.cmp scope own js s H fp) [] (t8 own js σ) H { s with heap:=h',toks:=tk }:=by
 have ok:=I.KN C hf;refine⟨ok,rfl,I.bare,Un.kept kept,⟨_,hn,λi x v h1 h2 h3=>?_⟩,λx c e=>?_,I.bX.fresh (ρ _),λx c e=>I.nh x c (C.t9 I.ok e).2,λp hp=>?_,I.bX.kept kept,?_⟩
 ·have h1':(own++js.map λj=>X.N.getD j iH)[i]?=some x:=h1;have h2':(bF own.length none++js.map λj=>(σ[j]?).getD none)[i]?=some (some v):=h2;by_cases hi:i<own.length
  ·rw[cx (by simpa using hi),pV,if_pos hi] at h2';cases h2'
  ·rw[bI (by lia)] at h1';rw[bI (by simp;lia),mf] at h2';obtain⟨j,hj,rfl⟩:=Tn h1';rw[ax,hj] at h2';have h2'':(σ[j]?).getD none=some v:=aL h2';have hσ:σ[j]?=some (some v):=by
    cases e:σ[j]? with
    |none=>rw[e] at h2'';cases h2''
    |some o=>
     rw[e] at h2'';have:o=some v:=h2'';rw[this]
   obtain⟨jl,jf⟩:=C.js j (av hj);have hN:X.N[j]?=some (X.N.getD j iH):=by
    rw[gO,Θ jl];rfl
   have hcell:=(C.free _ jf rfl).1;obtain⟨m,hm,hl⟩:=I.loc;obtain⟨u,ru,lk⟩:=hl j _ v hN hσ (.inr (.inl hcell));refine⟨u,ru,?_⟩;obtain⟨c,e1,e2⟩:=C.A2 I.ok jf;rcases lk with⟨z,_⟩|⟨_,c',z1,z2⟩
   ·have z':X.env.scope.names.lookup (X.N.getD j iH)=some .local:=z;rw[show X.env.scope.names.lookup (X.N.getD j iH)=some .cell from hcell] at z';cases z'
   ·rw[e2] at z1;cases z1;have ic:h'.IsCell c (some u):=by
     obtain⟨o,q1,q2⟩:=z2;exact⟨o,kept _ _ q1,q2⟩
    rcases h3 with h3|h3|h3
    ·exfalso;rcases zY (sc:=scope) (env:=X.env) scope.names h3 with⟨q,_⟩|⟨q,_⟩
     ·have z:=C.only _ jf rfl;rw[q] at z;cases z
     ·cases q
    ·exact .inr ⟨.inl h3,c,e1,ic⟩
    ·exact .inr ⟨.inr h3,c,e1,ic⟩
 ·obtain⟨v,o,q1,q2⟩:=I.cell x c (C.t9 I.ok e).2;exact⟨v,o,kept _ _ q1,q2⟩
 ·exact absurd (show p∈([]:List (ν×bT)) from hp) (by simp)
 ·show (bF own.length none++js.map λj=>(σ[j]?).getD none).length=(own++js.map λj=>X.N.getD j iH).length;simp
theorem Inv.Kg{σ':St}{H':Hp}{s':η}{pl:List (ν×bT)}(I:Inv X pins σ H s)(hf:∀b∈fp,kv X pins H b/\b<s.heap.objs.size)(J:Inv (X.cmp scope own js s H fp) pl σ' H' s'):Inv X pins σ H' s':=by
 refine I.KO (ch:=fp) J.os J.base J.bX J.bare λb hb=>?_;obtain⟨f0,f1,f2,f3,f4,f5⟩:=(hf b hb).1;exact⟨f3,f1,f4,f5⟩
theorem Inv.other{H':Hp}{s':η}{h':Heap}{b:ν}(I0:Inv X pins σ H s)(I:Inv X pins σ H' s')(hb:s.heap.objs.size≤b)(hn:H' b=none)(sb:Heap.SameBut b s'.heap h'):Inv X pins σ H' { s' with heap:=h' }:=by
 obtain⟨f0,f1,f2,f3,f4,f5⟩:=I0.rT hb hn;exact I.turned (t':=s'.toks) (λc o hc e=>(sb.2 c hc).trans e) f0 f1 f3 f4 f5
end
def uu(X:Cx)(ifs:List aT)(t:TT):Prop:=
 ∀(pins:List (ν×bT)) (s:η) (σ:St) (H:Hp) (Q:Bool->Hp->Prop),Inv X pins σ H s->t σ H Q ->
  χ (model X.prog X.w) X.A (forIn ifs true λc r=>if r=true then do let ok ←isTrue c X.env (eval c X.env);pure (gM ok) else pure (gM r)) (TP X pins σ Q) X.xe s
def DI:TT:=λ_ H Q=>Q true H
theorem Tj:uu X [] DI:=λ_ _ _ H _ I h=>wpAny_tests_nil ⟨H,I,h⟩
theorem Th(h:PT X c t):uu X [c] t:=λpins s σ H Q I hq=>wpAny_tests_one (h pins s σ H Q I hq)
section
variable {prog:ao} {w:aC} {A:aQ} {R:Result->η->Prop} {s:η}
theorem Tg(I:Nat->η->Prop)
  (turn:∀n s,I n s->χ (model prog w) A (pyNext it) (λr s₁=>match r with
   |none=>R (.ok .next) s₁
   | some v=>χ (model prog w) A (letOwnedTupleGo target it v) (λ_ s₁'=>χ (model prog w) A (assign target env v) (λ_ s₂=>
     χ (model prog w) A (forIn ifs true λc r=>if r=true then do let ok ←isTrue c env (eval c env);pure (gM ok) else pure (gM r)) (λok s₃=>
      if ok=true then χ (model prog w) A (eval elt env) (λx s₄=>
       χ (model prog w) A (call (.builtin "list.append") [acc,x]) (λ_ s₅=>∃m,m<n/\I m s₅) (λ_ _=>False) s₄) (λ_ _=>False) s₃
      else ∃m,m<n/\I m s₃) (λ_ _=>False) s₂) (λ_ _=>False) s₁') (λ_ _=>False) s₁) (λ_ _=>False) s)
  (n:Nat) (h:I n s):
  gI (model prog w) A (.compLoop (.ListComp elt [⟨target,iter,ifs,0⟩] scope pos) 0 it acc env) R s:=by
 refine codeAny_loop rfl I (λn s hI=>?_) n h;show χ _ A ((compTurn (.ListComp elt [⟨target,iter,ifs,0⟩] scope pos) 0 it acc env).onRaise (λx=>do noteFrame x env;theTreesLotGoes x)) _ _ s
 refine wpAny_noted ?_;rw[compTurn_list];refine γ (si (γ (eY (turn n s hI) (λr s₁ h₁=>?_) λ_ _ h'=>h'.elim)));cases r with
 |none=>exact δ h₁
 |some v=>
  refine γ (eY h₁ (λ_ s₁' h₁'=>(γ (eY h₁' (λ_ s₂ h₂=>γ (eY h₂ (λok s₃ h₃=>?_) λ_ _ h'=>h'.elim)) λ_ _ h'=>h'.elim))) λ_ _ h'=>h'.elim);cases ok with
  |false=>exact δ ⟨rfl,h₃⟩
  |true=>
   exact γ (γ (eY h₃ (λx s₄ h₄=>γ (eY h₄ (λ_ s₅ h₅=>δ (δ ⟨rfl,h₅⟩)) λ_ _ h'=>h'.elim)) λ_ _ h'=>h'.elim))
end
def Kb(own:List aG)(js:List Nat)(g:TG)(tc:TT)(te:TE)(J:It)(σ:St)(H:Hp)(Q:VK):Prop:=
 ∀D,H D=none->∃W:Nat->Nat->List V->St->Hp->Prop,(∃m,W 0 m [] (t8 own js σ) (upd H D (.lst [])))/\∀i m ys σ' H',W i m ys σ' H'->H' D=some (.lst ys) ∧
  ((J.stop i H'/\Q (.ref D) H')∨(J.go i H'/\ys.length<aA/\∀x H2,J.C4 i H' x H2->g x σ' H2 λσ2 H3=>tc σ2 H3 λb H4=>
   if b=true then te σ2 H4 λv H5=>H5 D=some (.lst ys)/\∃m',m' < m/\W (i+1) m' (ys++[v]) σ2 (upd H5 D (.lst (ys++[v]))) else ∃m',m' < m/\W (i+1) m' ys σ2 H4))
def DW(own:List aG)(js:List Nat)(wi:TI)(g:TG)(tc:TT)(te:TE):TE:=λσ H Q=>wi σ H λJ H1=>Kb own js g tc te J σ H1 Q
section
variable {X:Cx} {tg iter elt:aT} {ifs:List aT} {scope:kP} {pos:d9} {own:List aG} {js:List Nat} {g:TG} {tc:TT} {te:TE}
theorem Iu{RR:ζ->ν->Result->η->Prop}
  (hc:X.calm=true) (C:j4 X.N X.env.scope scope own js)
  (hb:∀s H fp,PG (X.cmp scope own js s H fp) tg g/\uu (X.cmp scope own js s H fp) ifs tc/\PE (X.cmp scope own js s H fp) elt te)
  (I:Inv X pins σ H s) (T:Turn X.prog X.w X.K tg J fp it tn) (st:tn 0 s.heap) (hf:∀b∈fp,kv X pins H b) (rd:Kb own js g tc te J σ H Q)
  (ZZ:∀D N s' H',Inv X pins σ H' s'->Q (.ref D) H'->s.heap.objs.size≤N->H' N=none->(∃m,s'.heap.Ns N m)->RR (.ref D) N (.ok .next) s'):
  χ (model X.prog X.w) X.A (newList []) (λacc s₃=>χ (model X.prog X.w) X.A (newFunctionEnv scope X.env.globals (mV X.env scope.names []) [] X.env.qual none .none (some X.env)) (λcenv s₄=>
   gI (model X.prog X.w) X.A (.compStart (.ListComp elt [⟨tg,iter,ifs,0⟩] scope pos) 0 (.ref it) acc { cenv with scope:=relabel scope X.env }) (RR acc cenv.locals) s₄) E s₃) E s:=by
 have hD:=I.fresh;obtain⟨W,⟨m0,w0⟩,turn⟩:=rd s.heap.objs.size hD;refine bj ?_;have hI3:Inv X pins σ (upd H s.heap.objs.size (.lst [])) { s with heap:=s.heap.push { cls:=.type "list",data:=.seq ([]:List ζ).toArray }}:=
  I.CO (t':=s.toks) (its:=[]) (ys:=[]) .nil (ar _)
 have hlt:∀b∈fp,b<s.heap.objs.size:=λb hb=>by
  obtain⟨o,e,_⟩:=T.obj 0 _ st b hb;exact Heap.lt_size e
 have st3:tn 0 (s.heap.push { cls:=.type "list",data:=.seq ([]:List ζ).toArray }):=T.keep 0 _ _ st λb _ o e=>Heap.get?_push_of_some _ e;generalize hs3:({ s with heap:=s.heap.push { cls:=.type "list",data:=.seq ([]:List ζ).toArray }}:η)=s3 at hI3 ⊢;have hsz3:s3.heap.objs.size=s.heap.objs.size+1:=by rw[←hs3];exact Heap.size_push ..
 have st3':tn 0 s3.heap:=by rw[←hs3];exact st3
 have hf3:∀b∈fp,kv X pins (upd H s.heap.objs.size (.lst [])) b/\b<s3.heap.objs.size:=λb hb=>by
  obtain⟨f0,f1⟩:=hf b hb;refine⟨⟨?_,f1⟩,by rw[hsz3];exact ja (hlt b hb)⟩;rwa [fj (aV (hlt b hb))]
 refine wpAny_newFunctionEnv C.AN (by intro y hy;simp at hy) (λh₁ hns₁ hsb₁=>?_) C.kind;have kept1:∀b o,s3.heap.get? b=some o->h₁.get? b=some o:=λb o e=>(hsb₁.2 b (aV (Heap.lt_size e))).trans (Heap.get?_push_of_some _ e);have I4:Inv (X.cmp scope own js s3 (upd H s.heap.objs.size (.lst [])) fp) [] (t8 own js σ) (upd H s.heap.objs.size (.lst [])) { s3 with heap:=h₁,toks:=s3.toks+([]:List (aG×ζ)).length }:=
  hI3.cmp C hf3 hns₁ kept1
 have st4:=T.keep 0 _ _ st3' λb _ o e=>kept1 b o e;obtain⟨hg,ht,he⟩:=hb s3 (upd H s.heap.objs.size (.lst [])) fp
 -- the iterator's objects in the block's context
 have stat:∀{H':Hp},(∀b∈fp,H' b=none)->∀b∈fp,kv (X.cmp scope own js s3 (upd H s.heap.objs.size (.lst [])) fp) [] H' b:=λ{H'} hn b hb=>by
  have q:=I4.ok;exact⟨hn b hb,(q.AZ b hb).1,q.we b hb,.inl hb,(q.AZ b hb).2,λp hp=>absurd (show p∈([]:List (ν×bT)) from hp) (by simp)⟩
 have loop:gI (model X.prog X.w) X.A (.compLoop (.ListComp elt [⟨tg,iter,ifs,0⟩] scope pos) 0 (.ref it) (.ref s.heap.objs.size) (compEnvC scope (mV X.env scope.names []) s3.heap.objs.size X.env))
   (RR (.ref s.heap.objs.size) s3.heap.objs.size) { s3 with heap:=h₁,toks:=s3.toks+([]:List (aG×ζ)).length }:=by
  refine Tg (λn s'=>∃i ys σ' H',Inv (X.cmp scope own js s3 (upd H s.heap.objs.size (.lst [])) fp) [] σ' H' s'/\tn i s'.heap/\(∀b∈fp,H' b=none)/\W i n ys σ' H') ?_ m0
   ⟨0,[],_,_,I4,st4,λb hb=>(hf3 b hb).1.1,w0⟩
  rintro n s5 ⟨i,ys,σ5,H5,I5,st5,fr5,w5⟩;obtain⟨hacc,hcase⟩:=turn i n ys σ5 H5 w5;rcases hcase with⟨stop,qn⟩|⟨go,hys,step⟩
  ·refine bN (T.done (X.cmp scope own js s3 (upd H s.heap.objs.size (.lst [])) fp) rfl rfl rfl hc i [] s5 σ5 H5 (λ_ _=>False) I5 (stat fr5) st5 stop) λr s6 ⟨hr,I6⟩=>?_;subst hr;have I7:=hI3.Kg hf3 I6;obtain⟨m,hm,_⟩:=I6.loc;exact ZZ _ _ _ _ I7 qn (by rw[hsz3];exact Nat.le_succ _) I6.free ⟨m,hm⟩
  ·refine bN (T.item (X.cmp scope own js s3 (upd H s.heap.objs.size (.lst [])) fp) rfl rfl rfl hc i [] s5 σ5 H5 (λ_ _=>False) I5 (stat fr5) st5 go) λr s6 zz=>?_;obtain⟨u,hr,h6⟩:=zz;subst hr;refine bN h6 λ_ s7 zz=>?_;obtain⟨x,H7,I7,r7,y7,st7,fr7⟩:=zz;have I7':=I7.pinned (stat fr7) (T.obj _ _ st7);refine bN (hg _ s7 σ5 H7 x u _ I7' r7 (step x H7 y7)) λ_ s8 zz=>?_;obtain⟨σ8,H8,I8,q8⟩:=zz;refine bN (ht _ s8 σ8 H8 _ I8 q8) λok s9 zz=>?_;obtain⟨H9,I9,q9⟩:=zz;have back:∀{σ':St} {H':Hp} {s':η} {ys':List V},Inv (X.cmp scope own js s3 (upd H s.heap.objs.size (.lst [])) fp) ([]++sX fp s7.heap) σ' H' s'->(∃m',m' < n/\W (i+1) m' ys' σ' H') ->
     ∃m',m' < n/\∃i ys σ' H',Inv (X.cmp scope own js s3 (upd H s.heap.objs.size (.lst [])) fp) [] σ' H' s'/\tn i s'.heap/\(∀b∈fp,H' b=none)/\W i m' ys σ' H':=λ{σ' H' s' ys'} I' zz=>by
    obtain⟨m',hm,w'⟩:=zz;refine⟨m',hm,i+1,ys',σ',H',I'.rC,T.keep _ _ _ st7 λb hb o e=>(I'.pin (b,o) (aj _ (aj _ (Ab hb e)))).1,λb hb=>?_,w'⟩;obtain⟨o,e,d⟩:=T.obj _ _ st7 b hb;exact (I'.pin (b,o) (aj _ (aj _ (Ab hb e)))).2.1
   cases ok with
   |false=>
    rw[if_neg af] at q9 ⊢;exact back I9 q9
   |true=>
    rw[if_pos rfl] at q9 ⊢;refine bN (he _ s9 σ8 H9 _ I9 q9) λxv s10 zz=>?_;obtain⟨v,H10,I10,r10,hD10,q10⟩:=zz;refine bN (IK (X:=X.cmp scope own js s3 (upd H s.heap.objs.size (.lst [])) fp) _ s10 σ8 H10 (.ref s.heap.objs.size) [v] (.ref s.heap.objs.size) [xv] (λ_ H'=>H'=upd H10 s.heap.objs.size (.lst (ys++[v]))) I10 rfl (.cons r10 .nil)
     ⟨_,ys,v,rfl,rfl,hD10,hys,rfl⟩) λ_ s11 ⟨_,H11,I11,_,e11⟩=>?_
    subst e11;exact back I11 q10
 exact codeAny_compStart_list loop (T.self _ 0 _ _ _ st4 loop)
theorem Tf{wi:TI}(hc:X.calm=true)(C:j4 X.N X.env.scope scope own js)(hi:PI X tg iter wi)
  (hb:∀s H fp,PG (X.cmp scope own js s H fp) tg g/\uu (X.cmp scope own js s H fp) ifs tc/\PE (X.cmp scope own js s H fp) elt te)
  (hs:∀x,foldedSetIterable iter X.env x=pure x:=by intro _;rfl):PE X (.ListComp elt [⟨tg,iter,ifs,0⟩] scope pos) (DW own js wi g tc te):=by
 intro pins s σ H Q I h;rw[eval_ListComp];refine pG (use:=none) rfl hs (Iz (C.cells I.ok)) C.kind C.names (bN (hi pins s σ H _ I h) λxv s₁ h₁=>bN h₁ λitv s₂ h₂=>?_);obtain⟨it,fp,tn,J,H2,e,I2,T,st2,f2,rd⟩:=h₂;subst e;refine Iu (RR:=λacc C'=>compPost (model X.prog X.w) X.A X.xe none (EP X pins σ Q) acc C') hc C hb I2 T st2 f2 rd λD N s' H' I' q hN hHN ⟨m,hm⟩=>?_;exact⟨m,hm,λh' sb=>⟨.ref D,H',I2.other I' hN hHN sb,rfl,q⟩⟩
theorem Te{wi:TI}{i:Nat}{y:aG}{py spos:d9}(hc:X.calm=true)(hN:X.N.Nodup)(hy:X.N[i]?=some y)(hyl:X.env.scope.names.lookup y=some .local)(C:j4 X.N X.env.scope scope own js)(hi:PI X tg iter wi)
  (hb:∀s H fp,PG (X.cmp scope own js s H fp) tg g/\uu (X.cmp scope own js s H fp) ifs tc/\PE (X.cmp scope own js s H fp) elt te)
  (AW:swapsWith (.ListComp elt [⟨tg,iter,ifs,0⟩] scope pos) (some (.Name y py)) spos.line X.env=pure true:=by rfl)
  (hs:∀x,foldedSetIterable iter X.env x=pure x:=by intro _;rfl):PS X (.Assign [.Name y py] (.ListComp elt [⟨tg,iter,ifs,0⟩] scope pos) spos) (Bb (DW own js wi g tc te) (Am i)):=by
 intro pins s σ H D I h;rw[exec_Assign_Name_used _ _ _ _ AW];refine γ (si (γ ?_));show χ _ X.A (do let _ ←comprehension (.ListComp elt [⟨tg,iter,ifs,0⟩] scope pos) scope X.env _ (newList []) false (eval iter X.env) (some (assign (.Name y py) X.env))) _ _ s;refine γ (eY (pG (use:=some (assign (.Name y py) X.env)) (Q:=λ_ s'=>SP X pins D .next s') rfl hs (Iz (C.cells I.ok)) C.kind C.names
  (bN (hi pins s σ H _ I h) λxv s₁ h₁=>bN h₁ λitv s₂ h₂=>?_)) (λ_ s' hq=>δ (δ hq)) λ_ _ e=>e)
 obtain⟨it,fp,tn,J,H2,e,I2,T,st2,f2,rd⟩:=h₂;subst e;refine Iu (RR:=λacc C'=>compPost (model X.prog X.w) X.A X.xe (some (assign (.Name y py) X.env)) (λ_ s'=>SP X pins D .next s') acc C') hc C hb I2 T st2 f2 rd λL N s' H' I' q hN' hHN ⟨m,hm⟩=>?_
 show χ _ _ (assign (.Name y py) X.env (.ref L)) _ _ _;refine wpAny_assign_Name (Jd I' hN hy (.inl hyl) (v:=.ref L) rfl (λs'' I'' zz=>?_) (.inr hyl));obtain⟨a,sb,ha⟩:=zz;have hNa:N≠a:=by
  obtain⟨f0,f1,f2,f3,f4,f5⟩:=I2.rT hN' hHN;rcases ha with rfl|ha
  ·exact f1
  ·exact di (f4 _ _ ha)
 refine⟨m,hm.sameBut sb hNa,λh'' sb''=>?_⟩;refine⟨σ.set i (some (.ref L)),H',?_,q⟩;obtain⟨f0,f1,f2,f3,f4,f5⟩:=I2.rT hN' hHN;exact I''.turned (t':=s''.toks) (λc o hc e=>(sb''.2 c hc).trans e) f0 f1 f3 f4 f5
end
end L2
namespace L3
open PySem PySem.Spec PyProof.Rows L2
section
variable {X:Cx} {st:iz} {rest:List iz} {t u:au} {e c:aT} {te:cu} {tc:jY} {pos:d9}
def dB:au:=λD τ G=>D.nx τ G
def aS(t u:au):au:=λD τ G=>t { D with nx:=u D } τ G
theorem Td:qy X [] dB:=ID VH λD σ H zz=>by obtain⟨τ,G,D3,RS,RG,h,k⟩:=zz;exact k.nx τ σ G H RS (.refl H G) RG h
theorem Tc(h1:pB X st t)(h2:qy X rest u):qy X (st::rest) (aS t u):=ID (VG h1 h2) λD σ H zz=>by
 obtain⟨τ,G,D3,RS,RG,h,k⟩:=zz;exact
 ⟨τ,G,{ D3 with nx:=u D3 },RS,RG,h,⟨λτ' σ' G' H' a b c q=>⟨τ',G',D3,a,c,q,k.step b⟩,k.bk,k.ct,k.rt⟩⟩
theorem Tb(h1:pB X st t):qy X [st] t:=VF h1
def pY(te:cu):au:=λD τ G=>te τ G λ_ G1=>D.nx τ G1
theorem T5(he:cv X e te)(hs:swapsWith e none pos.line X.env=pure false:=by rfl):pB X (.Expr e pos) (pY te):=sf (VE he hs) λD σ H zz=>by
 obtain⟨τ,G,D3,RS,RG,h,k⟩:=zz;exact
 ⟨τ,G,_,RS,RG,h,λv H1 d G1 h1 S1 R1 q1=>k.nx τ σ G1 H1 (RS.ext (S1.ext RG)) S1 R1 q1⟩
def bu(te:cu):au:=λD τ G=>te τ G D.rt
theorem T4(he:cv X e te):pB X (.Return (some e) pos) (bu te):=sf (VD he) λD σ H zz=>by
 obtain⟨τ,G,D3,RS,RG,h,k⟩:=zz;exact
 ⟨τ,G,D3.rt,RS,RG,h,λv H1 d G1 h1 S1 R1 q1=>k.rt d v G1 H1 h1 S1 R1 q1⟩
def gR(c:jY)(t u:au):au:=λD τ G=>c τ G λb G1=>Br b (t D τ G1) (u D τ G1)
theorem LX(hc:qf X c tc)(ha:qy X a t)(hb:qy X b u):pB X (.If c a b pos) (gR tc t u):=sf (VC hc ha hb) λD σ H zz=>by
 obtain⟨τ,G,D3,RS,RG,h,k⟩:=zz;exact
 ⟨τ,G,_,RS,RG,h,λb H1 G1 S1 R1 q1=>Br.ite q1 (λq=>⟨τ,G1,D3,RS.ext (S1.ext RG),R1,q,k.step S1⟩) λq=>⟨τ,G1,D3,RS.ext (S1.ext RG),R1,q,k.step S1⟩⟩
def wY:au:=λ_ _ _=>False
theorem TZ:pB X st wY:=sf VB λD σ H zz=>by obtain⟨τ,G,D3,RS,RG,h,k⟩:=zz;exact h
end
abbrev oo:=D->S3->Gp->(S3->Gp->Prop)->Prop
abbrev uS:=List D->S3->Gp->(S3->Gp->Prop)->Prop
def lowG(K:PySem.W.Frag)(t:oo):TG:=λv σ H Q=>∃d τ G Q3,Hv K H d v/\fR K τ σ H/\bh K G H/\t d τ G Q3/\∀τ' σ' G' H',fR K τ' σ' H'->Step H G H' G'->bh K G' H'->Q3 τ' G'->Q σ' H'
def KA(K:PySem.W.Frag)(t:uS):yQ:=λvs σ H Q=>∃ds τ G Q3,aU K H ds vs/\fR K τ σ H/\bh K G H/\t ds τ G Q3/\∀τ' σ' G' H',fR K τ' σ' H'->Step H G H' G'->bh K G' H'->Q3 τ' G'->Q σ' H'
abbrev vC(X:Cx)(tg:aT)(t:oo):Prop:=PG X tg (lowG X.K t)
abbrev yj(X:Cx)(tgs:List aT)(t:uS):Prop:=pC X tgs (KA X.K t)
section
variable {X:Cx} {pos:d9} {e:aT} {es:List aT}
theorem Cu(h:PG X e t)(f:∀v σ H Q,t' v σ H Q->t v σ H Q):PG X e t':=λpins s σ H v u Q I r q=>h pins s σ H v u Q I r (f v σ H Q q)
theorem Ir(h:pC X es t)(f:∀v σ H Q,t' v σ H Q->t v σ H Q):pC X es t':=λpins s σ H v u Q I r q=>h pins s σ H v u Q I r (f v σ H Q q)
def hName(i:Nat):oo:=λd τ G Q=>Q (nM τ i d) G
theorem TY(hN:X.N.Nodup)(hi:X.N[i]?=some x:=by rfl)(hx:Loc X.env.scope x:=by first|exact Or.inl rfl|exact tI rfl)(hf:X.fn x=true∨X.env.scope.names.lookup x=some .local:=by first|exact .inl rfl|exact .inr rfl|assumption):vC X (.Name x pos) (hName i):=
 Cu (VA hN hi hx hf) λv σ H Q zz=>by obtain⟨d,τ,G,Q3,hd,RS,RG,h,k⟩:=zz;exact k _ _ G H (RS.set hd) (.refl H G) RG h
def px:uS:=λds τ G Q=>match ds with
 |[]=>Q τ G
 |_::_=>False
def gr(t:oo)(u:uS):uS:=λds τ G Q=>match ds with
 |[]=>False
 |d::r=>t d τ G λτ' G'=>u r τ' G' Q
theorem TX:yj X [] px:=Ir Va λvs σ H Q zz=>by
 obtain⟨ds,τ,G,Q3,hd,RS,RG,h,k⟩:=zz;cases ds with
 |nil=>exact⟨hd.kn,k _ _ G H RS (.refl H G) RG h⟩
 |cons d r=>exact h.elim
theorem TV(h1:vC X e t)(h2:yj X es u)(hs:(assignEach (e::es) X.env).map (·.2)=assign e X.env::(assignEach es X.env).map (·.2):=by rfl):yj X (e::es) (gr t u):=
 Ir (U9 h1 h2 hs) λvs σ H Q zz=>by
  obtain⟨ds,τ,G,Q3,hd,RS,RG,h,k⟩:=zz;cases ds with
  |nil=>exact h.elim
  |cons d r=>
   obtain⟨v,vr,rfl,q1,q2⟩:=hd.inv;exact⟨v,vr,rfl,d,τ,G,_,q1,RS,RG,h,λτ' σ' G' H' a b c q=>⟨r,τ',G',Q3,q2.ext (b.ext RG),a,c,q,λτ2 σ2 G2 H2 a2 b2 c2=>k τ2 σ2 G2 H2 a2 (b.trans b2) c2⟩⟩
def pk(n:Nat)(t:uS):oo:=λd τ G Q=>match d with
 |.tup ds=>ds.length=n/\t ds τ G Q
 |_=>False
theorem TU{k:Nat}(hc:X.calm=true)(h:yj X es t)(hn:(assignEach es X.env).length=n:=by rfl)(hst:(assignEach es X.env).findIdx? (·.1)=none:=by rfl):vC X (.Tuple es k pos) (pk n t):=
 Cu (U8 hc h hn hst) λv σ H Q zz=>by
  obtain⟨d,τ,G,Q3,hd,RS,RG,h,k⟩:=zz;cases d with
  |tup ds=>
   obtain⟨a,vs,e1,e2,e3⟩:=hd;exact⟨a,vs,e1,e2,by rw[←e3.length];exact h.1,ds,τ,G,Q3,e3,RS,RG,h.2,k⟩
  |_=>exact h.elim
def bK(te:cu)(g:oo):au:=λD τ G=>te τ G λx G1=>g x τ G1 D.nx
theorem TQ(he:cv X e te)(hg:vC X tg g)(hs:swapsWithSole [tg] e pos.line X.env=pure false:=by rfl)(hw:swappedStores [tg] e X.env=pure none:=by rfl)
  (h1:(assignEach [tg] X.env).map (·.2)=[assign tg X.env]:=by rfl):pB X (.Assign [tg] e pos) (bK te g):=sf (U6 he hg hs hw h1) λD σ H zz=>by
 obtain⟨τ,G,D3,RS,RG,h,k⟩:=zz;exact
 ⟨τ,G,_,RS,RG,h,λv H1 d G1 h1 S1 R1 q1=>⟨d,τ,G1,D3.nx,h1,RS.ext (S1.ext RG),R1,q1,λτ' σ' G' H' a b c q=>k.nx τ' σ' G' H' a (S1.trans b) c q⟩⟩
theorem TN{pos':d9}(hN:X.N.Nodup)(he:cv X e te)(hi:X.N[i]?=some x:=by rfl)(hx:Loc X.env.scope x:=by first|exact Or.inl rfl|exact tI rfl)(hs:swapsWith e (some (.Name x pos')) pos.line X.env=pure false:=by rfl)
  (hf:X.fn x=true∨X.env.scope.names.lookup x=some .local:=by first|exact .inl rfl|exact .inr rfl|assumption):pB X (.Assign [.Name x pos'] e pos) (bK te (hName i)):=sf (U5 hN hi hx he hs hf) λD σ H zz=>by
 obtain⟨τ,G,D3,RS,RG,h,k⟩:=zz;exact
 ⟨τ,G,_,RS,RG,h,λv H1 d G1 h1 S1 R1 q1=>k.nx _ _ G1 H1 ((RS.ext (S1.ext RG)).set h1) S1 R1 q1⟩
def Bc(i:Nat)(te:cu)(r:R3):au:=λD τ G=>match lq τ i with
 |some x=>te τ G λy G1=>r x y G1 λz G2=>D.nx (nM τ i z) G2
 |none=>False
theorem TM{pos':d9}(L:eG X.K r r2)(hN:X.N.Nodup)(he:cv X e te)(ho:DC X op r2)(hi:X.N[i]?=some x:=by rfl)(hx:Loc X.env.scope x:=by first|exact Or.inl rfl|exact tI rfl)(hf:X.fn x=true∨X.env.scope.names.lookup x=some .local:=by first|exact .inl rfl|exact .inr rfl|assumption):
  pB X (.AugAssign (.Name x pos') op e pos) (Bc i te r):=sf (U4 hN hi hx he ho hf) λD σ H zz=>by
 obtain⟨τ,G,D3,RS,RG,h,k⟩:=zz;unfold Bc at h;cases hd:lq τ i with
 |none=>rw[hd] at h;exact h.elim
 |some d=>
  rw[hd] at h;obtain⟨v,e1,e2⟩:=RS.at_ i d hd;exact⟨v,e1,τ,G,_,RS,RG,h,λv1 H1 d1 G1 h1 S1 R1 q1=>(L _ _ _ _ _ _ _ _ (e2.ext (S1.ext RG)) h1 R1 q1 λv2 H2 d2 G2 z1 z2 z3 z4=>k.nx _ _ G2 H2 (((RS.ext (S1.ext RG)).ext (z2.ext R1)).set z1) (S1.trans z2) z3 z4)⟩
def yW:D->D->D->Gp->(Gp->Prop)->Prop:=λo i v G Q=>match o,i with
 |.obj p,.int k=>∃ds j,G p=some (.lst ds)/\sZ ds.length k=some j/\Q (fO G p (.lst (ds.set j v)))
 |_,_=>False
def hSub(to ti:cu):oo:=λv τ G Q=>to τ G λo G1=>ti τ G1 λi G2=>yW o i v G2 λG3=>Q τ G3
theorem Iq{K:PySem.W.Frag}(ho:Hv K H o vo)(hi:Hv K H i vi)(hv:Hv K H v vv)(RG:bh K G H)(h:yW o i v G Q3)
  (k:∀H' G',Step H G H' G'->bh K G' H'->Q3 G'->Q H'):Dh vo vi vv H Q:=by
 match o,i,ho,hi,h with
 |.obj p,.int j,ho,hi,h=>
  obtain⟨ds,n,e1,e2,q⟩:=h;obtain⟨vs,e3,e4⟩:=RG p _ e1;exact⟨p,vs,j,n,ho,hi,e3,by rw[←e4.length];exact e2,k _ _ (Step.wrote (g:=.lst (ds.set n v)) e1) (RG.wrote e3 ⟨_,jw,((e4.ext (Ext.wrote e3)).set n (hv.ext (Ext.wrote e3)))⟩) q⟩
 |.obj _,.aE,_,_,h=>exact h.elim
 |.obj _,.bl _,_,_,h=>exact h.elim
 |.obj _,.str _,_,_,h=>exact h.elim
 |.obj _,.tup _,_,_,h=>exact h.elim
 |.obj _,.gQ _,_,_,h=>exact h.elim
 |.obj _,.obj _,_,_,h=>exact h.elim
 |.obj _,.dc _,_,_,h=>exact h.elim
 |.dc _,_,_,_,h=>exact h.elim
 |.aE,_,_,_,h=>exact h.elim
 |.bl _,_,_,_,h=>exact h.elim
 |.int _,_,_,_,h=>exact h.elim
 |.str _,_,_,_,h=>exact h.elim
 |.tup _,_,_,_,h=>exact h.elim
 |.gQ _,_,_,_,h=>exact h.elim
theorem SU(ho:cv X o to)(hi:cv X i ti)
  (ha:∀v,assign (.Subscript o i pos) X.env v=(do
   let ov ←holding [v] (eval o X.env)
   let iv ←holding [v,ov] (eval i X.env)
   standAt pos
   holding [v,ov,iv] (setItem ov iv v)
   release [v,ov,iv] []):=by intro _;rfl):vC X (.Subscript o i pos) (hSub to ti):=Cu (U7 ho hi set_list ha) λv σ H Q zz=>by
 obtain⟨d,τ,G,Q3,hd,RS,RG,h,k⟩:=zz
 exact
 ⟨τ,G,_,RS,RG,h,λv1 H1 d1 G1 h1 S1 R1 q1=>⟨τ,G1,_,RS.ext (S1.ext RG),R1,q1,λv2 H2 d2 G2 h2 S2 R2 q2=>
  Iq (h1.ext (S2.ext R1)) h2 ((hd.ext (S1.ext RG)).ext (S2.ext R1)) R2 q2 λH' G' y1 y2 y3=>k _ _ G' H' (((RS.ext (S1.ext RG)).ext (S2.ext R1)).ext (y1.ext R2)) ((S1.trans S2).trans y1) y2 y3⟩⟩
def C8(to ti te:cu)(f:Int->Int->Int):au:=λD τ G=>to τ G λo G1=>ti τ G1 λi G2=>match o,i with
 |.obj p,.int k=>∃ds x,G2 p=some (.lst ds)/\oj ds k=some (.int x)/\te τ G2 λy G3=>match y with
  |.int y=>yW o i (.int (f x y)) G3 λG4=>D.nx τ G4
  |_=>False
 |_,_=>False
def uZ(c:jY)(tb:au):au:=λD τ G=>∃W:Nat->S3->Gp->Prop,(∃m,W m τ G)/\∀m τ G,W m τ G ->
 c τ G λb G1=>Br b (tb { D with nx:=λτ' G'=>∃m',m' < m/\W m' τ' G',ct:=λτ' G'=>∃m',m' < m/\W m' τ' G',bk:=D.nx } τ G1) (D.nx τ G1)
theorem SR(hp:qk (model X.prog X.w) X.A X.env X.xe)(hc:qf X c tc)(hb:qy X body tb):pB X (.While c body [] pos) (uZ tc tb):=
 sf (U2 hp hc hb) λD σ H zz=>by
  obtain⟨τ,G,D3,RS,RG,⟨W,⟨m0,w0⟩,turn⟩,k⟩:=zz;refine⟨λm σ' H'=>∃τ' G',W m τ' G'/\fR X.K τ' σ' H'/\bh X.K G' H'/\Step H G H' G',⟨m0,τ,G,w0,RS,RG,.refl H G⟩,λm σ1 H1 zz=>?_⟩;obtain⟨τ1,G1,w1,RS1,RG1,S1⟩:=zz;refine⟨τ1,G1,_,RS1,RG1,turn m τ1 G1 w1,λb H2 G2 S2 R2 q2=>Br.ite q2 (λq=>(⟨λσ' H'=>∃τ' G',(∃m',m' < m/\W m' τ' G')/\fR X.K τ' σ' H'/\bh X.K G' H'/\Step H G H' G',λσ' H' ⟨τ',G',⟨m',hm,w'⟩,a,b,c⟩=>⟨m',hm,τ',G',w',a,b,c⟩,(⟨τ1,G2,_,RS1.ext (S2.ext RG1),R2,q,⟨?_,?_,?_,?_⟩⟩)⟩)) λq=>k.nx _ _ G2 H2 (RS1.ext (S2.ext RG1)) (S1.trans S2) R2 q⟩
  ·exactλτ' σ' G' H' a b c q=>⟨τ',G',q,a,c,(S1.trans S2).trans b⟩
  ·exactλτ' σ' G' H' a b c q=>k.nx τ' σ' G' H' a ((S1.trans S2).trans b) c q
  ·exactλτ' σ' G' H' a b c q=>⟨τ',G',q,a,c,(S1.trans S2).trans b⟩
  ·exactλd v G' H' a b c q=>k.rt d v G' H' a ((S1.trans S2).trans b) c q
end
abbrev dh:=List D->Gp->V3->Prop
def mv(K:PySem.W.Frag)(sp:dh):Sp:=λvs H Q _=>∃ds G Q3,aU K H ds vs/\bh K G H/\sp ds G Q3/\∀v H' d G',Hv K H' d v->Step H G H' G'->bh K G' H'->Q3 d G'->Q v H'
abbrev wO(P:ao)(w:aC)(K:PySem.W.Frag)(mg:aG->Option ζ)(base:Heap)(k:Nat)(f:ν)(fd:ik)(ps:List aG)(sp:dh):Prop:=mC P w K mg base wG k f fd ps (mv K sp)
def aN(sp:dh)(t:jK):cu:=λτ G Q=>t τ G λds G1=>sp ds G1 Q
section
variable {X:Cx} {k:Nat} {f:ν} {fd:ik} {ps:List aG} {sp:dh} {x:aG} {p pos:d9} {e:aT} {es:List aT} {t:jK}
theorem SQ{K:PySem.W.Frag}(h:low K (aN sp t) σ H Q):C6 (mv K sp) [] E (wc K t) σ H Q:=by
 obtain⟨τ,G,Q3,RS,RG,h,k⟩:=h;refine⟨τ,G,_,RS,RG,h,λvs H1 ds G1 h1 S1 R1 q1=>⟨ds,G1,Q3,by rw[bC];exact h1,R1,q1,λv H' d G' z1 z2 z3 z4=>k v H' d G' z1 (S1.trans z2) z3 z4⟩⟩
theorem SO(F:wO X.prog X.w X.K X.mg X.base k f fd ps sp)(hr:cW k X.A)(hm:X.mg x=some (.ref f))(hk:PySem.W.keepIn X.K (.ref f)=true)(hb:Binds X.K fd ps [])(ha:l5 X (e::es) t)(hg:Gl X x:=by rfl)
  (vg:(x==("__debug__":aG))=false:=by decide) (he:notStar e=true:=by rfl) (hpl:es.all notStar=true:=by rfl):
  cv X (.Call (.Name x p) (e::es) [] pos) (aN sp t):=jJ (Vb (E:=E0) F hr hg hm hk hb .nil Kr ha vg (eU he) (k9 hpl)) λσ H Q h=>SQ h
end
section
variable {P:ao} {w:aC} {K:PySem.W.Frag} {mg:aG->Option ζ} {base:Heap}
def aF(Q:V3):rU:={ nx:=λ_ G'=>∃G0,Sub G0 G'/\Q .aE G0,rt:=λd G'=>∃G0,Sub G0 G'/\Q d G0 }
theorem Z3{st:iz}(F:A9 K x qual st f fd)(S:jP N ps (dw st))(hN:ps.length≤N.length)(len:∀ds G Q,sp ds G Q->ds.length=ps.length)(tb:au)
  (vh:∀(cdv:ζ) (A:aQ) (outer:List Env) (s:η) (H:Hp) (E:XK),cW k (A.deeper (envOfC qual (dw st) s.heap.objs.size f cdv)) ->
   qy (tu wG P w K mg base N qual (dw st) f cdv A outer s H E).yE (lZ st) tb)
  (K3:∀ds G Q,sp ds G Q->tb (aF Q) (aY N ds) G):wO P w K mg base (k+1) f fd ps sp:=by
 refine F.ok S (λvs H Q E h=>?_) (λcdv A outer s H vs Q E hr h=>?_)
 ·obtain⟨ds,G,Q3,h1,h2,h3,h4⟩:=h;rw[←h1.length];exact len _ _ _ h3
 ·obtain⟨ds,G,Q3,h1,h2,h3,h4⟩:=h;refine⟨_,vh cdv A outer s H E hr,aY N ds,G,aF Q3,.start h1 ?_,h2,K3 _ _ _ h3,⟨?_,?_,?_,?_⟩⟩
  ·rw[←h1.length,len _ _ _ h3];exact hN
  ·exactλτ σ G' H' a b c zz=>by obtain⟨G0,s0,q⟩:=zz;exact h4 _ H' .aE G0 (by simp[Hv]) (b.trans (.sub s0)) (c.sub s0) q
  ·exactλτ σ G' H' a b c q=>q.elim
  ·exactλτ σ G' H' a b c q=>q.elim
  ·exactλd v G' H' a b c zz=>by obtain⟨G0,s0,q⟩:=zz;exact h4 _ H' d G0 a (b.trans (.sub s0)) (c.sub s0) q
end
structure Src where
 items:List D
 guard:Gp->Prop
structure As(K:PySem.W.Frag)(H0:Hp)(J:It)(S:Src):Prop where
 go:∀(i:Nat) d H G,Ext H0 H->bh K G H->S.guard G->S.items[i]?=some d->J.go i H/\∀x H',J.C4 i H x H'->Hv K H' d x/\Step H G H' G/\bh K G H'
 stop:∀(i:Nat) H G,Ext H0 H->bh K G H->S.guard G->S.items.length≤i->J.stop i H
abbrev qZ:=S3->Gp->(Src->Gp->Prop)->Prop
def JD(K:PySem.W.Frag)(ti:qZ):TI:=λσ H R=>∃τ G R3,fR K τ σ H/\bh K G H/\ti τ G R3/\∀J H' S G',As K H' J S->Step H G H' G'->bh K G' H'->R3 S G'->R J H'
abbrev ur(X:Cx)(tg iter:aT)(ti:qZ):Prop:=PI X tg iter (JD X.K ti)
section
variable {X:Cx} {tg iter:aT} {pos p:d9}
theorem xI(h:PI X tg iter t)(f:∀σ H R,t' σ H R->t σ H R):PI X tg iter t':=λpins s σ H R I q=>h pins s σ H R I (f σ H R q)
def gx(te:cu):qZ:=λτ G R=>te τ G λx G1=>match x with
 |.obj p=>∃ds,G1 p=some (.lst ds)/\R ⟨ds,λG=>G p=some (.lst ds)⟩ G1
 |.tup ds=>R ⟨ds,λ_=>True⟩ G1
 |.gQ ds=>R ⟨ds,λ_=>True⟩ G1
 |_=>False
theorem SN(hl:cv X l te):ur X tg l (gx te):=by
 intro pins s σ H R I h;obtain⟨τ,G,R3,RS,RG,h,k⟩:=h
 -- the state carries what a list of the heap is
 refine bN (hl pins s σ H (λv H'=>∃d G',Hv X.K H' d v/\Step H G H' G'/\bh X.K G' H'/\(match d with
  |.obj p=>∃ds,G' p=some (.lst ds)/\R3 ⟨ds,λG=>G p=some (.lst ds)⟩ G'
  |.tup ds=>R3 ⟨ds,λ_=>True⟩ G'
  |.gQ ds=>R3 ⟨ds,λ_=>True⟩ G'
  | _=>False)) I ⟨τ,G,_,RS,RG,h,λv H' d G' a b c q=>⟨d,G',a,b,c,q⟩⟩) λv s1 ⟨x,H1,I1,r1,d,G1,hv,S1,R1,q⟩=>?_
 have hlist:∀(a:ν) (its:List ζ) (xs:List V),bq xs its->PlainL s1.heap a its.toArray->R (LJ X.K a) H1->χ (model X.prog X.w) X.A (pyIter (.ref a)) (DD X pins σ tg R) X.xe s1:=by
  intro a its xs rv p q;refine fW p.isList (⟨s1.heap.objs.size,[s1.heap.objs.size],_,_,H1,rfl,I1.kept (t':=s1.toks) λb o e=>Heap.get?_push_of_some _ e,U1 a _,⟨_,Heap.get?_push_size _ rfl,rfl,rfl⟩,λb hb=>?_,q⟩);have e:b=s1.heap.objs.size:=by simpa using hb
  subst e;exact I1.rT (ρ _) (I1.bX.fresh (ρ _))
 cases d with
 |obj a=>
  subst hv;cases r1;obtain⟨ds,e1,q⟩:=q;obtain⟨vs,e2,e3⟩:=R1 a _ e1;obtain⟨its,rv,p,hz⟩:=I1.list (fw.of e2);refine hlist a its vs rv p (k _ _ _ _ ⟨?_,?_⟩ S1 R1 q)
  ·intro i d H' G' E' RG' hg hi;obtain⟨vs',z1,z2⟩:=RG' a _ hg;obtain⟨v',y1,y2⟩:=z2.get hi;refine⟨⟨vs',v',.of z1,y1⟩,λx H'' hy=>?_⟩;obtain⟨rfl,hy⟩:=hy;have:=hy vs' (.of z1);rw[y1] at this;cases this;exact⟨y2,.refl _ _,RG'⟩
  ·intro i H' G' E' RG' hg hi;obtain⟨vs',z1,z2⟩:=RG' a _ hg;exact⟨vs',.of z1,by rw[←z2.length];exact hi⟩
 |tup ds=>
  obtain⟨a,vs,rfl,e2,e3⟩:=hv;cases r1;obtain⟨its,rv,p,hz⟩:=I1.tuple e2;have hq:R (LH X.K a) H1:=by
   refine k _ _ _ _ ⟨?_,?_⟩ S1 R1 q
   ·intro i d H' G' E' RG' hg hi;obtain⟨v',y1,y2⟩:=e3.get hi;refine⟨⟨vs,v',cR.ext E' e2,y1⟩,λx H'' hy=>?_⟩;obtain⟨rfl,hy⟩:=hy;have:=hy vs (cR.ext E' e2);rw[y1] at this;cases this;exact⟨y2.ext E',.refl _ _,RG'⟩
   ·intro i H' G' E' RG' hg hi;exact⟨vs,cR.ext E' e2,by rw[←e3.length];exact hi⟩
  refine dI (show s1.heap.IsTuple a its.toArray from p) (⟨s1.heap.objs.size,[s1.heap.objs.size],_,_,H1,rfl,I1.kept (t':=s1.toks) λb o e=>Heap.get?_push_of_some _ e,U0 a _,⟨_,Heap.get?_push_size _ rfl,rfl,rfl⟩,λb hb=>?_,hq⟩);have e:b=s1.heap.objs.size:=by simpa using hb
  subst e;exact I1.rT (ρ _) (I1.bX.fresh (ρ _))
 |gQ ds=>
  obtain⟨a,vs,rfl,e2,e3⟩:=hv;cases r1;obtain⟨its,rv,p,hz⟩:=I1.list e2.l;refine hlist a its vs rv p (k _ _ _ _ ⟨?_,?_⟩ S1 R1 q)
  ·intro i d H' G' E' RG' hg hi;obtain⟨v',y1,y2⟩:=e3.get hi;refine⟨⟨vs,v',(sh.ext E' e2).l,y1⟩,λx H'' hy=>?_⟩;obtain⟨rfl,hy⟩:=hy;have:=hy vs (sh.ext E' e2).l;rw[y1] at this;cases this;exact⟨y2.ext E',.refl _ _,RG'⟩
  ·intro i H' G' E' RG' hg hi;exact⟨vs,(sh.ext E' e2).l,by rw[←e3.length];exact hi⟩
 |aE=>exact q.elim
 |bl _=>exact q.elim
 |int _=>exact q.elim
 |str _=>exact q.elim
 |dc _=>exact q.elim
def kh(lo:Int)(n:Nat):List D:=(Φ n).map λi:Nat=>.int (lo+(i:Int))
theorem Ip{lo:Int}(h:(kh lo n)[i]?=some d):i<n/\d=.int (lo+(i:Int)):=by
 unfold kh at h;rw[ax] at h;by_cases hi:i<n
 ·rw[jU hi] at h;simp at h;exact⟨hi,h.symm⟩
 ·rw[eD.mpr (by simpa using hi)] at h;cases h
theorem zX(lo:Int)(n:Nat):(kh lo n).length=n:=by simp[kh]
theorem Io{K:PySem.W.Frag}(lo:Int)(n:Nat):As K H (A8 lo n) ⟨kh lo n,λ_=>True⟩:=⟨by
 intro i d H' G' _ RG _ hi;obtain⟨h1,h2⟩:=Ip hi;refine⟨h1,λx H'' hy=>?_⟩;obtain⟨rfl,rfl⟩:=hy;exact⟨by rw[h2];simp[Hv],.refl _ _,RG⟩,by
 intro i H' G' _ RG _ hi;rw[zX] at hi;exact hi⟩
def p9(ta:jK):qZ:=λτ G R=>ta τ G λds G1=>match ds with
 |[.int j]=>(-(2^62)≤j/\j<2^62)/\R ⟨kh 0 j.toNat,λ_=>True⟩ G1
 |_=>False
def p8(ta:jK):qZ:=λτ G R=>ta τ G λds G1=>match ds with
 |[.int i,.int j]=>(-(2^62)≤i/\i<2^62/\-(2^62)≤j/\j<2^62)/\R ⟨kh i (j-i).toNat,λ_=>True⟩ G1
 |_=>False
theorem SK(hm:X.mg "range" = none)(ha:l5 X [a] ta)(hg:Gl X "range":=by rfl)(hs:notStar a=true:=by rfl):ur X tg (.Call (.Name "range" p) [a] [] pos) (p9 ta):=
 xI (UY hg hm ha (eU hs)) λσ H R zz=>by
  obtain⟨τ,G,R3,RS,RG,h,k⟩:=zz;exact⟨τ,G,_,RS,RG,h,λvs H1 ds G1 h1 S1 R1 q1=>by
  rcases ds with _|⟨d,_|⟨d2,ds⟩⟩
  ·exact q1.elim
  ·cases d with
   |int j=>
    obtain⟨v,r,rfl,z1,z2⟩:=h1.inv;cases z2.kn;exact⟨j,by rw[z1],q1.1.1,q1.1.2,k _ _ _ _ (Io 0 _) S1 R1 q1.2⟩
   |_=>exact q1.elim
  ·cases d<;>exact q1.elim⟩
theorem SJ(hm:X.mg "range" = none)(ha:l5 X [a,b] ta)(hg:Gl X "range":=by rfl)(hs:notStar a=true:=by rfl)(hs2:notStar b=true:=by rfl):
  ur X tg (.Call (.Name "range" p) [a,b] [] pos) (p8 ta):=
 xI (UX hg hm ha (by rw[eU hs,eU hs2];rfl) (eU hs2)) λσ H R zz=>by
  obtain⟨τ,G,R3,RS,RG,h,k⟩:=zz;exact⟨τ,G,_,RS,RG,h,λvs H1 ds G1 h1 S1 R1 q1=>by
  rcases ds with _|⟨d,_|⟨d2,_|⟨d3,ds⟩⟩⟩
  ·exact q1.elim
  ·cases d<;>exact q1.elim
  ·cases d with
   |int i=>
    cases d2 with
    |int j=>
     obtain⟨v,r,rfl,z1,z2⟩:=h1.inv;obtain⟨v',r',rfl,z3,z4⟩:=z2.inv;cases z4.kn;exact⟨i,j,by rw[z1,z3],q1.1,k _ _ _ _ (Io i _) S1 R1 q1.2⟩
    |_=>exact q1.elim
   |_=>exact q1.elim
  ·cases d with
   |int i=>cases d2<;>exact q1.elim
   |_=>exact q1.elim⟩
def oI(guard:Gp->Prop)(g:oo)(tb:au)(D3:rU):List D->S3->Gp->Prop
 |[],τ,G=>guard G/\D3.nx τ G
 |d::ds,τ,G=>guard G/\g d τ G λτ2 G2=>tb { D3 with nx:=oI guard g tb D3 ds,ct:=oI guard g tb D3 ds,bk:=D3.nx } τ2 G2
def jd(ti:qZ)(g:oo)(tb:au):au:=λD3 τ G=>ti τ G λS G1=>oI S.guard g tb D3 S.items τ G1
theorem SI(hp:qk (model X.prog X.w) X.A X.env X.xe)(hc:X.calm=true)(hi:ur X tg iter ti)(hg:vC X tg g)(hb:qy X body tb)
  (hs:∀x,foldedSetIterable iter X.env x=pure x:=by intro _;rfl):pB X (.For tg iter body [] pos) (jd ti g tb):=sf (UU hp hc hi hg hb hs) λD2 σ H zz=>by
 obtain⟨τ,G,D3,RS,RG,h,k⟩:=zz;refine⟨τ,G,_,RS,RG,h,λJ H1 S G1 ok S1 R1 q1=>(⟨λi m σ' H'=>∃τ' G',fR X.K τ' σ' H'/\bh X.K G' H'/\Step H G H' G'/\Ext H1 H'/\oI S.guard g tb D3 (S.items.drop i) τ' G'/\m+i=S.items.length,⟨S.items.length,τ,G1,RS.ext (S1.ext RG),R1,S1,.refl H1,by simpa using q1,by lia⟩,?_⟩)⟩;rintro i m σ' H' ⟨τ',G',RS',RG',S',E',q,hm⟩;by_cases hlt:i<S.items.length
 ·have hd:=dz hlt;have hget:=Θ hlt;rw[hd] at q;obtain⟨xW,q⟩:=q;obtain⟨z1,z2⟩:=ok.go i _ H' G' E' RG' xW hget;refine .inr ⟨z1,λσ2 H2=>∃τ2 G2,fR X.K τ2 σ2 H2/\bh X.K G2 H2/\Step H G H2 G2/\Ext H1 H2/\oI S.guard g tb D3 (S.items.drop (i+1)) τ2 G2,λσ2 H2 ⟨τ2,G2,a1,a2,a3,a4,a5⟩=>⟨m-1,by lia,τ2,G2,a1,a2,a3,a4,a5,by lia⟩,λx H2 hy=>?_⟩;obtain⟨y1,y2,y3⟩:=z2 x H2 hy;refine⟨S.items[i],τ',G',_,y1,RS'.ext (y2.ext RG'),y3,q,λτ3 σ3 G3 H3 b1 b2 b3 b4=>(⟨τ3,G3,_,b1,b3,b4,⟨?_,?_,?_,?_⟩⟩)⟩
  ·exactλτ4 σ4 G4 H4 c1 c2 c3 c4=>⟨τ4,G4,c1,c3,((S'.trans y2).trans b2).trans c2,((E'.trans (y2.ext RG')).trans (b2.ext y3)).trans (c2.ext b3),c4⟩
  ·exactλτ4 σ4 G4 H4 c1 c2 c3 c4=>k.nx τ4 σ4 G4 H4 c1 (((S'.trans y2).trans b2).trans c2) c3 c4
  ·exactλτ4 σ4 G4 H4 c1 c2 c3 c4=>⟨τ4,G4,c1,c3,((S'.trans y2).trans b2).trans c2,((E'.trans (y2.ext RG')).trans (b2.ext y3)).trans (c2.ext b3),c4⟩
  ·exactλd v G4 H4 c1 c2 c3 c4=>k.rt d v G4 H4 c1 (((S'.trans y2).trans b2).trans c2) c3 c4
 ·have hd:S.items.drop i=[]:=fB (by lia);rw[hd] at q;exact .inl ⟨ok.stop i H' G' E' RG' q.1 (by lia),k.nx τ' σ' G' H' RS' S' RG' q.2⟩
def iE(guard:Gp->Prop)(g:oo)(tc:jY)(te:cu)(Q:List D->Gp->Prop):List D->List D->S3->Gp->Prop
 |[],acc,τ,G=>guard G/\Q acc G
 |d::ds,acc,τ,G=>guard G/\g d τ G λτ2 G2=>tc τ2 G2 λb G3=>Br b (te τ2 G3 λv G4=>iE guard g tc te Q ds (acc++[v]) τ2 G4) (iE guard g tc te Q ds acc τ2 G3)
def yd(own:List aG)(js:List Nat)(τ:S3):S3:=(own.map λ_=>none)++js.map λj=>lq τ j
def fK(own:List aG)(js:List Nat)(ti:qZ)(g:oo)(tc:jY)(te:cu):cu:=λτ G Q=>ti τ G λS G1=>S.items.length≤aA ∧
 iE S.guard g tc te (λds G2=>∀p G3,d8 G2 p (.lst ds) G3->Q (.obj p) G3) S.items [] (yd own js τ) G1
theorem Im:∀(τ:S3) (i:Nat),lq τ i=(τ[i]?).getD none
 |[],i=>by simp[lq]
 |x::r,0=>by simp[lq]
 |x::r,i+1=>by simp[lq,Im r i]
theorem fR.cmp{K:PySem.W.Frag}(own:List aG)(js:List Nat)(R:fR K τ σ H):fR K (yd own js τ) (t8 own js σ) H:=⟨by simp[yd,t8],λi d h=>by
 rw[Im] at h;unfold yd at h;by_cases hi:i<own.length
 ·rw[cx (by simpa using hi)] at h;rw[ax,Θ hi] at h;cases h
 ·rw[bI (by simpa using hi),ax] at h;simp only[ε] at h;cases hj:js[i-own.length]? with
  |none=>rw[hj] at h;cases h
  |some j=>
   rw[hj] at h;have h':=h;obtain⟨v,e1,e2⟩:=R.at_ j d h';refine⟨v,?_,e2⟩;unfold t8;rw[bI (by simpa using hi),ax];simp only[mf,hj,Option.map_some,e1,uU]⟩
def dD:jY:=λ_ G Q=>Q true G
theorem SH:uu X [] (rN X.K dD):=λpins s σ H Q I zz=>by obtain⟨τ,G,Q3,RS,RG,h,k⟩:=zz;exact Tj pins s σ H Q I (k true H G (.refl H G) RG h)
theorem SG(h:qf X c t):uu X [c] (rN X.K t):=Th h
theorem Il{K:PySem.W.Frag}{own:List aG}{js:List Nat}{ti:qZ}{g:oo}{tc:jY}{te:cu}{σ:L2.St}{H:Hp}{Q:VK}(h:low K (fK own js ti g tc te) σ H Q):DW own js (JD K ti) (lowG K g) (rN K tc) (low K te) σ H Q:=by
 obtain⟨τ,G,Q3,RS,RG,h,k⟩:=h;refine⟨τ,G,_,RS,RG,h,λJ H1 S G1 ok S1 R1 q1=>?_⟩;obtain⟨hz,q1⟩:=q1;intro p hp;have hGp:G1 p=none:=R1.free hp;refine⟨λi m ys σ' H'=>∃τ' G' acc,fR K τ' σ' H'/\bh K G' H'/\Step H G H' G'/\Ext H1 H'/\H' p=some (.lst ys)/\G' p=none/\aU K H' acc ys ∧
  iE S.guard g tc te (λds G2=>∀p G3,d8 G2 p (.lst ds) G3->Q3 (.obj p) G3) (S.items.drop i) acc τ' G'/\m+i=S.items.length/\ys.length≤i,?_,?_⟩
 ·have E1:Ext H1 (upd H1 p (.lst [])):=.laid hp;exact⟨S.items.length,yd own js τ,G1,[],((RS.ext (S1.ext RG)).cmp own js).ext E1,R1.laid hp,S1.trans (.laid hp),E1,jw,hGp,.nil,by simpa using q1,by lia,ar _⟩
 rintro i m ys σ' H' ⟨τ',G',acc,RS',RG',S',E',hpl,hG',hacc,q,hm,hy⟩;refine⟨hpl,?_⟩;by_cases hlt:i<S.items.length
 ·have hd:S.items.drop i=S.items[i]::S.items.drop (i+1):=dz hlt;have hget:S.items[i]?=some S.items[i]:=Θ hlt;rw[hd] at q;obtain⟨xW,q⟩:=q;obtain⟨z1,z2⟩:=ok.go i _ H' G' E' RG' xW hget;refine .inr ⟨z1,by lia,λx H2 hyl=>?_⟩;obtain⟨y1,y2,y3⟩:=z2 x H2 hyl
  -- what is not in G stays
  have keep:∀{Ha Hb:Hp} {Ga Gb:Gp},Step Ha Ga Hb Gb->Ha p=some (.lst ys)->Ga p=none->Hb p=some (.lst ys)/\Gb p=none:=λ{Ha Hb Ga Gb} st e n=>by
   refine⟨st.fr p _ e n,?_⟩;refine aB λz=>?_;rw[st.new p n z] at e;cases e
  obtain⟨p2,n2⟩:=keep y2 hpl hG';refine⟨S.items[i],τ',G',_,y1,RS'.ext (y2.ext RG'),y3,q,λτ3 σ3 G3 H3 b1 b2 b3 b4=>?_⟩;obtain⟨p3,n3⟩:=keep b2 p2 n2;refine⟨τ3,G3,_,b1,b3,b4,λbb H4 G4 c1 c2 c3=>?_⟩;obtain⟨p4,n4⟩:=keep c1 p3 n3;have E4:Ext H' H4:=((y2.ext RG').trans (b2.ext y3)).trans (c1.ext b3);have S4:Step H G H4 G4:=((S'.trans y2).trans b2).trans c1;have RS4:=b1.ext (c1.ext b3);refine Br.ite c3 (λc3=>?_) λc3=>?_
  ·refine⟨τ3,G4,_,RS4,c2,c3,λv H5 d G5 e1 e2 e3 e4=>?_⟩;obtain⟨p5,n5⟩:=keep e2 p4 n4;refine⟨p5,m-1,by lia,τ3,G5,acc++[d],?_,?_,?_,?_,jw,n5,?_,e4,by lia,by rw[π];simp;lia⟩
   ·exact (RS4.ext (e2.ext c2)).ext (.wrote p5)
   ·intro a o e;have hne:a≠p:=λz=>by
     rw[z,n5] at e;cases e
    exact (e3 a o e).ext (.wrote p5) (fj hne)
   ·refine⟨λa o e n=>?_,λa q=>?_,λa n q=>((S4.trans e2).new a n q)⟩
    ·by_cases hne:a=p
     ·exfalso;rw[hne] at e n;have hh:=S1.fr p o e n;rw[hp] at hh;cases hh
     ·rw[fj hne];exact (S4.trans e2).fr a o e n
    ·by_cases hne:a=p
     ·rw[hne,jw];simp
     ·rw[fj hne];exact (S4.trans e2).pX a q
   ·exact ((E'.trans E4).trans (e2.ext c2)).trans (.wrote p5)
   ·have E5:Ext H' (upd H5 p (.lst (ys++[v]))):=(E4.trans (e2.ext c2)).trans (.wrote p5);exact (hacc.ext E5).append (.cons (e1.ext (.wrote p5)) .nil)
  ·exact⟨m-1,by lia,τ3,G4,acc,RS4,c2,S4,E'.trans E4,p4,n4,hacc.ext E4,c3,by lia,by lia⟩
 ·have hd:S.items.drop i=[]:=fB (by lia);rw[hd] at q;refine .inl ⟨ok.stop i H' G' E' RG' q.1 (by lia),?_⟩;refine k _ H' (.obj p) (fO G' p (.lst acc)) (by simp[Hv]) ?_ ?_ (q.2 p _ (.mk' hG'))
  ·refine⟨S'.fr,S'.pX,λa n z=>?_⟩;by_cases hne:a=p
   ·rw[hne];cases hh:H p with
    |none=>rfl
    |some o=>
     exfalso;rw[hne] at n;have:=S1.fr p o hh n;rw[hp] at this;cases this
   ·rw[mR hne] at z;exact S'.new a n z
  ·intro a o e;by_cases hne:a=p
   ·rw[hne,oh] at e;cases e;rw[hne];exact⟨ys,hpl,hacc⟩
   ·rw[mR hne] at e;exact RG' a o e
theorem SF(hc:X.calm=true)(C:j4 X.N X.env.scope scope own js)(hi:ur X tg iter ti)
  (hb:∀s H fp,vC (X.cmp scope own js s H fp) tg g/\uu (X.cmp scope own js s H fp) ifs (rN X.K tc)/\cv (X.cmp scope own js s H fp) elt te)
  (hs:∀x,foldedSetIterable iter X.env x=pure x:=by intro _;rfl):cv X (.ListComp elt [⟨tg,iter,ifs,0⟩] scope pos) (fK own js ti g tc te):=
 jJ (Tf hc C hi hb hs) λσ H Q h=>Il h
theorem SE{elt:aT}{ifs:List aT}{scope:kP}{own:List aG}{js:List Nat}{ti:qZ}{g:oo}{tc:jY}{te:cu}{i:Nat}{y:aG}{py spos:d9}(hc:X.calm=true)(hN:X.N.Nodup)(C:j4 X.N X.env.scope scope own js)(hi:ur X tg iter ti)
  (hb:∀s H fp,vC (X.cmp scope own js s H fp) tg g/\uu (X.cmp scope own js s H fp) ifs (rN X.K tc)/\cv (X.cmp scope own js s H fp) elt te) (hy:X.N[i]?=some y:=by rfl) (hyl:X.env.scope.names.lookup y=some .local:=by rfl)
  (AW:swapsWith (.ListComp elt [⟨tg,iter,ifs,0⟩] scope pos) (some (.Name y py)) spos.line X.env=pure true:=by rfl)
  (hs:∀x,foldedSetIterable iter X.env x=pure x:=by intro _;rfl):pB X (.Assign [.Name y py] (.ListComp elt [⟨tg,iter,ifs,0⟩] scope pos) spos) (bK (fK own js ti g tc te) (hName i)):=
 sf (Te hc hN hy hyl C hi hb AW hs) λD2 σ H zz=>by
  obtain⟨τ,G,D3,RS,RG,h,k⟩:=zz;exact
  Il ⟨τ,G,_,RS,RG,h,λv H1 d G1 h1 S1 R1 q1=>k.nx _ _ G1 H1 ((RS.ext (S1.ext RG)).set h1) S1 R1 q1⟩
theorem SD{guard:Gp->Prop}(I:List D->S3->Gp->Prop)(hg:∀ds τ G,I ds τ G->guard G)
  (step:∀d ds τ G,I (d::ds) τ G->g d τ G λτ2 G2=>tb { D3 with nx:=I ds,ct:=I ds,bk:=D3.nx } τ2 G2) (lK:∀τ G,I [] τ G->D3.nx τ G)
  (mono:∀(N N':S3->Gp->Prop),(∀τ G,N τ G->N' τ G)->∀d τ G,(g d τ G λτ2 G2=>tb { D3 with nx:=N,ct:=N,bk:=D3.nx } τ2 G2)->g d τ G λτ2 G2=>tb { D3 with nx:=N',ct:=N',bk:=D3.nx } τ2 G2):
  ∀ds τ G,I ds τ G->oI guard g tb D3 ds τ G
 |[],τ,G,h=>⟨hg _ _ _ h,lK _ _ h⟩
 |d::ds,τ,G,h=>⟨hg _ _ _ h,mono (I ds) _ (λτ G q=>SD I hg step lK mono ds τ G q) d τ G (step d ds τ G h)⟩
theorem mq{guard:Gp->Prop}{g:oo}{tb:au}{D3:rU}(I:List D->S3->Gp->Prop)(hg:∀ds τ G,I ds τ G->guard G)
  (step:∀d ds τ G (N:S3->Gp->Prop),I (d::ds) τ G->(∀τ' G',I ds τ' G'->N τ' G')->g d τ G λτ2 G2=>tb { D3 with nx:=N,ct:=N,bk:=D3.nx } τ2 G2) (lK:∀τ G,I [] τ G->D3.nx τ G):
  ∀ds τ G,I ds τ G->oI guard g tb D3 ds τ G
 |[],τ,G,h=>⟨hg _ _ _ h,lK _ _ h⟩
 |d::ds,τ,G,h=>⟨hg _ _ _ h,step d ds τ G _ h λτ' G' q=>mq I hg step lK ds τ' G' q⟩
end
end L3
namespace Dat
open PySem PySem.SeqAt
inductive D where
 |aE|bl (b:Bool)|int (i:Int)|str (x:aG)|tup (xs:List D)|lst (xs:List D)|mS
mutual
def D.dF:D->D->Bool
 |.aE,.aE=>true
 |.bl a,.bl b=>a==b
 |.bl a,.int b=>(if a then 1 else 0)==b
 |.int a,.bl b=>a==(if b then 1 else 0)
 |.int a,.int b=>a==b
 |.str a,.str b=>a==b
 |.tup xs,.tup ys=>jA xs ys
 |.lst xs,.lst ys=>jA xs ys
 |_,_=>false
def jA:List D->List D->Bool
 |[],[]=>true
 |x::xs,y::ys=>x.dF y&&jA xs ys
 |_,_=>false
end
mutual
def D.i4:D->Nat
 |.tup xs=>jh xs+1
 |.lst xs=>jh xs+1
 |_=>0
def jh:List D->Nat
 |[]=>0
 |x::xs=>max x.i4 (jh xs)
end
theorem mU:∀{xs:List D},d∈xs->d.i4≤jh xs
 |x::xs,h=>by
  rcases Ψ.mp h with e|e
  ·rw[e];exact Nat.le_max_left _ _
  ·exact aH (mU e) (Nat.le_max_right _ _)
mutual
def Hv(h:Heap):D->ζ->Prop
 |.aE,u=>u=.none
 |.bl b,u=>u=.bool b
 |.int i,u=>∃t,u=.int i t
 |.str x,u=>∃t,u=.str x t
 |.tup ds,u=>∃(a:ν) (its:List ζ),u=.ref a/\h.IsTuple a its.toArray/\aU h ds its
 |.lst ds,u=>∃(a:ν) (its:List ζ),u=.ref a/\h.IsList a its.toArray/\aU h ds its
 |.mS,_=>False
def aU(h:Heap):List D->List ζ->Prop
 |[],us=>us=[]
 |d::ds,us=>∃u r,us=u::r/\Hv h d u/\aU h ds r
end
theorem aU.length:∀{ds:List D} {us:List ζ},aU h ds us->us.length=ds.length
 |[],us,e=>by
  rw[e];rfl
 |d::ds,us,e=>by
  obtain⟨u,r,rfl,_,e2⟩:=e;rw[ai,ai,e2.length]
theorem aU.get:∀{ds:List D} {us:List ζ} {j:Nat} {d:D} {u:ζ},aU h ds us->ds[j]?=some d->us[j]?=some u->Hv h d u
 |[],_,_,_,_,_,e,_=>by simp at e
 |d::ds,us,0,_,_,q,e1,e2=>by
  obtain⟨u,r,rfl,q1,_⟩:=q;simp at e1 e2;rwa [←e1,←e2]
 |d::ds,us,j+1,_,_,q,e1,e2=>by
  obtain⟨u,r,rfl,_,q2⟩:=q;exact q2.get (j:=j) (by simpa using e1) (by simpa using e2)
theorem Jb{h:Heap}(hl:h.IsList a xs)(ht:h.IsTuple a ys):False:=by
 obtain⟨o,ho,hc,_⟩:=hl;obtain⟨o',ho',hc',_⟩:=ht;rw[ho] at ho';cases ho';rw[hc] at hc';exact absurd hc' (by decide)
mutual
theorem Hv.inj{h:Heap}:∀{d e:D} {u:ζ},Hv h d u->Hv h e u->d=e
 |d,e,u,p,q=>by
  cases d with
  |aE=>unfold Hv at p;subst p;cases e<;>unfold Hv at q<;>first|rfl|(simp at q)
  |bl b=>unfold Hv at p;subst p;cases e<;>unfold Hv at q<;>first|(simp at q;rw[q])|(simp at q)
  |int b=>unfold Hv at p;obtain⟨t,rfl⟩:=p;cases e<;>unfold Hv at q<;>first|(simp at q;rw[q])|(simp at q)
  |str b=>unfold Hv at p;obtain⟨t,rfl⟩:=p;cases e<;>unfold Hv at q<;>first|(simp at q;rw[q])|(simp at q)
  |mS=>unfold Hv at p;exact p.elim
  |tup ds=>
   unfold Hv at p;obtain⟨a,its,rfl,ha,p⟩:=p;cases e with
   |tup es=>
    unfold Hv at q;obtain⟨a',its',e1,ha',q⟩:=q;cases e1;have e2:its=its':=by
     obtain⟨o,ho,_,n,hd⟩:=ha;obtain⟨o',ho',_,n',hd'⟩:=ha';rw[ho] at ho';cases ho';rw[hd] at hd';injection hd' with e3 _
     simpa using congrArg pT e3
    subst e2;rw[aU.inj p q]
   |lst es=>
    unfold Hv at q;obtain⟨a',its',e1,ha',q⟩:=q;cases e1;exact (Jb ha' ha).elim
   |_=>unfold Hv at q<;>simp at q
  |lst ds=>
   unfold Hv at p;obtain⟨a,its,rfl,ha,p⟩:=p;cases e with
   |lst es=>
    unfold Hv at q;obtain⟨a',its',e1,ha',q⟩:=q;cases e1;have e2:its=its':=by
     obtain⟨o,ho,_,n,hd⟩:=ha;obtain⟨o',ho',_,n',hd'⟩:=ha';rw[ho] at ho';cases ho';rw[hd] at hd';injection hd' with e3 _
     simpa using congrArg pT e3
    subst e2;rw[aU.inj p q]
   |tup es=>
    unfold Hv at q;obtain⟨a',its',e1,ha',q⟩:=q;cases e1;exact (Jb ha ha').elim
   |_=>unfold Hv at q<;>simp at q
theorem aU.inj{h:Heap}:∀{ds es:List D} {us:List ζ},aU h ds us->aU h es us->ds=es
 |[],[],_,_,_=>rfl
 |[],e::es,us,p,q=>by
  unfold aU at p q;subst p;obtain⟨_,_,e1,_⟩:=q;cases e1
 |d::ds,[],us,p,q=>by
  unfold aU at p q;subst q;obtain⟨_,_,e1,_⟩:=p;cases e1
 |d::ds,e::es,us,p,q=>by
  unfold aU at p q;obtain⟨u,r,rfl,p1,p2⟩:=p;obtain⟨u',r',e1,q1,q2⟩:=q;cases e1;rw[Hv.inj p1 q1,aU.inj p2 q2]
end
theorem Ct:∀(ds es:List D),((Φ (min ds.length es.length)).all (λj=>(ds.getD j .aE).dF (es.getD j .aE))&&ds.length==es.length)=jA ds es
 |[],[]=>by simp[jA]
 |[],e::es=>by simp[jA]
 |d::ds,[]=>by simp[jA]
 |d::ds,e::es=>by
  have ih:=Ct ds es;unfold jA;rw[←ih];rw[ai,ai,show min (ds.length+1) (es.length+1)=min ds.length es.length+1 by lia,qH,List.all_cons,List.all_map];have e1:((ds.length+1==es.length+1):Bool)=(ds.length==es.length):=by simp
  rw[e1,Bool.and_assoc];rfl
theorem Ja:∀(ds es:List D),ds.length≠es.length->jA ds es=false
 |[],[],h=>absurd rfl h
 |[],e::es,_=>rfl
 |d::ds,[],_=>rfl
 |d::ds,e::es,h=>by
  unfold jA;rw[Ja ds es (by simpa using h),rA]
mutual
theorem Hv.refl{h:Heap}:∀{d:D} {u:ζ},Hv h d u->d.dF d=true
 |.aE,_,_=>rfl
 |.bl b,_,_=>by unfold D.dF;simp
 |.int b,_,_=>by unfold D.dF;simp
 |.str b,_,_=>by unfold D.dF;simp
 |.mS,_,p=>by unfold Hv at p;exact p.elim
 |.tup ds,_,p=>by
  unfold Hv at p;obtain⟨_,_,_,_,p⟩:=p;unfold D.dF;exact aU.refl p
 |.lst ds,_,p=>by
  unfold Hv at p;obtain⟨_,_,_,_,p⟩:=p;unfold D.dF;exact aU.refl p
theorem aU.refl{h:Heap}:∀{ds:List D} {us:List ζ},aU h ds us->jA ds ds=true
 |[],_,_=>rfl
 |d::ds,us,p=>by
  unfold aU at p;obtain⟨u,r,_,p1,p2⟩:=p;unfold jA;rw[Hv.refl p1,aU.refl p2];rfl
end
theorem sR(p:aU h ds us)(hj:j<us.toArray.size):Hv h (ds.getD j .aE) (us.toArray[j])/\ds.getD j .aE∈ds:=by
 have hl:=p.length;have hj':j<ds.length:=by simp at hj;lia
 have e1:ds[j]?=some (ds.getD j .aE):=by simp[hj']
 exact⟨p.get e1 (by simp at hj;simp[hj]),av e1⟩
theorem A1{s:η}{N:Nat}(ih:∀(d e:D) (u v:ζ) (A:aQ),d.i4<N->Hv s.heap d u->Hv s.heap e v->A.units+d.i4+1<cLine->EqAt A s u v (d.dF e))(d e:D)(u v:ζ)(A:aQ)(hN:d.i4≤N)(p1:Hv s.heap d u)(p2:Hv s.heap e v)(hu:A.units+d.i4+1<cLine):EqAt A s u v (d.dF e)/\RcAt A s u v (d.dF e)/\RcNeAt A s u v (!d.dF e):=by
 rcases d with _|b1|b1|b1|ds1|ds1|_<;>rcases e with _|b2|b2|b2|ds2|ds2|_<;>unfold Hv at p1 p2<;>first
  |exact p1.elim
  |exact p2.elim
  | ((first|subst p1|obtain⟨t1,rfl⟩:=p1|obtain⟨a1,its1,rfl,l1,p1⟩:=p1);(first|subst p2|obtain⟨t2,rfl⟩:=p2|obtain⟨a2,its2,rfl,l2,p2⟩:=p2))
 ·exact⟨.same _,.none_none,.none_none⟩
 ·exact⟨.none_bool _,.none_bool _,.none_bool _⟩
 ·exact⟨.none_int _ _,.none_int _ _,.none_int _ _⟩
 ·exact⟨.none_str _ _,.none_str _ _,.none_str _ _⟩
 ·exact⟨.none_tuple l2 (by omega),.none_tuple l2 (by omega),.none_tuple l2 (by omega)⟩
 ·exact⟨.none_list l2 (by omega),.none_list l2 (by omega),.none_list l2 (by omega)⟩
 ·exact⟨.bool_none _,.bool_none _,.bool_none _⟩
 ·exact⟨.bool_bool _ _,.bool_bool _ _,.bool_bool _ _⟩
 ·exact⟨.bool_int _ _ _,.bool_int _ _ _,.bool_int _ _ _⟩
 ·exact⟨.bool_str _ _ _,.bool_str _ _ _,.bool_str _ _ _⟩
 ·exact⟨.bool_tuple _ l2 (by omega),.bool_tuple _ l2 (by omega),.bool_tuple _ l2 (by omega)⟩
 ·exact⟨.bool_list _ l2 (by omega),.bool_list _ l2 (by omega),.bool_list _ l2 (by omega)⟩
 ·exact⟨.int_none _ _,.int_none _ _,.int_none _ _⟩
 ·exact⟨.int_bool _ _ _,.int_bool _ _ _,.int_bool _ _ _⟩
 ·exact⟨.int_int _ _ _ _,.int_int _ _ _ _,.int_int _ _ _ _⟩
 ·exact⟨.int_str _ _ _ _,.int_str _ _ _ _,.int_str _ _ _ _⟩
 ·exact⟨.int_tuple _ _ l2 (by omega),.int_tuple _ _ l2 (by omega),.int_tuple _ _ l2 (by omega)⟩
 ·exact⟨.int_list _ _ l2 (by omega),.int_list _ _ l2 (by omega),.int_list _ _ l2 (by omega)⟩
 ·exact⟨.str_none _ _,.str_none _ _,.str_none _ _⟩
 ·exact⟨.str_bool _ _ _,.str_bool _ _ _,.str_bool _ _ _⟩
 ·exact⟨.str_int _ _ _ _,.str_int _ _ _ _,.str_int _ _ _ _⟩
 ·exact⟨.str_str _ _ _ _,.str_str _ _ _ _,.str_str _ _ _ _⟩
 ·exact⟨.str_tuple _ _ l2 (by omega),.str_tuple _ _ l2 (by omega),.str_tuple _ _ l2 (by omega)⟩
 ·exact⟨.str_list _ _ l2 (by omega),.str_list _ _ l2 (by omega),.str_list _ _ l2 (by omega)⟩
 ·exact⟨.tuple_none l1 (by omega),.tuple_none l1 (by omega),.tuple_none l1 (by omega)⟩
 ·exact⟨.tuple_bool _ l1 (by omega),.tuple_bool _ l1 (by omega),.tuple_bool _ l1 (by omega)⟩
 ·exact⟨.tuple_int _ _ l1 (by omega),.tuple_int _ _ l1 (by omega),.tuple_int _ _ l1 (by omega)⟩
 ·exact⟨.tuple_str _ _ l1 (by omega),.tuple_str _ _ l1 (by omega),.tuple_str _ _ l1 (by omega)⟩
 ·have e9:(.tup ds1:D).i4=jh ds1+1:=by first|rfl|(unfold D.i4;rfl)
  have r:=λj h1 h2=>ih (ds1.getD j .aE) (ds2.getD j .aE) _ _ A.in1 (by have:=mU (sR p1 h1).2;omega) (sR p1 h1).1 (sR p2 h2).1 (by
   have:=mU (sR p1 h1).2;show A.units+1+_+1<cLine;omega)
  have x:=RcAt.tuples (e:=λj=>(ds1.getD j .aE).dF (ds2.getD j .aE)) l1 l2 (by omega) r;have y:=RcNeAt.tuples (e:=λj=>(ds1.getD j .aE).dF (ds2.getD j .aE)) l1 l2 (by omega) r;rw[Ω,Ω,p1.length,p2.length,Ct] at x y;unfold D.dF;refine⟨?_,x,y⟩;by_cases ha:a1=a2
  ·subst ha;have e0:=Hv.inj (d:=.tup ds1) (e:=.tup ds2) (by unfold Hv;exact⟨a1,its1,rfl,l1,p1⟩) (by unfold Hv;exact⟨a1,its2,rfl,l2,p2⟩);injection e0 with e0;subst e0;rw[p1.refl];exact .same _
  ·exact .of_refs ha x
 ·exact⟨.tuple_list l1 l2 (by omega),.tuple_list l1 l2 (by omega),.tuple_list l1 l2 (by omega)⟩
 ·exact⟨.list_none l1 (by omega),.list_none l1 (by omega),.list_none l1 (by omega)⟩
 ·exact⟨.list_bool _ l1 (by omega),.list_bool _ l1 (by omega),.list_bool _ l1 (by omega)⟩
 ·exact⟨.list_int _ _ l1 (by omega),.list_int _ _ l1 (by omega),.list_int _ _ l1 (by omega)⟩
 ·exact⟨.list_str _ _ l1 (by omega),.list_str _ _ l1 (by omega),.list_str _ _ l1 (by omega)⟩
 ·exact⟨.list_tuple l1 l2 (by omega),.list_tuple l1 l2 (by omega),.list_tuple l1 l2 (by omega)⟩
 ·have e9:(.lst ds1:D).i4=jh ds1+1:=by first|rfl|(unfold D.i4;rfl)
  have r:=λj h1 h2=>ih (ds1.getD j .aE) (ds2.getD j .aE) _ _ A.in1 (by have:=mU (sR p1 h1).2;omega) (sR p1 h1).1 (sR p2 h2).1 (by
   have:=mU (sR p1 h1).2;show A.units+1+_+1<cLine;omega)
  unfold D.dF;have xy:RcAt A s (.ref a1) (.ref a2) (jA ds1 ds2)/\RcNeAt A s (.ref a1) (.ref a2) (!jA ds1 ds2):=by
   by_cases hn:ds1.length=ds2.length
   ·have z:=Ct ds1 ds2;rw[hn,Nat.min_self,beq_self_eq_true,nZ] at z;have hl:its1.toArray.size=its2.toArray.size:=by simp[p1.length,p2.length,hn]
    have x:=RcAt.lists (e:=λj=>(ds1.getD j .aE).dF (ds2.getD j .aE)) l1 l2 hl (by omega) r;have y:=RcNeAt.lists (e:=λj=>(ds1.getD j .aE).dF (ds2.getD j .aE)) l1 l2 hl (by omega) r;rw[Ω,p1.length,hn,z] at x y;exact⟨x,y⟩
   ·rw[Ja _ _ hn];have hl:(its1.toArray.size != its2.toArray.size)=true:=by simp[p1.length,p2.length,hn]
    exact⟨.lists_lengths l1 l2 hl (by omega),.lists_lengths l1 l2 hl (by omega)⟩
  refine⟨?_,xy⟩;by_cases ha:a1=a2
  ·subst ha;have e0:=Hv.inj (d:=.lst ds1) (e:=.lst ds2) (by unfold Hv;exact⟨a1,its1,rfl,l1,p1⟩) (by unfold Hv;exact⟨a1,its2,rfl,l2,p2⟩);injection e0 with e0;subst e0;rw[p1.refl];exact .same _
  ·exact .of_refs ha xy.1
theorem J0{s:η}(N:Nat):∀(d e:D) (u v:ζ) (A:aQ),d.i4≤N->Hv s.heap d u->Hv s.heap e v->A.units+d.i4+1<cLine->EqAt A s u v (d.dF e)/\RcAt A s u v (d.dF e)/\RcNeAt A s u v (!d.dF e):=by
 induction N with
 |zero=>exact A1 λ_ _ _ _ _ h=>absurd h (gJ _)
 |succ N ih=>exact A1 λd e u v A h p q r=>(ih d e u v A (Nat.le_of_lt_succ h) p q r).1
theorem J3{s:η}(d e:D)(u v:ζ)(A:aQ)(p1:Hv s.heap d u)(p2:Hv s.heap e v)(hu:A.units+d.i4+1<cLine):EqAt A s u v (d.dF e):=(J0 _ d e u v A (ρ _) p1 p2 hu).1
theorem L5{s:η}(d e:D)(u v:ζ)(A:aQ)(p1:Hv s.heap d u)(p2:Hv s.heap e v)(hu:A.units+d.i4+1<cLine):RcAt A s u v (d.dF e):=(J0 _ d e u v A (ρ _) p1 p2 hu).2.1
theorem L4{s:η}(d e:D)(u v:ζ)(A:aQ)(p1:Hv s.heap d u)(p2:Hv s.heap e v)(hu:A.units+d.i4+1<cLine):RcNeAt A s u v (!d.dF e):=(J0 _ d e u v A (ρ _) p1 p2 hu).2.2
end Dat
namespace L3
open PySem PySem.Spec PyProof.Rows L2
section
variable {X:Cx} {K:PySem.W.Frag}
def yz(f:Int->Int->D):R3:=λx y G Q=>match x,y with
 |.int i,.int j=>Q (f i j) G
 |_,_=>False
theorem jX(h:Hv K H (.int i) v):v=.int i:=by unfold Hv at h;exact h
theorem vP(h:Hv K H (.bl i) v):v=.bl i:=by unfold Hv at h;exact h
theorem iY(h:Hv K H (.obj a) v):v=.ref a:=by unfold Hv at h;exact h
theorem mQ(h:Hv K H (.tup ds) v):∃a vs,v=.ref a/\cR K H a vs/\aU K H ds vs:=by unfold Hv at h;exact h
theorem sQ(h:Hv K H (.gQ ds) v):∃a vs,v=.ref a/\sh K H a vs/\aU K H ds vs:=by unfold Hv at h;exact h
theorem mo:Hv K H (.int i) (.int i):=by simp[Hv]
theorem pZ:Hv K H (.bl i) (.bl i):=by simp[Hv]
theorem qS:Hv K H (.obj a) (.ref a):=by simp[Hv]
theorem uj(h:cR K H a vs)(q:aU K H ds vs):Hv K H (.tup ds) (.ref a):=⟨a,vs,rfl,h,q⟩
theorem low_ints{f:Int->Int->D}{g:Int->Int->V}(hf:∀i j H,Hv K H (f i j) (g i j)):eG K (yz f) (pd g):=λx y vx vy G H Q3 Q hx hy RG h k=>by
 cases x with
 |int i=>
  cases y with
  |int j=>
   rw[jX hx,jX hy];exact⟨i,j,rfl,rfl,k _ H _ G (hf i j H) (.refl H G) RG h⟩
  |_=>exact h.elim
 |_=>exact h.elim
abbrev rE:R3:=yz λi j=>.int (i-j)
theorem SA:eG K rE (pd λi j=>.int (i-j)):=low_ints λ_ _ _=>mo
abbrev Bd:R3:=yz λi j=>.bl (decide (i≤j))
theorem JI:eG K Bd (pd λi j=>.bl (decide (i≤j))):=low_ints λ_ _ _=>pZ
abbrev Bf:R3:=yz λi j=>.bl (decide (j<i))
theorem Zq:eG K Bf (pd λi j=>.bl (decide (j<i))):=low_ints λ_ _ _=>pZ
abbrev Bg:R3:=yz λi j=>.bl (decide (j≤i))
theorem Zr:eG K Bg (pd λi j=>.bl (decide (j≤i))):=low_ints λ_ _ _=>pZ
def i6(i:Int):Prop:=i.natAbs<2^4000
theorem IZ(h:i6 i):i.natAbs.log2<4000:=by
 by_cases h0:i.natAbs=0
 ·rw[h0];decide
 ·exact (Nat.log2_lt h0).mpr h
theorem IY(h:i6 i):jW i≤4000:=by
 unfold jW;split
 ·exact ar _
 ·exact IZ h
theorem Sz(h1:i6 i)(h2:i6 j):IntMulOk i j:=by
 unfold IntMulOk f9.Int.intTooBig;have b1:=IY h1;have b2:=IY h2;have:¬((jW i:Int)+(jW j:Int) > (bitsLine:Int)):=by
  have:(bitsLine:Int)=134217728:=by decide
  lia
 rw[decide_eq_false this];simp
theorem Sy:eV X (binaryOp .FloorDiv) (rI (λ_ j=>0<j/\i6 j) λi j=>.int (i / j)):=Dq λi j _ _ _ _ _ hc q=>by
 have h1:(0:Int)<j:=hc.1;exact floordiv_int (by lia) (by rw[Int.fdiv_eq_ediv_of_nonneg i (by lia)];exact q) (.inl (PyProof.noPylong_of_log2 (jm (IZ hc.2) (by decide))))
theorem DL:eV X (binaryOp .Mult) (rI (λi j=>i6 i/\i6 j) λi j=>.int (i*j)):=Dq λ_ _ _ _ _ _ _ hc q=>mul_int q (Sz hc.1 hc.2)
def yX(C:Int->Int->Prop)(f:Int->Int->D):R3:=λx y G Q=>match x,y with
 |.int i,.int j=>C i j/\Q (f i j) G
 |_,_=>False
theorem Cs(hf:∀i j H,Hv K H (f i j) (g i j)):eG K (yX C f) (rI C g):=λx y vx vy G H Q3 Q hx hy RG h k=>by
 cases x with
 |int i=>
  cases y with
  |int j=>
   rw[jX hx,jX hy];exact⟨i,j,rfl,rfl,h.1,k _ H _ G (hf i j H) (.refl H G) RG h.2⟩
  |_=>exact h.elim
 |_=>exact h.elim
abbrev lE:R3:=yX (λ_ j=>0<j/\i6 j) λi j=>.int (i / j)
theorem Sx:eG K lE (rI (λ_ j=>0<j/\i6 j) λi j=>.int (i / j)):=Cs λ_ _ _=>mo
abbrev gq:R3:=yX (λ_ j=>0<j) λi j=>.int (i%j)
theorem Sw:eG K gq (rI (λ_ j=>0<j) λi j=>.int (i%j)):=Cs λ_ _ _=>mo
abbrev Di:R3:=yX C2 λi j=>.int (i^j.toNat)
theorem Sv:eG K Di (rI C2 λi j=>.int (i^j.toNat)):=Cs λ_ _ _=>mo
theorem Su{ws:List ζ}(ht:gK s.heap t #[])(hb:gK s.heap b ws.toArray)(h1:Q (.ref b) s):
  χ (model prog w) A (binaryOp .Add (.ref t) (.ref b)) Q E s:=by
 obtain⟨⟨cls,dd,data,sl⟩,ho,hc,n,hd⟩:=id ht;obtain⟨⟨cls2,dd2,data2,sl2⟩,ho2,hc2,n2,hd2⟩:=id hb;simp only at hc hd hc2 hd2;subst hc hd hc2 hd2;exact concat_meets ⟨_,ho,rfl⟩ ⟨_,ho2,rfl⟩ pI sj PySem.F.slot_tuple_add PySem.F.entry_tuple_add (PySem.F.args_tuple_add_2 _ _)
   (tuple_addW0 t b #[] ws.toArray n n2 dd dd2 sl sl2 rfl) ⟨ho,ho2,h1⟩
def AJ(K:PySem.W.Frag):R2:=λx y H Q=>∃a b ys,x=.ref a/\y=.ref b/\cR K H a []/\cR K H b ys/\Q (.ref b) H
theorem Ss:eV X (binaryOp .Add) (AJ X.K):=by
 intro pins s σ H x y v u Q I rx ry h;obtain⟨a,b,ys,rfl,rfl,ha,hb,q⟩:=h;cases rx;cases ry;obtain⟨its,r1,p1,_⟩:=I.tuple ha;obtain⟨its2,r2,p2,_⟩:=I.tuple hb;cases r1;exact Su p1 p2 ⟨.ref b,H,I,rfl,q⟩
def eu:R3:=λx y G Q=>match x,y with
 |.int i,.int j=>Q (.int (i+j)) G
 |.obj a,.obj b=>∃ds es,G a=some (.lst ds)/\G b=some (.lst es)/\ds.length+es.length≤aA/\∀p G',d8 G p (.lst (ds++es)) G'->Q (.obj p) G'
 |.tup ds,.tup es=>ds.length+es.length≤aA/\Q (.tup (ds++es)) G
 |_,_=>False
abbrev Dm(K:PySem.W.Frag):R2:=λx y H Q=>pd (λi j=>.int (i+j)) x y H Q∨(Ef x y H Q∨(Dl K x y H Q∨AJ K x y H Q))
theorem Sr:eV X (binaryOp .Add) (Dm X.K):=Jr.or (Jq.or (DM.or Ss))
theorem Sq:eG K eu (Dm K):=λx y vx vy G H Q3 Q hx hy RG h k=>by
 cases x with
 |int i=>
  cases y with
  |int j=>
   rw[jX hx,jX hy];exact .inl ⟨i,j,rfl,rfl,k _ H _ G mo (.refl H G) RG h⟩
  |_=>exact h.elim
 |obj a=>
  cases y with
  |obj b=>
   rw[iY hx,iY hy];obtain⟨ds,es,e1,e2,hz,q⟩:=h;obtain⟨vs,z1,z2⟩:=RG a _ e1;obtain⟨us,y1,y2⟩:=RG b _ e2;exact .inr (.inl ⟨a,b,vs,us,rfl,rfl,z1,y1,by rw[←z2.length,←y2.length];exact hz,λp hp=>(k _ _ (.obj p) _ qS (.iq hp) (RG.nN hp (z2.append y2)) (q p _ (.mk' (RG.free hp))))⟩)
  |_=>exact h.elim
 |tup ds=>
  cases y with
  |tup es=>
   obtain⟨a,vs,rfl,e1,e2⟩:=mQ hx;obtain⟨b,us,rfl,y1,y2⟩:=mQ hy;by_cases h0:vs=[]
   ·subst h0;have:ds=[]:=by
     have:=e2.length;exact cL (by simpa using this)
    subst this;exact .inr (.inr (.inr ⟨a,b,us,rfl,rfl,e1,y1,k _ H (.tup es) G (uj y1 y2) (.refl H G) RG h.2⟩))
   ·refine .inr (.inr (.inl ⟨a,b,vs,us,rfl,rfl,e1,y1,h0,by rw[←e2.length,←y2.length];exact h.1,λz=>?_,λz p hp=>?_⟩))
    ·subst z;have:=cL (by simpa using y2.length);subst this;refine k _ H (.tup ds) G (uj e1 e2) (.refl H G) RG ?_;have:=h.2;rwa [bC] at this
    ·exact k _ _ (.tup (ds++es)) G (uj (.of jw) ((e2.append y2).ext (.laid hp))) (.laid hp) (RG.laid hp) h.2
  |_=>exact h.elim
 |_=>exact h.elim
def i8:R3:=λx y G Q=>match x,y with
 |.int i,.int j=>(i6 i/\i6 j)/\Q (.int (i*j)) G
 |.obj a,.int k=>∃ds,G a=some (.lst ds)/\(-(2^63)≤k/\k<2^63)/\ds.length*k.toNat≤aA/\∀p G',d8 G p (.lst (bF k.toNat ds).flatten) G'->Q (.obj p) G'
 |_,_=>False
abbrev Dj:R2:=λx y H Q=>rI (λi j=>i6 i/\i6 j) (λi j=>.int (i*j)) x y H Q∨D9 x y H Q
theorem So:eV X (binaryOp .Mult) Dj:=DL.or T9
theorem Sn:eG K i8 Dj:=λx y vx vy G H Q3 Q hx hy RG h k=>by
 cases x with
 |int i=>
  cases y with
  |int j=>
   rw[jX hx,jX hy];exact .inl ⟨i,j,rfl,rfl,h.1,k _ H _ G mo (.refl H G) RG h.2⟩
  |_=>exact h.elim
 |obj a=>
  cases y with
  |int j=>
   rw[iY hx,jX hy];obtain⟨ds,e1,hk,hz,q⟩:=h;obtain⟨vs,z1,z2⟩:=RG a _ e1;exact .inr ⟨a,j,vs,rfl,rfl,z1,hk.1,hk.2,by rw[←z2.length];exact hz,λp hp=>(k _ _ (.obj p) _ qS (.iq hp) (RG.nN hp (z2.rep _)) (q p _ (.mk' (RG.free hp))))⟩
  |_=>exact h.elim
 |_=>exact h.elim
def ve:D->Bool
 |.aE=>true
 |_=>false
def qt(neg:Bool):R3:=λx y G Q=>match y with
 |.aE=>Q (.bl (if neg then !ve x else ve x)) G
 |_=>False
theorem IX(h:Hv K H x v):decide (v=.aE)=ve x:=by
 cases x with
 |aE=>unfold Hv at h;subst h;rfl
 |bl b=>rw[vP h];rfl
 |int b=>rw[jX h];rfl
 |str b=>unfold Hv at h;subst h;rfl
 |obj b=>rw[iY h];rfl
 |tup ds=>obtain⟨a,vs,rfl,_⟩:=mQ h;rfl
 |gQ ds=>obtain⟨a,vs,rfl,_⟩:=sQ h;rfl
 |dc a=>unfold Hv at h;rw[h.1];rfl
theorem Zo:eG K (qt false) (λx y H Q=>y=.aE/\Q (.bl (decide (x=.aE))) H):=λx y vx vy G H Q3 Q hx hy RG h k=>by
 cases y with
 |aE=>
  refine⟨by unfold Hv at hy;exact hy,?_⟩;rw[IX hx];exact k _ H _ G pZ (.refl H G) RG h
 |_=>exact h.elim
theorem Sm:eG K (qt true) (λx y H Q=>y=.aE/\Q (.bl (!decide (x=.aE))) H):=λx y vx vy G H Q3 Q hx hy RG h k=>by
 cases y with
 |aE=>
  refine⟨by unfold Hv at hy;exact hy,?_⟩;rw[IX hx];exact k _ H _ G pZ (.refl H G) RG h
 |_=>exact h.elim
def intsOf:List D->Option (List Int)
 |[]=>some []
 |.int i::r=>(intsOf r).map (i::·)
 |_::_=>none
theorem ui:∀{ds:List D} {vs:List V} {ns:List Int},aU K H ds vs->intsOf ds=some ns->vs=ns.map V.int
 |[],vs,ns,h,e=>by
  cases e;exact h.kn
 |d::ds,vs,ns,h,e=>by
  cases d with
  |int i=>
   obtain⟨v,r,rfl,z1,z2⟩:=h.inv;unfold intsOf at e;cases hm:intsOf ds with
   |none=>rw[hm] at e;cases e
   |some ms=>
    rw[hm] at e;cases e;rw[jX z1,ui z2 hm];rfl
  |_=>cases e
def wL:R3:=λx y G Q=>match x,y with
 |.int i,.int j=>Q (.bl (decide (i<j))) G
 |.tup ds,.tup es=>∃ns ms,intsOf ds=some ns/\intsOf es=some ms/\Q (.bl (HT.lexLt ns ms)) G
 |_,_=>False
abbrev Eb(K:PySem.W.Frag):R2:=λx y H Q=>pd (λi j=>.bl (decide (i<j))) x y H Q∨Ea K x y H Q
theorem IW(hu:X.A.units<cLine):eV X (compareOp .Lt) (Eb X.K):=Kt.or (Up hu)
theorem IV:eG K wL (Eb K):=λx y vx vy G H Q3 Q hx hy RG h k=>by
 cases x with
 |int i=>
  cases y with
  |int j=>
   rw[jX hx,jX hy];exact .inl ⟨i,j,rfl,rfl,k _ H _ G pZ (.refl H G) RG h⟩
  |_=>exact h.elim
 |tup ds=>
  cases y with
  |tup es=>
   obtain⟨a,vs,rfl,e1,e2⟩:=mQ hx;obtain⟨b,us,rfl,y1,y2⟩:=mQ hy;obtain⟨ns,ms,z1,z2,q⟩:=h;have q1:=ui e2 z1;have q2:=ui y2 z2;subst q1 q2;exact .inr ⟨a,b,ns,ms,rfl,rfl,e1,y1,k _ H _ G pZ (.refl H G) RG q⟩
  |_=>exact h.elim
 |_=>exact h.elim
def cB:R3:=λx y G Q=>match x,y with
 |.tup ds,.int i=>∃d,oj ds i=some d/\Q d G
 |.gQ ds,.int i=>∃d,oj ds i=some d/\Q d G
 |.obj p,.int i=>∃ds d,G p=some (.lst ds)/\oj ds i=some d/\Q d G
 |_,_=>False
theorem zW(h:aU K H ds vs)(e:oj ds i=some d):∃v,oj vs i=some v/\Hv K H d v:=by
 unfold oj at e ⊢;rw[←h.length];cases hx:sZ ds.length i with
 |none=>rw[hx] at e;cases e
 |some j=>
  rw[hx] at e;exact h.get e
theorem Zn:eG K cB (KS K):=λx y vx vy G H Q3 Q hx hy RG h k=>by
 cases y with
 |int i=>
  rw[jX hy];cases x with
  |tup ds=>
   obtain⟨d,e,q⟩:=h;obtain⟨a,vs,rfl,e1,e2⟩:=mQ hx;obtain⟨v,z1,z2⟩:=zW e2 e;exact .inr (.inl ⟨a,vs,i,v,rfl,rfl,e1,z1,k _ H d G z2 (.refl H G) RG q⟩)
  |gQ ds=>
   obtain⟨d,e,q⟩:=h;obtain⟨a,vs,rfl,e1,e2⟩:=sQ hx;obtain⟨v,z1,z2⟩:=zW e2 e;exact .inl ⟨a,vs,i,v,rfl,rfl,e1.l,z1,k _ H d G z2 (.refl H G) RG q⟩
  |obj p=>
   obtain⟨ds,d,e0,e,q⟩:=h;rw[iY hx];obtain⟨vs,e1,e2⟩:=RG p _ e0;obtain⟨v,z1,z2⟩:=zW e2 e;exact .inl ⟨p,vs,i,v,rfl,rfl,.of e1,z1,k _ H d G z2 (.refl H G) RG q⟩
  |_=>exact h.elim
 |_=>cases x<;>exact h.elim
theorem ZE(ha:cv X a ta)(hb:cv X b tb)(hs:wm b:=by intro _ _;rfl):cv X (.Subscript a b pos) (aq cB ta tb):=jJ (Uo Ul ha hb hs) λ_ _ _ h=>zZ Zn h
end
mutual
def eZ:D->Option Dat.D
 |.aE=>some .aE
 |.bl b=>some (.bl b)
 |.int i=>some (.int i)
 |.str x=>some (.str x)
 |.tup ds=>match c7 ds with
  |some xs=>some (.tup xs)
  |none=>none
 |.gQ ds=>match c7 ds with
  |some xs=>some (.lst xs)
  |none=>none
 |.obj _=>none
 |.dc _=>none
def c7:List D->Option (List Dat.D)
 |[]=>some []
 |d::ds=>match eZ d with
  |some x=>match c7 ds with
   |some xs=>some (x::xs)
   |none=>none
  |none=>none
end
def iD(G:Gp):D->Option Dat.D
 |.obj a=>match G a with
  |some (.lst ds)=>match c7 ds with
   |some xs=>some (.lst xs)
   |none=>none
  |_=>none
 |d=>eZ d
section
variable {X:Cx} {pins:List (ν×bT)} {σ:L2.St} {H:Hp} {s:η}
mutual
theorem sP(I:Inv X pins σ H s):∀{d:D} {v:V} {u:ζ} {x:Dat.D},Hv X.K H d v->RelV v u->eZ d=some x->Dat.Hv s.heap x u
 |.aE,v,u,x,h,r,e=>by
  unfold Hv at h;subst h;cases e;unfold Dat.Hv;exact r
 |.bl b,v,u,x,h,r,e=>by
  unfold Hv at h;subst h;cases e;unfold Dat.Hv;exact r
 |.int b,v,u,x,h,r,e=>by
  unfold Hv at h;subst h;cases e;unfold Dat.Hv;exact r
 |.str b,v,u,x,h,r,e=>by
  unfold Hv at h;subst h;cases e;unfold Dat.Hv;exact r
 |.obj a,v,u,x,h,r,e=>by cases e
 |.dc a,v,u,x,h,r,e=>by cases e
 |.tup ds,v,u,x,h,r,e=>by
  obtain⟨a,vs,rfl,q1,q2⟩:=mQ h;cases r;unfold eZ at e;cases hd:c7 ds with
  |none=>rw[hd] at e;cases e
  |some xs=>
   rw[hd] at e;cases e;obtain⟨its,rv,p,_⟩:=I.tuple q1;unfold Dat.Hv;exact⟨a,its,rfl,p,zL I q2 rv hd⟩
 |.gQ ds,v,u,x,h,r,e=>by
  obtain⟨a,vs,rfl,q1,q2⟩:=sQ h;cases r;unfold eZ at e;cases hd:c7 ds with
  |none=>rw[hd] at e;cases e
  |some xs=>
   rw[hd] at e;cases e;obtain⟨its,rv,p,_⟩:=I.list q1.l;unfold Dat.Hv;exact⟨a,its,rfl,p.isList,zL I q2 rv hd⟩
theorem zL(I:Inv X pins σ H s):∀{ds:List D} {vs:List V} {us:List ζ} {xs:List Dat.D},aU X.K H ds vs->bq vs us->c7 ds=some xs->Dat.aU s.heap xs us
 |[],vs,us,xs,h,r,e=>by
  cases h.kn;cases r;cases e;unfold Dat.aU;rfl
 |d::ds,vs,us,xs,h,r,e=>by
  obtain⟨v,vr,rfl,q1,q2⟩:=h.inv;unfold c7 at e;cases hd:eZ d with
  |none=>rw[hd] at e;cases e
  |some x=>
   rw[hd] at e;cases hr:c7 ds with
   |none=>rw[hr] at e;cases e
   |some xr=>
    rw[hr] at e;cases e;cases r with
    |cons r1 r2=>
     unfold Dat.aU;exact⟨_,_,rfl,sP I q1 r1 hd,zL I q2 r2 hr⟩
end
theorem uh(I:Inv X pins σ H s)(RG:bh X.K G H)(h:Hv X.K H d v)(r:RelV v u)(e:iD G d=some x):Dat.Hv s.heap x u:=by
 cases d with
 |obj a=>
  rw[iY h] at r;cases r;unfold iD at e;cases hG:G a with
  |none=>simp[hG] at e
  |some o=>
   cases o with
   |lst ds=>
    simp only[hG] at e;cases hr:c7 ds with
    |none=>rw[hr] at e;cases e
    |some xs=>
     rw[hr] at e;cases e;obtain⟨vs,e1,e2⟩:=RG a _ hG;obtain⟨its,rv,p,_⟩:=I.list (fw.of e1);exact⟨a,its,rfl,p.isList,zL I e2 rv hr⟩
   |qV=>simp[hG] at e
   |mS=>simp[hG] at e
   |gen R=>simp[hG] at e
 |aE=>exact sP I h r e
 |bl _=>exact sP I h r e
 |int _=>exact sP I h r e
 |str _=>exact sP I h r e
 |tup _=>exact sP I h r e
 |gQ _=>exact sP I h r e
 |dc _=>exact sP I h r e
end
section
variable {X:Cx} {a b e:aT} {ta tb:cu} {pos:d9}
def dS(neg:Bool):R3:=λx y G Q=>∃u v,iD G x=some u/\iD G y=some v/\u.i4≤50/\Q (.bl (if neg then !u.dF v else u.dF v)) G
def wq(X:Cx)(f:ζ->ζ->Sem ζ)(r:R3):Prop:=
 ∀(pins:List (ν×bT)) (s:η) (σ:L2.St) (H:Hp) (G:Gp) (x y:D) (vx vy:V) (u v:ζ) (Q3:V3),Inv X pins σ H s->bh X.K G H->Hv X.K H x vx->Hv X.K H y vy->RelV vx u->RelV vy v->r x y G Q3 ->
  χ (model X.prog X.w) X.A (f u v) (EP X pins σ λw H'=>∃d G',Hv X.K H' d w/\Step H G H' G'/\bh X.K G' H'/\Q3 d G') X.xe s
theorem Z9(hu:X.A.units+64<cLine):wq X (compareOp .Eq) (dS false):=by
 intro pins s σ H G x y vx vy u v Q3 I RG hx hy rx ry ⟨p,q,e1,e2,hd,h⟩;have:=Dat.L5 p q u v X.A (uh I RG hx rx e1) (uh I RG hy ry e2) (by lia);exact this _ _ _ _ ⟨.bl (p.dF q),H,I,rfl,.bl (p.dF q),G,pZ,.refl H G,RG,h⟩
theorem ZX(hu:X.A.units+64<cLine):wq X (compareOp .NotEq) (dS true):=by
 intro pins s σ H G x y vx vy u v Q3 I RG hx hy rx ry ⟨p,q,e1,e2,hd,h⟩;have:=Dat.L4 p q u v X.A (uh I RG hx rx e1) (uh I RG hy ry e2) (by lia);exact this _ _ _ _ ⟨.bl (!p.dF q),H,I,rfl,.bl (!p.dF q),G,pZ,.refl H G,RG,h⟩
def nj(K:PySem.W.Frag)(r:R3):R2:=λvx vy H Q=>∃x y G Q3,bh K G H/\Hv K H x vx/\Hv K H y vy/\r x y G Q3/\∀v H' d G',Hv K H' d v->Step H G H' G'->bh K G' H'->Q3 d G'->Q v H'
theorem wq.op(h:wq X f r):eV X f (nj X.K r):=by
 intro pins s σ H vx vy u v Q I rx ry ⟨x,y,G,Q3,RG,hx,hy,q,k⟩;refine bN (h pins s σ H G x y vx vy u v Q3 I RG hx hy rx ry q) λw s' zz=>by obtain⟨v',H',I',r',d,G',z1,z2,z3,z4⟩:=zz;exact⟨v',H',I',r',k v' H' d G' z1 z2 z3 z4⟩
theorem zK{K:PySem.W.Frag}:eG K r (nj K r):=λx y vx vy G H Q3 Q hx hy RG h k=>⟨x,y,G,Q3,RG,hx,hy,h,k⟩
theorem Ta(hu:X.A.units+64<cLine):eV X (compareOp .Eq) (nj X.K (dS false)):=(Z9 hu).op
theorem S9(hu:X.A.units+64<cLine):eV X (compareOp .NotEq) (nj X.K (dS true)):=(ZX hu).op
theorem Zs{K:PySem.W.Frag}:eG K (dS false) (nj K (dS false)):=zK
theorem Zm{K:PySem.W.Frag}:eG K (dS true) (nj K (dS true)):=zK
abbrev yP:=S3->Gp->(Option Int->Gp->Prop)->Prop
def Zl(K:PySem.W.Frag)(t:yP):TO:=λσ H Q=>∃τ G Q3,fR K τ σ H/\bh K G H/\t τ G Q3/\∀o H' G',Step H G H' G'->bh K G' H'->Q3 o G'->Q o H'
abbrev A4(X:Cx)(e:Option aT)(t:yP):Prop:=PO X e (Zl X.K t)
theorem IU(h:PO X o t)(f:∀σ H Q,t' σ H Q->t σ H Q):PO X o t':=λpins s σ H Q I q=>h pins s σ H Q I (f σ H Q q)
def oE:yP:=λ_ G Q=>Q none G
def nc(t:cu):yP:=λτ G Q=>t τ G λx G1=>match x with
 |.int i=>Q (some i) G1
 |_=>False
theorem S8:A4 X none oE:=IU Us λσ H Q zz=>by obtain⟨τ,G,Q3,RS,RG,h,k⟩:=zz;exact k none H G (.refl H G) RG h
theorem IT(h:cv X e ta):A4 X (some e) (nc ta):=IU (Ur h) λσ H Q zz=>by
 obtain⟨τ,G,Q3,RS,RG,h,k⟩:=zz;exact
 ⟨τ,G,_,RS,RG,h,λv H1 d G1 h1 S1 R1 q1=>by
  cases d with
  |int i=>exact⟨i,jX h1,k (some i) H1 G1 S1 R1 q1⟩
  |_=>exact q1.elim⟩
def iy(ds:List D)(lo hi:Option Int):List D:=(ds.drop (HT.cJ ds.length 0 lo)).take (HT.cJ ds.length ds.length hi-HT.cJ ds.length 0 lo)
def vn(ta:cu)(tl th:yP):cu:=λτ G Q=>ta τ G λx G1=>tl τ G1 λlo G2=>th τ G2 λhi G3=>match x with
 |.tup ds=>Q (.tup (iy ds lo hi)) G3
 |.gQ ds=>∀p G4,d8 G3 p (.lst (iy ds lo hi)) G4->Q (.obj p) G4
 |.obj a=>∃ds,G3 a=some (.lst ds)/\∀p G4,d8 G3 p (.lst (iy ds lo hi)) G4->Q (.obj p) G4
 |_=>False
theorem Cr{K:PySem.W.Frag}(h:aU K H ds vs)(lo hi:Option Int):aU K H (iy ds lo hi) (tw vs lo hi):=by
 unfold iy tw;rw[h.length];exact (h.drop _).take _
theorem S7{prog:ao}{w:aC}{A:aQ}{E:ζ->η->Prop}{s:η}{t sl:ν}{items:Array ζ}{vl vu:ζ}{lo hi:Option Int}{Q:ζ->η->Prop}(ht:gK s.heap t items)(hs:s.heap.IsSliceOf sl vl vu .none)(pl:mN vl lo)(pu:mN vu hi)
  (hw:HT.cJ items.size 0 lo=0/\HT.cJ items.size items.size hi=items.size) (h:Q (.ref t) s):χ (model prog w) A (getItem (.ref t) (.ref sl)) Q E s:=by
 obtain⟨os,hos,hcs,hds⟩:=id hs;have hTs:s.TypeIs (.ref sl) "slice":=⟨os,hos,hcs⟩;unfold getItem
 try with_reducible refine bY ?_
 first|refine γ (δ ?_)|skip
 refine γ (wpAny_sequenceKey ht.typeIs (by decide) ?_);refine γ (bD (name:=dY "__getitem__") ht.typeIs df
  (bA df ht.typeIs entry_tuple_getitem ?_ (args_tuple_getitem _ _)))
 show χ _ _ (jN (.ref t) >>= _) _ _ s;refine γ (tupleItemsOf_ ht ?_);refine γ (fx hTs ?_);rw[if_pos (by decide)];refine γ (HT.o7 hs pl pu ?_);have CQ:(((HT.cJ items.size 0 lo:Nat):Int)==0&&(1:Int)==1&&(HT.cJ items.size items.size hi-HT.cJ items.size 0 lo)==items.size)=true:=by
  rw[hw.1,hw.2];simp
 show χ _ _ (if (((HT.cJ items.size 0 lo:Nat):Int)==0&&(1:Int)==1&&(HT.cJ items.size items.size hi-HT.cJ items.size 0 lo)==items.size)=true then _ else _) _ _ s;rw[if_pos CQ];unfold f9.Tuple.tupleIsExact;refine γ (γ (fx ht.typeIs (δ ?_)));rw[if_pos (by decide)];exact γ (eX (δ ⟨_,rfl,δ h⟩))
def Kp(K:PySem.W.Frag):V->Option Int->Option Int->Hp->VK->Prop:=λx lo hi H Q=>∃a xs,x=.ref a/\cR K H a xs ∧
 (HT.cJ xs.length 0 lo=0/\HT.cJ xs.length xs.length hi=xs.length)/\Q (.ref a) H
theorem DK:wD X (Kp X.K):=by
 intro pins s σ H x v vl vu lo hi sl Q I rx hs pl pu h;obtain⟨a,xs,rfl,hx,hw,q⟩:=h;cases rx;obtain⟨its,r,ht,hz⟩:=I.tuple hx;have hlen:its.toArray.size=xs.length:=by rw[Ω];exact r.length.symm
 exact⟨"tuple",_,df.lookup,ht.typeIs,(S7 ht hs pl pu (by rw[hlen];exact hw) ⟨.ref a,H,I,rfl,q⟩)⟩
theorem ZC{lo:Option aT}(ha:cv X a ta)(hl:A4 X lo tl)(hh:A4 X hi th):cv X (.Subscript a (.Slice lo hi none p2) pos) (vn ta tl th):=
 jJ (Uq (D4.or (DK.or Uh)) ha hl hh) λσ H Q zz=>by
  obtain⟨τ,G,Q3,RS,RG,h,k⟩:=zz;refine⟨τ,G,_,RS,RG,h,λv1 H1 d1 G1 h1 S1 R1 q1=>?_⟩;have RS1:=RS.ext (S1.ext RG);refine⟨τ,G1,_,RS1,R1,q1,λl H2 G2 S2 R2 q2=>?_⟩;have RS2:=RS1.ext (S2.ext R1);refine⟨τ,G2,_,RS2,R2,q2,λu H3 G3 S3 R3 q3=>?_⟩;have S13:=(S1.trans S2).trans S3;have hv:=(h1.ext (S2.ext R1)).ext (S3.ext R2);cases d1 with
  |tup ds=>
   obtain⟨a',vs,rfl,e1,e2⟩:=mQ hv;by_cases hw:HT.cJ vs.length 0 l=0/\HT.cJ vs.length vs.length u=vs.length
   ·refine .inr (.inl ⟨a',vs,rfl,e1,hw,k _ H3 (.tup (iy ds l u)) G3 (uj e1 ?_) S13 R3 q3⟩);have:iy ds l u=ds:=by
     unfold iy;rw[e2.length,hw.1,hw.2];simp[←e2.length]
    rwa [this]
   ·refine .inl ⟨a',vs,rfl,e1,hw,λp hp=>?_⟩;exact k _ _ (.tup (iy ds l u)) G3 (uj (.of jw) ((Cr e2 l u).ext (.laid hp))) (S13.trans (.laid hp)) (R3.laid hp) q3
  |gQ ds=>
   obtain⟨a',vs,rfl,e1,e2⟩:=sQ hv;exact .inr (.inr ⟨a',vs,rfl,e1.l,λp hp=>(k _ _ (.obj p) _ qS (S13.trans (.iq hp)) (R3.nN hp (Cr e2 l u)) (q3 p _ (.mk' (R3.free hp))))⟩)
  |obj a'=>
   rw[iY hv];obtain⟨ds,e0,q3⟩:=q3;obtain⟨vs,e1,e2⟩:=R3 a' _ e0;exact .inr (.inr ⟨a',vs,rfl,.of e1,λp hp=>(k _ _ (.obj p) _ qS (S13.trans (.iq hp)) (R3.nN hp (Cr e2 l u)) (q3 p _ (.mk' (R3.free hp))))⟩)
  |_=>exact q3.elim
end
abbrev C3:=List D->Gp->V3->Prop
def du(r:C3)(t:jK):cu:=λτ G Q=>t τ G λds G1=>r ds G1 Q
def nR(K:PySem.W.Frag)(r:C3)(r2:List V->Hp->VK->Prop):Prop:=∀ds vs G H Q3 Q,aU K H ds vs->bh K G H->r ds G Q3->(∀v H' d G',Hv K H' d v->Step H G H' G'->bh K G' H'->Q3 d G'->Q v H')->r2 vs H Q
section
variable {X:Cx} {K:PySem.W.Frag} {e:aT} {es:List aT} {t:jK} {ta:cu} {pos p:d9}
theorem S6(L:nR K r r2)(h:low K (du r t) σ H Q):C7 r2 (wc K t) σ H Q:=by
 obtain⟨τ,G,Q3,RS,RG,h,k⟩:=h;exact⟨τ,G,_,RS,RG,h,λvs H1 ds G1 h1 S1 R1 q1=>(L _ _ _ _ _ _ h1 R1 q1 λv H' d G' z1 z2 z3 z4=>k v H' d G' z1 (S1.trans z2) z3 z4)⟩
theorem qx(L:nR X.K r r2)(h:PE X e (C7 r2 (wc X.K t))):cv X e (du r t):=jJ h λ_ _ _ h=>S6 L h
theorem nO(h:aU K H [d] vs):∃v,vs=[v]/\Hv K H d v:=by
 obtain⟨v,r,rfl,z1,z2⟩:=h.inv;cases z2.kn;exact⟨v,rfl,z1⟩
theorem Zv(h:aU K H [d,d'] vs):∃v v',vs=[v,v']/\Hv K H d v/\Hv K H d' v':=by
 obtain⟨v,r,rfl,z1,z2⟩:=h.inv;obtain⟨v',rfl,z3⟩:=nO z2;exact⟨v,v',rfl,z1,z3⟩
def k8:C3:=λds G Q=>match ds with
 |[.obj a]=>∃xs,G a=some (.lst xs)/\Q (.int xs.length) G
 |[.tup xs]=>Q (.int xs.length) G
 |[.gQ xs]=>Q (.int xs.length) G
 |_=>False
theorem S0:nR K k8 (λxs H Q=>∃p ys,xs=[.ref p]/\(fw K H p ys∨cR K H p ys)/\Q (.int ys.length) H):=λds vs G H Q3 Q h RG q k=>by
 rcases ds with _|⟨d,_|⟨d2,ds⟩⟩
 ·exact q.elim
 ·obtain⟨v,rfl,hv⟩:=nO h;cases d with
  |obj a=>
   obtain⟨xs,e,q⟩:=q;obtain⟨us,e1,e2⟩:=RG a _ e;rw[iY hv];exact⟨a,us,rfl,.inl (.of e1),by rw[←e2.length];exact k _ H _ G mo (.refl H G) RG q⟩
  |tup xs=>
   obtain⟨a,us,rfl,e1,e2⟩:=mQ hv;exact⟨a,us,rfl,.inr e1,by rw[←e2.length];exact k _ H _ G mo (.refl H G) RG q⟩
  |gQ xs=>
   obtain⟨a,us,rfl,e1,e2⟩:=sQ hv;exact⟨a,us,rfl,.inl e1.l,by rw[←e2.length];exact k _ H _ G mo (.refl H G) RG q⟩
  |_=>exact q.elim
 ·cases d<;>exact q.elim
theorem SY(hu:X.A.units+64<cLine)(hm:X.mg "len" = none)(ha:l5 X (e::es) t)(hg:Gl X "len":=by rfl)(he:notStar e=true:=by rfl)(hpl:es.all notStar=true:=by rfl):
  cv X (.Call (.Name "len" p) (e::es) [] pos) (du k8 t):=qx S0 (qT Ug hg hm PySem.boot_len ha (he:=eU he) (hpl:=k9 hpl))
def zJ:C3:=λds G Q=>match ds with
 |[.bl b]=>Q (.int (if b then 1 else 0)) G
 |[.int i]=>Q (.int i) G
 |_=>False
theorem SX:nR K zJ (λxs H Q=>(∃i,xs=[.int i]/\Q (.int i) H)∨∃k,xs=[.bl k]/\Q (.int (if k then 1 else 0)) H):=λds vs G H Q3 Q h RG q k=>by
 rcases ds with _|⟨d,_|⟨d2,ds⟩⟩
 ·exact q.elim
 ·obtain⟨v,rfl,hv⟩:=nO h;cases d with
  |bl b=>
   rw[vP hv];exact .inr ⟨b,rfl,k _ H _ G mo (.refl H G) RG q⟩
  |int b=>
   rw[jX hv];exact .inl ⟨b,rfl,k _ H _ G mo (.refl H G) RG q⟩
  |_=>exact q.elim
 ·cases d<;>exact q.elim
theorem SW(hu:X.A.units+64<cLine)(hm:X.mg "int" = none)(ha:l5 X (e::es) t)(hg:Gl X "int":=by rfl)(he:notStar e=true:=by rfl)(hpl:es.all notStar=true:=by rfl):
  cv X (.Call (.Name "int" p) (e::es) [] pos) (du zJ t):=qx SX (vQ Vf hg hm rfl ha (he:=eU he) (hpl:=k9 hpl))
def Cq:C3:=λds G Q=>match ds with
 |[.int i,.int j]=>Q (.int (if j > i then j else i)) G
 |_=>False
theorem SV{f:Int->Int->Int}:nR K (λds G Q=>match ds with
 |[.int i,.int j]=>Q (.int (f i j)) G
 | _=>False) (λxs H Q=>∃i j,xs=[.int i,.int j]/\Q (.int (f i j)) H):=λds vs G H Q3 Q h RG q k=>by
 rcases ds with _|⟨d,_|⟨d2,_|⟨d3,ds⟩⟩⟩
 ·exact q.elim
 ·cases d<;>exact q.elim
 ·obtain⟨v,v',rfl,h1,h2⟩:=Zv h;cases d with
  |int i=>
   cases d2 with
   |int j=>
    rw[jX h1,jX h2];exact⟨i,j,rfl,k _ H _ G mo (.refl H G) RG q⟩
   |_=>exact q.elim
  |_=>exact q.elim
 ·cases d with
  |int i=>cases d2<;>exact q.elim
  |_=>exact q.elim
theorem R9(hu:X.A.units+64<cLine)(hm:X.mg "max" = none)(ha:l5 X (e::es) t)(hc:X.calm=true:=by rfl)(hg:Gl X "max":=by rfl)(he:notStar e=true:=by rfl)(hpl:es.all notStar=true:=by rfl):
  cv X (.Call (.Name "max" p) (e::es) [] pos) (du Cq t):=qx (SV (f:=λi j=>if j > i then j else i)) (qT (Vg hc) hg hm rfl ha (he:=eU he) (hpl:=k9 hpl))
def qR:C3:=λds G Q=>match ds with
 |[.obj a]=>∃xs,G a=some (.lst xs)/\Q (.tup xs) G
 |[.tup xs]=>Q (.tup xs) G
 |[.gQ xs]=>Q (.tup xs) G
 |_=>False
theorem R8:nR K qR (λxs H Q=>∃p ys,xs=[.ref p]/\((fw K H p ys/\∀l,H l=none->Q (.ref l) (upd H l (.tup ys)))∨(cR K H p ys/\Q (.ref p) H))):=λds vs G H Q3 Q h RG q k=>by
 rcases ds with _|⟨d,_|⟨d2,ds⟩⟩
 ·exact q.elim
 ·obtain⟨v,rfl,hv⟩:=nO h;cases d with
  |obj a=>
   obtain⟨xs,e,q⟩:=q;obtain⟨us,e1,e2⟩:=RG a _ e;rw[iY hv];exact⟨a,us,rfl,.inl ⟨.of e1,λl hl=>k _ _ (.tup xs) G (uj (.of jw) (e2.ext (.laid hl))) (.laid hl) (RG.laid hl) q⟩⟩
  |tup xs=>
   obtain⟨a,us,rfl,e1,e2⟩:=mQ hv;exact⟨a,us,rfl,.inr ⟨e1,k _ H _ G (uj e1 e2) (.refl H G) RG q⟩⟩
  |gQ xs=>
   obtain⟨a,us,rfl,e1,e2⟩:=sQ hv;exact⟨a,us,rfl,.inl ⟨e1.l,λl hl=>k _ _ (.tup xs) G (uj (.of jw) (e2.ext (.laid hl))) (.laid hl) (RG.laid hl) q⟩⟩
  |_=>exact q.elim
 ·cases d<;>exact q.elim
theorem R7(hu:X.A.units+64<cLine)(hm:X.mg "tuple" = none)(ha:l5 X (e::es) t)(hg:Gl X "tuple":=by rfl)(he:notStar e=true:=by rfl)(hpl:es.all notStar=true:=by rfl):
  cv X (.Call (.Name "tuple" p) (e::es) [] pos) (du qR t):=qx R8 (vQ Ud hg hm rfl ha (he:=eU he) (hpl:=k9 hpl))
def xG:C3:=λds G Q=>match ds with
 |[.obj a]=>∃xs,G a=some (.lst xs)/\∀p G',d8 G p (.lst xs) G'->Q (.obj p) G'
 |[.tup xs]=>∀p G',d8 G p (.lst xs) G'->Q (.obj p) G'
 |[.gQ xs]=>∀p G',d8 G p (.lst xs) G'->Q (.obj p) G'
 |_=>False
theorem R6:nR K xG (λxs H Q=>∃p ys,xs=[.ref p]/\(fw K H p ys∨cR K H p ys)/\∀l,H l=none->Q (.ref l) (upd H l (.lst ys))):=λds vs G H Q3 Q h RG q k=>by
 have fin:∀(xs:List D) (us:List V),aU K H xs us->(∀p G',d8 G p (.lst xs) G'->Q3 (.obj p) G')->∀l,H l=none->Q (.ref l) (upd H l (.lst us)):=λxs us e2 q l hl=>
  k _ _ (.obj l) _ qS (.iq hl) (RG.nN hl e2) (q l _ (.mk' (RG.free hl)))
 rcases ds with _|⟨d,_|⟨d2,ds⟩⟩
 ·exact q.elim
 ·obtain⟨v,rfl,hv⟩:=nO h;cases d with
  |obj a=>
   obtain⟨xs,e,q⟩:=q;obtain⟨us,e1,e2⟩:=RG a _ e;rw[iY hv];exact⟨a,us,rfl,.inl (.of e1),fin xs us e2 q⟩
  |tup xs=>
   obtain⟨a,us,rfl,e1,e2⟩:=mQ hv;exact⟨a,us,rfl,.inr e1,fin xs us e2 q⟩
  |gQ xs=>
   obtain⟨a,us,rfl,e1,e2⟩:=sQ hv;exact⟨a,us,rfl,.inl e1.l,fin xs us e2 q⟩
  |_=>exact q.elim
 ·cases d<;>exact q.elim
theorem RZ(hu:X.A.units+64<cLine)(hm:X.mg "list" = none)(ha:l5 X (e::es) t)(hg:Gl X "list":=by rfl)(he:notStar e=true:=by rfl)(hpl:es.all notStar=true:=by rfl):
  cv X (.Call (.Name "list" p) (e::es) [] pos) (du xG t):=qx R6 (vQ Ue hg hm rfl ha (he:=eU he) (hpl:=k9 hpl))
def eM(r:D->List D->Gp->V3->Prop)(to:cu)(t:jK):cu:=λτ G Q=>to τ G λx G1=>(∃a xs,x=.obj a/\G1 a=some (.lst xs))/\t τ G1 λds G2=>r x ds G2 Q
def wo(K:PySem.W.Frag)(r:D->List D->Gp->V3->Prop)(r2:V->List V->Hp->VK->Prop):Prop:=∀x vx ds vs G H Q3 Q,Hv K H x vx->aU K H ds vs->bh K G H->r x ds G Q3->(∀v H' d G',Hv K H' d v->Step H G H' G'->bh K G' H'->Q3 d G'->Q v H')->r2 vx vs H Q
theorem RY(L:wo K r r2)(h:low K (eM r to t) σ H Q):DX K "list" r2 (low K to) (wc K t) σ H Q:=by
 obtain⟨τ,G,Q3,RS,RG,h,k⟩:=h;refine⟨τ,G,_,RS,RG,h,λv1 H1 d1 G1 h1 S1 R1 q1=>?_⟩;obtain⟨⟨a,xs,rfl,e1⟩,q1⟩:=q1;obtain⟨us,e2,e3⟩:=R1 a _ e1;refine⟨?_,τ,G1,_,RS.ext (S1.ext RG),R1,q1,λvs H2 ds G2 h2 S2 R2 q2=>?_⟩
 ·rw[iY h1];exact .inl ⟨rfl,us,.of e2⟩
 ·exact L _ _ _ _ _ _ _ _ (h1.ext (S2.ext R1)) h2 R2 q2 λv H' d G' z1 z2 z3 z4=>k v H' d G' z1 ((S1.trans S2).trans z2) z3 z4
def IS:D->List D->Gp->V3->Prop:=λx ds G Q=>match x,ds with
 |.obj a,[d]=>∃xs,G a=some (.lst xs)/\xs.length<aA/\Q .aE (fO G a (.lst (xs++[d])))
 |_,_=>False
theorem RX:wo K IS yC:=λx vx ds vs G H Q3 Q hx hs RG q k=>by
 rcases ds with _|⟨d,_|⟨d2,ds⟩⟩
 ·cases x<;>exact q.elim
 ·cases x with
  |obj a=>
   obtain⟨xs,e1,hz,q⟩:=q;obtain⟨us,e2,e3⟩:=RG a _ e1;obtain⟨v,rfl,hv⟩:=nO hs;rw[iY hx];exact⟨a,us,v,rfl,rfl,e2,by rw[←e3.length];exact hz,(k _ _ .aE _ (by simp[Hv]) (.wrote e1) (RG.AE e2 (e3.append (.cons hv .nil))) q)⟩
  |_=>exact q.elim
 ·cases x<;>exact q.elim
theorem RW(L:wo X.K r r2)(h:PE X e (DX X.K "list" r2 (low X.K to) (wc X.K t))):cv X e (eM r to t):=jJ h λ_ _ _ z=>RY L z
def Cp:D->List D->Gp->V3->Prop:=λx ds G Q=>match x,ds with
 |.obj a,[.obj b]=>∃xs ys,G a=some (.lst xs)/\G b=some (.lst ys)/\xs.length+ys.length≤aA/\Q .aE (fO G a (.lst (xs++ys)))
 |_,_=>False
theorem RV:wo K Cp yA:=λx vx ds vs G H Q3 Q hx hs RG q k=>by
 rcases ds with _|⟨d,_|⟨d2,ds⟩⟩
 ·cases x<;>exact q.elim
 ·cases x with
  |obj a=>
   cases d with
   |obj b=>
    obtain⟨xs,ys,e1,e0,hz,q⟩:=q;obtain⟨us,e2,e3⟩:=RG a _ e1;obtain⟨ws,e4,e5⟩:=RG b _ e0;obtain⟨v,rfl,hv⟩:=nO hs;rw[iY hx,iY hv];exact⟨a,b,us,ws,rfl,rfl,e2,e4,by rw[←e3.length,←e5.length];exact hz,(k _ _ .aE _ (by simp[Hv]) (.wrote e1) (RG.AE e2 (e3.append e5)) q)⟩
   |_=>exact q.elim
  |_=>exact q.elim
 ·cases x with
  |obj a=>cases d<;>exact q.elim
  |_=>exact q.elim
def lF(T:String)(G:Gp):D->Option Bool
 |.aE=>some false
 |.bl _=>some (T=="bool" || T=="int")
 |.int _=>some (T=="int")
 |.str _=>some (T=="str")
 |.tup _=>some (T=="tuple")
 |.gQ _=>some (T=="list")
 |.dc _=>some (T=="dict")
 |.obj a=>match G a with
  |some (.lst _)=>some (T=="list")
  |some .qV=>some (T=="list")
  |some .mS=>some (T=="dict")
  |some (.gen _)=>none
  |none=>none
def vq(T:String)(ta:cu):cu:=λτ G Q=>ta τ G λx G1=>match lF T G1 x with
 |some b=>Q (.bl b) G1
 |none=>False
end
end L3
namespace lP
open PySem PySem.SetTable
def jC(m:Nat):Prop:=m=7∨m=31∨m=127∨m=511∨m=2047
def tz(m:Nat)(p:Probe):Probe:=
 if p.more > 0 then { p with j:=p.j+1,more:=p.more-1 } else
 { p with j:=(leap m p.i p.perturb).1,more:=runEnd m (leap m p.i p.perturb).1-(leap m p.i p.perturb).1,i:=(leap m p.i p.perturb).1,perturb:=(leap m p.i p.perturb).2 }
def rs(m:Nat)(q:Nat×Nat):Probe:={ j:=q.1,more:=runEnd m q.1-q.1,i:=q.1,perturb:=q.2,dummy:=none }
def ZR(m:Nat)(h:Int):Probe:=rs m (bits h%(m+1),bits h)
def sq(m:Nat)(h:Int):Nat->Probe
 |0=>ZR m h
 |k+1=>tz m (sq m h k)
def rn(m:Nat)(h:Int):Nat->Nat×Nat
 |0=>(bits h%(m+1),bits h)
 |r+1=>leap m (rn m h r).1 (rn m h r).2
theorem HX(m:Nat)(h:Int):∀k,(sq m h k).dummy=none
 |0=>rfl
 |k+1=>by
  show (tz m (sq m h k)).dummy=none;have ih:=HX m h k;unfold tz;split<;>simpa using ih
theorem RU(m i:Nat):runEnd m i-i≤9:=by
 unfold runEnd;split<;>lia
theorem Co(m:Nat)(h:Int)(n:Nat)(q:Nat×Nat)(e:sq m h n=rs m q):∀d,d≤runEnd m q.1-q.1->sq m h (n+d)={ j:=q.1+d,more:=runEnd m q.1-q.1-d,i:=q.1,perturb:=q.2,dummy:=none }
 |0,_=>by rw[Nat.add_zero,e];rfl
 |d+1,hd=>by
  have ih:=Co m h n q e d (by lia);show tz m (sq m h (n+d))=_;rw[ih];unfold tz;rw[if_pos (show runEnd m q.1-q.1-d > 0 by lia)];lia
theorem HW(m:Nat)(h:Int)(n:Nat)(q:Nat×Nat)(e:sq m h n=rs m q):sq m h (n+(runEnd m q.1-q.1)+1)=rs m (leap m q.1 q.2):=by
 show tz m (sq m h (n+(runEnd m q.1-q.1)))=_;rw[Co m h n q e _ (ρ _)];unfold tz;rw[if_neg (by simp)];rfl
theorem HV(m:Nat)(h:Int):∀r,∃n,n≤10*r/\sq m h n=rs m (rn m h r)
 |0=>⟨0,by lia,rfl⟩
 |r+1=>by
  obtain⟨n,hn,e⟩:=HV m h r;have:=RU m (rn m h r).1;exact⟨n+(runEnd m (rn m h r).1-(rn m h r).1)+1,by lia,HW m h n _ e⟩
theorem RQ(h:Int):bits h<2^64:=by
 unfold bits;lia
theorem HU(m:Nat)(h:Int):∀r,(rn m h r).2=bits h / 32^r
 |0=>by simp[rn]
 |r+1=>by
  show (rn m h r).2 / 32=_;rw[HU m h r,Nat.div_div_eq_div_mul,kB]
theorem RP(m:Nat)(h:Int)(r:Nat)(hr:13≤r):(rn m h r).2=0:=by
 rw[HU];have h1:=RQ h;have h2:(32:Nat)^13≤32^r:=mF (by decide) hr;exact Nat.div_eq_of_lt (by lia)
def fl(m x:Nat):Nat:=(x*5+1)%(m+1)
def it(m:Nat):Nat->Nat->Nat
 |0,x=>x
 |n+1,x=>fl m (it m n x)
theorem zI(m:Nat)(a:Nat):∀b x,it m (b+a) x=it m b (it m a x)
 |0,x=>by rw[pK];rfl
 |b+1,x=>by
  rw[show b+1+a=(b+a)+1 by lia];show fl m (it m (b+a) x)=fl m (it m b (it m a x));rw[zI m a b x]
theorem Cm(m:Nat)(h:Int):∀n,(rn m h (13+n)).1=it m n (rn m h 13).1
 |0=>rfl
 |n+1=>by
  show ((rn m h (13+n)).1*5+1+(rn m h (13+n)).2 / 32)%(m+1)=fl m (it m n (rn m h 13).1);rw[RP m h (13+n) (by lia),Cm m h n];rfl
theorem Ck(m:Nat)(h:Int):∀r,(rn m h r).1<m+1
 |0=>fS _ (pL _)
 |r+1=>fS _ (pL _)
def un:Nat->Nat
 |0=>0
 |n+1=>5*un n+1
theorem CM(m:Nat):∀n,it m n 0=un n%(m+1)
 |0=>by simp[it,un]
 |n+1=>by
  show (it m n 0*5+1)%(m+1)=(5*un n+1)%(m+1);rw[CM m n,dE 5,Nat.add_mod,Nat.mul_mod,Nat.mod_mod,←Nat.mul_mod,←Nat.add_mod]
theorem CL(a:Nat):∀b,un (a+b)=un a+un b*(4*un a+1)
 |0=>by simp[un]
 |b+1=>by
  show 5*un (a+b)+1=un a+(5*un b+1)*(4*un a+1);rw[CL a b];lia
theorem CK:∀k,∃c,un (2^k)=2^k+2^k*(2*c)
 |0=>⟨0,rfl⟩
 |k+1=>by
  obtain⟨c,hc⟩:=CK k;refine⟨c+un (2^k)+2*c*un (2^k),?_⟩;rw[show 2^(k+1)=2^k+2^k by rw[kB];lia,CL];generalize un (2^k)=u at *;generalize 2^k=N at *;have e1:u+u*(4*u+1)=2*(u*(2*u+1)):=by grind
  rw[e1];have e2:u*(2*u+1)=N*((1+2*c)*(2*u+1)):=by
   rw[←jL];congr 1;rw[hc];grind
  rw[e2];grind
theorem HR:∀k y,y<2^k->∃n,n<2^k/\un n%2^k=y
 |0,y,h=>⟨0,by simp,by simp at h;subst h;rfl⟩
 |k+1,y,h=>by
  have hp:0<2^k:=uz (by decide);have e:2^(k+1)=2*2^k:=by rw[kB,dE]
  rw[e] at h ⊢;obtain⟨n,hn,hy⟩:=HR k (y%2^k) (fS _ hp);obtain⟨c,hc⟩:=CK k;have ha:=CL n (2^k);have hu:=j8 (un n) (2^k);rw[hy] at hu;have hyd:=j8 y (2^k);have hq:=rW (by rw[dE];exact h);have hlt:=fS y hp;generalize hN:2^k=N at *;have key:un (n+N)=un n+N+2*N*(c*(4*un n+1)+2*un n):=by
   rw[ha,hc];grind
  have two:∀(z q:Nat),z<N->(z+N*q)%(2*N)=z+N*(q%2):=by
   intro z q hz;have hq2:=j8 q 2;have e3:z+N*q=(z+N*(q%2))+2*N*(q / 2):=by
    have:N*q=N*(q%2+2*(q / 2)):=by rw[hq2]
    rw[this];grind
   rw[e3,j9,Nat.mod_eq_of_lt];rcases Nat.mod_two_eq_zero_or_one q with h0|h0<;>rw[h0]<;>lia
  by_cases hpar:un n / N%2=y / N
  ·refine⟨n,by lia,?_⟩;rwa [←hu,two _ _ hlt,hpar]
  ·refine⟨n+N,by lia,?_⟩;rw[key,j9,←hu,nV,show N*(un n / N)+N=N*(un n / N+1) by rw[nq,iV],two _ _ hlt];rwa [show (un n / N+1)%2=y / N by clear hyd hu key ha hc hlt hy;generalize un n / N=q1 at *;generalize y / N=q2 at *;lia]
theorem jC.pow:jC m->∃k,m+1=2^k
 |.inl h=>⟨3,by rw[h]⟩
 |.inr (.inl h)=>⟨5,by rw[h]⟩
 |.inr (.inr (.inl h))=>⟨7,by rw[h]⟩
 |.inr (.inr (.inr (.inl h)))=>⟨9,by rw[h]⟩
 |.inr (.inr (.inr (.inr h)))=>⟨11,by rw[h]⟩
theorem Dp(hm:jC m)(hx:x<m+1):∃k,k<m+1/\x=it m k 0:=by
 obtain⟨k,e⟩:=hm.pow;rw[e] at hx;obtain⟨n,hn,h⟩:=HR k x hx;exact⟨n,by rw[e];exact hn,by rw[CM,e,h]⟩
theorem back(hm:jC m):it m (m+1) 0=0:=by
 obtain⟨k,e⟩:=hm.pow;rw[CM,e];obtain⟨c,hc⟩:=CK k;rw[hc,j9,Nat.mod_self]
theorem AL(hm:jC m)(hx:x<m+1)(hy:y<m+1):∃n,n≤m/\it m n x=y:=by
 obtain⟨a,ha,ea⟩:=Dp hm hx;obtain⟨b,hb,eb⟩:=Dp hm hy;by_cases hab:a≤b
 ·refine⟨b-a,by lia,?_⟩;rw[ea,←zI,eb];congr 1;lia
 ·refine⟨m+1-a+b,by lia,?_⟩;rw[ea,←zI,eb,show m+1-a+b+a=b+(m+1) by lia,zI,back hm]
theorem comes{m:Nat}(hm:jC m)(h:Int){e:Nat}(he:e≤m):∃k,k≤10*m+130/\(sq m h k).j=e:=by
 obtain⟨n,hn,en⟩:=AL hm (Ck m h 13) (show e<m+1 by lia);obtain⟨k,hk,ek⟩:=HV m h (13+n);refine⟨k,by lia,?_⟩;rw[ek];show (rn m h (13+n)).1=e;rw[Cm,en]
theorem CJ(hr:xs.toList.Pairwise (· < ·)):∀(fuel lo hi:Nat),hi-lo≤fuel->lo≤hi->hi≤xs.size->(∀i x,i<lo->xs[i]?=some x->x<j)->(∀i x,hi≤i->xs[i]?=some x->j≤x) ->
  below.go xs j fuel lo hi≤xs.size/\(∀i x,i<below.go xs j fuel lo hi->xs[i]?=some x->x<j)/\(∀i x,below.go xs j fuel lo hi≤i->xs[i]?=some x->j≤x)
 |0,lo,hi,hf,hl,hs,h1,h2=>by
  have e:lo=hi:=by lia
  subst e;exact⟨hs,h1,h2⟩
 |fuel+1,lo,hi,hf,hl,hs,h1,h2=>by
  unfold below.go;by_cases hlt:lo<hi
  ·rw[if_pos hlt];dsimp only;have hmid:(lo+hi) / 2<xs.size:=by lia
   have hg:xs.getD ((lo+hi) / 2) j=xs[(lo+hi) / 2]:=by simp[vI,hmid]
   rw[hg];have pw:∀a b x y,a<b->xs[a]?=some x->xs[b]?=some y->x<y:=λa b x y hab ea eb=>by
    have ha':a<xs.toList.length:=by
     have:=(bf.mp ea).1;simpa using this
    have hb':b<xs.toList.length:=by
     have:=(bf.mp eb).1;simpa using this
    have:=bW.mp hr a b ha' hb' hab;obtain⟨_,e1⟩:=bf.mp ea;obtain⟨_,e2⟩:=bf.mp eb;simpa [e1,e2] using this
   have em:xs[(lo+hi) / 2]?=some xs[(lo+hi) / 2]:=by simp[hmid]
   by_cases hc:xs[(lo+hi) / 2]<j
   ·rw[if_pos hc];refine CJ hr fuel _ hi (by lia) (by lia) hs (λi x hi' e=>?_) h2;by_cases lg:i=(lo+hi) / 2
    ·subst lg;rw[em] at e;cases e;exact hc
    ·exact jm (pw i _ x _ (by lia) e em) hc
   ·rw[if_neg hc];refine CJ hr fuel lo _ (by lia) (by lia) (by lia) h1 (λi x hi' e=>?_);by_cases lg:i=(lo+hi) / 2
    ·subst lg;rw[em] at e;cases e;lia
    ·have:=pw _ i _ x (by lia) em e;lia
  ·rw[if_neg hlt];have e:lo=hi:=by lia
   subst e;exact⟨hs,h1,h2⟩
theorem zH(hr:xs.toList.Pairwise (· < ·)):below xs j≤xs.size/\(∀i x,i<below xs j->xs[i]?=some x->x<j)/\(∀i x,below xs j≤i->xs[i]?=some x->j≤x):=
 CJ hr xs.size 0 xs.size (by lia) (by lia) (by lia) (λi _ h=>by lia) λi x h e=>by
  have:=(bf.mp e).1;lia
theorem below_at(hr:xs.toList.Pairwise (· < ·))(e:xs[i]?=some j):below xs j=i:=by
 obtain⟨h0,h1,h2⟩:=zH (j:=j) hr;have hi:=(bf.mp e).1;by_cases hlt:i<below xs j
 ·exact absurd (h1 i j hlt e) (cA _)
 ·by_cases hgt:below xs j<i
  ·have hb:below xs j<xs.size:=by lia
   have eb:xs[below xs j]?=some xs[below xs j]:=by simp[hb]
   have q1:=h2 _ _ (ρ _) eb;have pw:=bW.mp hr (below xs j) i (by simpa using hb) (by simpa using hi) hgt;obtain⟨_,e1⟩:=bf.mp e;simp[e1] at pw;lia
  ·lia
structure Tab(t:fH)(hs:List Int):Prop where
 mask:jC t.mask
 size:t.place.size=hs.length
 rise:t.place.toList.Pairwise (· < ·)
 bound:∀j∈t.place.toList,j≤t.mask
 oF:t.dummies = #[]
 room:hs.length*5<t.mask*3
 reach:∀j h,(j,h)∈t.place.toList.zip hs->∃k,(sq t.mask h k).j=j/\∀k',k' < k->(sq t.mask h k').j∈t.place.toList
theorem HQ{t:fH}(hr:t.place.toList.Pairwise (· < ·))(e:t.place[i]?=some j):t.slot j=.live i:=by
 unfold slot;dsimp only;rw[below_at hr e,e];simp
theorem RO{t:fH}(hd:t.dummies = #[])(e:j∉t.place.toList):t.slot j=.empty:=by
 unfold slot;have h1:¬(t.place[below t.place j]?==some j)=true:=by
  intro h;have h':t.place[below t.place j]?=some j:=by simpa using h
  exact e (by
   rw[←ak] at h';exact av h')
 rw[if_neg h1];have h2:has t.dummies j=false:=by
  rw[hd];rfl
 rw[h2];rfl
theorem CI:∀(n:Nat) (L:List Nat),(∀e,e<n->e∈L)->n≤L.length
 |0,_,_=>ar _
 |n+1,L,h=>by
  have h1:=h n (lR n);have h2:=CI n (L.erase n) λe he=>(List.mem_erase_of_ne (by lia)).mpr (h e (by lia));have h3:=pO h1;have h4:=fz h1;lia
theorem RN{t:fH}{hs:List Int}(T:Tab t hs)(h:Int):∃ke,ke≤10*t.mask+130/\(sq t.mask h ke).j∉t.place.toList/\∀k,k<ke->(sq t.mask h k).j∈t.place.toList:=by
 -- some slot is empty
 have hex:∃e,e≤t.mask/\e∉t.place.toList:=by
  refine aB λhn=>?_;have hall:∀e,e≤t.mask->e∈t.place.toList:=λe he=>aB λq=>hn ⟨e,he,q⟩;have hl:=CI (t.mask+1) t.place.toList λe he=>hall e (by lia);have e1:t.place.toList.length=t.place.size:=by simp
  have:=T.size;have:=T.room;lia
 obtain⟨e,he,ne⟩:=hex;obtain⟨k,hk,ek⟩:=comes T.mask h he;have hP:∃k,(sq t.mask h k).j∉t.place.toList:=⟨k,by rw[ek];exact ne⟩
 -- the least one
 have least:∀n,(∃k,k≤n/\(sq t.mask h k).j∉t.place.toList)->∃ke,ke≤n/\(sq t.mask h ke).j∉t.place.toList/\∀k,k<ke->(sq t.mask h k).j∈t.place.toList:=by
  intro n
  induction n with
  |zero=>
   rintro⟨k,hk,q⟩;have:k=0:=by lia
   subst this;exact⟨0,ρ _,q,λk hk=>by lia⟩
  |succ n ih=>
   rintro⟨k,hk,q⟩;by_cases hp:∃k,k≤n/\(sq t.mask h k).j∉t.place.toList
   ·obtain⟨ke,h1,h2,h3⟩:=ih hp;exact⟨ke,by lia,h2,h3⟩
   ·have hk':k=n+1:=by
     refine aB λz=>hp ⟨k,by lia,q⟩
    subst hk';exact⟨n+1,ρ _,q,λk' hk'=>aB λz=>hp ⟨k',by lia,z⟩⟩
 obtain⟨ke,h1,h2,h3⟩:=least k ⟨k,ρ _,by rw[ek];exact ne⟩;exact⟨ke,by lia,h2,h3⟩
inductive Meets(t:fH)(hashAt:Nat->Int)(h:Int)(n ke:Nat):Met->Prop where
 |Aq {k i:Nat} (h1:n≤k) (h2:k<ke) (h3:t.place[i]?=some (sq t.mask h k).j) (h4:hashAt i=h) (h5:∀k' i',n≤k'->k' < k->t.place[i']?=some (sq t.mask h k').j->hashAt i'≠h):
   Meets t hashAt h n ke (.candidate (sq t.mask h k).j i (sq t.mask h (k+1)))
 |free (h1:n≤ke) (h5:∀k' i',n≤k'->k' < ke->t.place[i']?=some (sq t.mask h k').j->hashAt i'≠h):Meets t hashAt h n ke (.empty (sq t.mask h ke).j none)
theorem HP(hr:t.place.toList.Pairwise (· < ·))(hd:t.dummies = #[])(he:(sq t.mask h ke).j∉t.place.toList)(hl:∀k,k<ke->(sq t.mask h k).j∈t.place.toList):
  ∀(fuel n:Nat),n≤ke->ke-n<fuel->∃met,probe.go t hashAt h fuel (sq t.mask h n)=some met/\Meets t hashAt h n ke met
 |0,n,_,hf=>by lia
 |fuel+1,n,hn,hf=>by
  unfold probe.go;by_cases hlast:n=ke
  ·subst hlast;rw[RO hd he,HX];exact⟨_,rfl,.free (ρ _) λk' i' h1 h2=>by lia⟩
  ·have hmem:=hl n (by lia);obtain⟨i,hi⟩:=g6 hmem;have hi':t.place[i]?=some (sq t.mask h n).j:=by rw[←ak];exact hi
   rw[HQ hr hi'];dsimp only;by_cases hh:hashAt i=h
   ·rw[if_pos (by simpa using hh)];exact⟨_,rfl,.Aq (ρ _) (by lia) hi' hh λk' i' h1 h2=>by lia⟩
   ·rw[if_neg (by simpa using hh)];obtain⟨met,e,m⟩:=HP (hashAt:=hashAt) hr hd he hl fuel (n+1) (by lia) (by lia);refine⟨met,e,?_⟩;have one:∀i',t.place[i']?=some (sq t.mask h n).j->hashAt i'≠h:=λi' e'=>by
     have e1:=below_at hr hi';have e2:=below_at hr e';have:i'=i:=by lia
     rwa [this]
    cases m with
    |Aq h1 h2 h3 h4 h5=>
     refine .Aq (by lia) h2 h3 h4 λk' i' q1 q2 q3=>?_;by_cases hk:k'=n
     ·subst hk;exact one i' q3
     ·exact h5 k' i' (by lia) q2 q3
    |free h1 h5=>
     refine .free (by lia) λk' i' q1 q2 q3=>?_;by_cases hk:k'=n
     ·subst hk;exact one i' q3
     ·exact h5 k' i' (by lia) q2 q3
theorem RM(T:Tab t hs)(hk:ke≤10*t.mask+130)(he:(sq t.mask h ke).j∉t.place.toList)(hl:∀k,k<ke->(sq t.mask h k).j∈t.place.toList)(hn:n≤ke):
  ∃met,t.probe hashAt h (sq t.mask h n)=some met/\Meets t hashAt h n ke met:=by
 exact HP T.rise T.oF he hl _ n hn (by unfold turns;lia)
theorem uL(xs:Array α)(p:Nat)(x:α):(insertAt xs p x).toList=xs.toList.take p++x::xs.toList.drop p:=by
 unfold insertAt;simp[r9,List.extract];exact cP (by simp)
theorem HN{α β:Type}:∀(p:Nat) (xs:List α) (ys:List β) (x:α) (y:β),xs.length=ys.length->((xs.take p++x::xs.drop p).zip (ys.take p++y::ys.drop p)).Perm ((x,y)::xs.zip ys)
 |0,xs,ys,x,y,_=>by simp
 |p+1,[],ys,x,y,h=>by
  have:=fb.mp (by simpa using h.symm);subst this;simp
 |p+1,a::xs,[],x,y,h=>by simp at h
 |p+1,a::xs,b::ys,x,y,h=>by
  have ih:=HN p xs ys x y (by simpa using h);exact (List.Perm.cons (a,b) ih).trans (wt _ _ _)
theorem vO{α:Type}(p:Nat)(xs:List α)(x:α):(xs.take p++x::xs.drop p).Perm (x::xs):=by
 have:=fI (a:=x) (l₁:=xs.take p) (l₂:=xs.drop p);rw[a0] at this;exact this
theorem RL{t:fH}(hd:t.dummies = #[]):t.put j=({ t with place:=insertAt t.place (below t.place j) j,dummies:=#[]},below t.place j):=by
 unfold put;have h2:has t.dummies j=false:=by
  rw[hd];rfl
 rw[h2];simp[hd]
structure tD(t:fH)(hs:List Int):Prop where
 mask:jC t.mask
 size:t.place.size=hs.length
 rise:t.place.toList.Pairwise (· < ·)
 bound:∀j∈t.place.toList,j≤t.mask
 oF:t.dummies = #[]
 JY:hs.length≤t.mask
 reach:∀j h,(j,h)∈t.place.toList.zip hs->∃k,(sq t.mask h k).j=j/\∀k',k' < k->(sq t.mask h k').j∈t.place.toList
theorem HM(hm:jC m)(h:Int):∀k,(sq m h k).j≤m/\(sq m h k).j+(sq m h k).more≤m:=by
 have hrun:∀i,i≤m->runEnd m i≤m:=λi hi=>by
  unfold runEnd;split<;>lia
 have hrs:∀q:Nat×Nat,q.1≤m->(rs m q).j≤m/\(rs m q).j+(rs m q).more≤m:=λq hq=>by
  have:=hrun q.1 hq;show q.1≤m/\q.1+(runEnd m q.1-q.1)≤m;lia
 intro k
 induction k with
 |zero=>exact hrs _ (by have:bits h%(m+1)<m+1:=fS (bits h) (pL m);lia)
 |succ k ih=>
  show (tz m (sq m h k)).j≤m/\(tz m (sq m h k)).j+(tz m (sq m h k)).more≤m;unfold tz;by_cases hc:(sq m h k).more > 0
  ·rw[if_pos hc];lia
  ·rw[if_neg hc];have hlt:(leap m (sq m h k).i (sq m h k).perturb).1≤m:=by
    show ((sq m h k).i*5+1+(sq m h k).perturb / 32)%(m+1)≤m;have:((sq m h k).i*5+1+(sq m h k).perturb / 32)%(m+1)<m+1:=fS _ (pL m);lia
   exact hrs (leap m (sq m h k).i (sq m h k).perturb) hlt
theorem Tab.put(T:Tab t hs)(he:(sq t.mask h ke).j∉t.place.toList)(hl:∀k,k<ke->(sq t.mask h k).j∈t.place.toList):
  tD { t with place:=insertAt t.place (below t.place (sq t.mask h ke).j) (sq t.mask h ke).j,dummies:=#[]} (hs.take (below t.place (sq t.mask h ke).j)++h::hs.drop (below t.place (sq t.mask h ke).j)):=by
 obtain⟨b0,b1,b2⟩:=zH (j:=(sq t.mask h ke).j) T.rise;have hlen:t.place.toList.length=hs.length:=by simpa using T.size
 have hmem:∀x,x∈(insertAt t.place (below t.place (sq t.mask h ke).j) (sq t.mask h ke).j).toList↔x=(sq t.mask h ke).j∨x∈t.place.toList:=λx=>by
  rw[uL,(vO _ t.place.toList _).mem_iff,Ψ]
 refine⟨T.mask,?_,?_,λj hj=>?_,rfl,?_,λj h' hj=>?_⟩
 ·have e1:(insertAt t.place (below t.place (sq t.mask h ke).j) (sq t.mask h ke).j).size=(insertAt t.place (below t.place (sq t.mask h ke).j) (sq t.mask h ke).j).toList.length:=by simp
  rw[e1,uL,(vO _ t.place.toList _).length_eq,(vO _ hs _).length_eq];simp only[ai];lia
 ·rw[uL];refine Ξ.mpr ⟨T.rise.sublist (ee _ _),dm.mpr ⟨λx hx=>?_,T.rise.sublist (fZ _ _)⟩,λa ha b hb=>?_⟩
  ·obtain⟨i,hi⟩:=g6 hx;rw[dM] at hi;have q:=b2 (below t.place (sq t.mask h ke).j+i) x (by lia) (by rw[←ak];exact hi);have ne:x≠(sq t.mask h ke).j:=λe=>he (e▸av hi);lia
  ·obtain⟨i,hi⟩:=g6 ha;have hil:i<below t.place (sq t.mask h ke).j:=by
    have:=(Γ.mp hi).1;rw[aZ] at this;lia
   rw[eK hil] at hi;have qa:=b1 i a hil (by rw[←ak];exact hi);rcases Ψ.mp hb with e|hb
   ·rw[e];exact qa
   ·obtain⟨i2,lg⟩:=g6 hb;rw[dM] at lg;have q:=b2 (below t.place (sq t.mask h ke).j+i2) b (by lia) (by rw[←ak];exact lg);lia
 ·rcases (hmem j).mp hj with e|e
  ·rw[e];exact (HM T.mask h ke).1
  ·exact T.bound j e
 ·rw[(vO _ hs _).length_eq];have:=T.room;rcases T.mask with e|e|e<;>(simp only[ai];show _≤t.mask;lia)
 ·have hp:(j,h')∈(t.place.toList.take (below t.place (sq t.mask h ke).j)++(sq t.mask h ke).j::t.place.toList.drop (below t.place (sq t.mask h ke).j)).zip
    (hs.take (below t.place (sq t.mask h ke).j)++h::hs.drop (below t.place (sq t.mask h ke).j)):=by
   rwa [←uL]
  rw[(HN _ _ _ _ _ hlen).mem_iff] at hp;rcases Ψ.mp hp with e|e
  ·cases e;exact⟨ke,rfl,λk' hk'=>(hmem _).mpr (.inr (hl k' hk'))⟩
  ·obtain⟨k,e1,e2⟩:=T.reach j h' e;exact⟨k,e1,λk' hk'=>(hmem _).mpr (.inr (e2 k' hk'))⟩
theorem tD.tab(T:tD t hs)(h:t.tooFull=false):Tab t hs:=by
 refine⟨T.mask,T.size,T.rise,T.bound,T.oF,?_,T.reach⟩;have h':¬(t.fill*5≥t.mask*3):=by simpa [tooFull] using h
 have e:t.fill=hs.length:=by
  unfold fill;rw[T.size,T.oF];rfl
 rw[e] at h';lia
def Taken(ow:Array (Option Nat))(j:Nat):Prop:=∃k,ow[j]?=some (some k)
theorem CH(hj:j<ow.size):(ow.getD j (some 0)).isNone=true↔¬Taken ow j:=by
 have e:ow.getD j (some 0)=ow[j]:=by simp[vI,hj]
 rw[e];unfold Taken;rw[cN hj];cases ow[j] with
 |none=>simp
 |some k=>simp
theorem HL(hm:jC m)(hs:ow.size=m+1):∀(fuel r n:Nat),sq m h n=rs m (rn m h r)->(∀k,k<n->Taken ow (sq m h k).j) ->
  (∃r',r≤r'/\r' < r+fuel/\¬Taken ow (rn m h r').1)->∃ke,layClean.free m ow fuel (rn m h r).1 (rn m h r).2=some (sq m h ke).j/\¬Taken ow (sq m h ke).j/\∀k,k<ke->Taken ow (sq m h k).j
 |0,r,n,_,_,hx=>by
  obtain⟨r',h1,h2,_⟩:=hx;lia
 |fuel+1,r,n,hn,hk,hx=>by
  have hi:=Ck m h r;have hre:runEnd m (rn m h r).1≤m:=by unfold runEnd;split<;>lia
  have hre2:(rn m h r).1≤runEnd m (rn m h r).1:=by unfold runEnd;split<;>lia
  have at_d:∀d,d≤runEnd m (rn m h r).1-(rn m h r).1->(sq m h (n+d)).j=(rn m h r).1+d:=λd hd=>by
   rw[Co m h n _ hn d hd]
  unfold layClean.free;cases hf:(Φ (runEnd m (rn m h r).1+1-(rn m h r).1)).find? (λk=>(ow.getD ((rn m h r).1+k) (some 0)).isNone) with
  |some k=>
   obtain⟨p1,p2,p3⟩:=pQ.mp hf;have hkr:=az.mp p2;refine⟨n+k,?_,?_,λk' hk'=>?_⟩
   ·rw[at_d k (by lia)]
   ·rw[at_d k (by lia)];exact (CH (by lia)).mp p1
   ·by_cases hlt:k' < n
    ·exact hk k' hlt
    ·obtain⟨d,rfl⟩:∃d,k'=n+d:=⟨k' - n,by lia⟩;rw[at_d d (by lia)];have q:=p3 d (by lia);refine aB λz=>?_;rw[(CH (by lia)).mpr z] at q;cases q
  |none=>
   have hnone:=eN.mp hf;have occ:∀d,d≤runEnd m (rn m h r).1-(rn m h r).1->Taken ow ((rn m h r).1+d):=λd hd=>
    aB λz=>hnone d (az.mpr (by lia)) ((CH (by lia)).mpr z)
   refine HL hm hs fuel (r+1) (n+(runEnd m (rn m h r).1-(rn m h r).1)+1) (HW m h n _ hn) (λk hk'=>?_) ?_
   ·by_cases hlt:k<n
    ·exact hk k hlt
    ·obtain⟨d,rfl⟩:∃d,k=n+d:=⟨k-n,by lia⟩;rw[at_d d (by lia)];exact occ d (by lia)
   ·obtain⟨r',h1,h2,h3⟩:=hx;refine⟨r',?_,by lia,h3⟩;have:r'≠r:=λe=>h3 (by
     rw[e];have:=occ 0 (ar _);simpa using this)
    lia
structure uv(m:Nat)(ow:Array (Option Nat))(l:List Int):Prop where
 size:ow.size=m+1
 all:∀(k:Nat),k<l.length->∃j:Nat,ow[j]?=some (some k)
 one:∀(j j' k:Nat),ow[j]?=some (some k)->ow[j']?=some (some k)->j=j'
 reach:∀(j k:Nat),ow[j]?=some (some k)->∃h,l[k]?=some h/\∃n,(sq m h n).j=j/\∀n',n' < n->Taken ow (sq m h n').j
theorem uv.nil(m:Nat):uv m (Array.replicate (m+1) none) []:=by
 have ko:∀(j k:Nat),¬(Array.replicate (m+1) (none:Option Nat))[j]?=some (some k):=λj k e=>by
  rw[Array.getElem?_replicate] at e;split at e<;>simp at e
 exact⟨by simp,λk hk=>by simp at hk,λj j' k e=>absurd e (ko j k),λj k e=>absurd e (ko j k)⟩
theorem uv.room{m:Nat}{ow:Array (Option Nat)}{l:List Int}(O:uv m ow l)(hl:l.length≤m):∃e,e≤m/\¬Taken ow e:=by
 refine aB λhn=>?_;have hall:∀e,e≤m->Taken ow e:=λe he=>aB λq=>hn ⟨e,he,q⟩;obtain⟨g,hg⟩:∃g:Nat->Nat,∀k,k<l.length->ow[g k]?=some (some k):=by
  refine⟨λk=>if q:k<l.length then (O.all k q).choose else 0,λk hk=>?_⟩;dsimp only;rw[dif_pos hk];exact (O.all k hk).choose_spec
 have hlen:=CI (m+1) ((Φ l.length).map g) λe he=>by
  obtain⟨k,hk⟩:=hall e (by lia);obtain⟨h,e1,_⟩:=O.reach e k hk;have hkl:=(Γ.mp e1).1;exact υ.mpr ⟨k,az.mpr hkl,O.one _ _ k (hg k hkl) hk⟩
 simp at hlen;lia
theorem uv.add(hm:jC m)(O:uv m ow l)(hl:l.length≤m):
  ∃j,layClean.free m ow (turns m) (bits h%(m+1)) (bits h)=some j/\uv m (ow.setIfInBounds j (some l.length)) (l++[h]):=by
 obtain⟨e,he,ne⟩:=O.room hl;obtain⟨n0,hn0,en0⟩:=AL hm (Ck m h 13) (show e<m+1 by lia);obtain⟨ke,h1,h2,h3⟩:=HL hm (h:=h) O.size (turns m) 0 0 rfl (λk hk=>by lia) ⟨13+n0,by lia,by unfold turns;lia,by rw[Cm,en0];exact ne⟩;refine⟨(sq m h ke).j,h1,?_⟩;have hj:(sq m h ke).j<ow.size:=by
  have:=(HM hm h ke).1;rw[O.size];lia
 have hget:∀j:Nat,(ow.setIfInBounds (sq m h ke).j (some l.length))[j]?=if (sq m h ke).j=j then some (some l.length) else ow[j]?:=λj=>by
  rw[Array.getElem?_setIfInBounds];by_cases e:(sq m h ke).j=j
  ·rw[if_pos e,if_pos e,if_pos (by lia)]
  ·rw[if_neg e,if_neg e]
 have tk:∀j,Taken ow j->Taken (ow.setIfInBounds (sq m h ke).j (some l.length)) j:=λj ⟨k,hk⟩=>by
  unfold Taken;rw[hget];by_cases e:(sq m h ke).j=j
  ·exact⟨_,if_pos e⟩
  ·exact⟨k,by rw[if_neg e];exact hk⟩
 have lt_of:∀j k:Nat,ow[j]?=some (some k)->k<l.length:=λj k e=>by
  obtain⟨h',e1,_⟩:=O.reach j k e;exact (Γ.mp e1).1
 refine⟨by rw[Array.size_setIfInBounds];exact O.size,λk hk=>?_,λj j' k q q'=>?_,λj k q=>?_⟩
 ·rw[π,c9] at hk;by_cases hkl:k<l.length
  ·obtain⟨j,hj'⟩:=O.all k hkl;refine⟨j,?_⟩;rwa [hget,if_neg (λe=>h2 ⟨k,by rw[e];exact hj'⟩)]
  ·have:k=l.length:=by lia
   exact⟨(sq m h ke).j,by rw[hget,if_pos rfl,this]⟩
 ·rw[hget] at q q';by_cases e:(sq m h ke).j=j
  ·rw[if_pos e] at q;by_cases e':(sq m h ke).j=j'
   ·lia
   ·rw[if_neg e'] at q';cases q;exact absurd (lt_of _ _ q') (cA _)
  ·rw[if_neg e] at q;by_cases e':(sq m h ke).j=j'
   ·rw[if_pos e'] at q';cases q';exact absurd (lt_of _ _ q) (cA _)
   ·rw[if_neg e'] at q';exact O.one j j' k q q'
 ·rw[hget] at q;by_cases e:(sq m h ke).j=j
  ·rw[if_pos e] at q;cases q;exact⟨h,by simp,ke,e,λn' hn'=>tk _ (h3 n' hn')⟩
  ·rw[if_neg e] at q;obtain⟨h',e1,n,e2,e3⟩:=O.reach j k q;exact⟨h',by rw[cx (lt_of j k q)];exact e1,n,e2,λn' hn'=>tk _ (e3 n' hn')⟩
theorem HK(hm:jC m):∀(l' l:List Int) (ow:Array (Option Nat)),uv m ow l->l.length+l'.length≤m+1 ->
  ∃ow',(l'.foldl (λ(acc:Option (Array (Option Nat)×Nat)) h=>do
   let (owner,k) ←acc
   let j ←layClean.free m owner (turns m) (bits h%(m+1)) (bits h)
   pure (owner.setIfInBounds j (some k),k+1)) (some (ow,l.length)))=some (ow',(l++l').length)/\uv m ow' (l++l')
 |[],l,ow,O,_=>⟨ow,by simp,by simpa using O⟩
 |h::l',l,ow,O,hl=>by
  rw[ai] at hl
  obtain⟨j,e,O'⟩:=O.add hm (h:=h) (by lia)
  obtain⟨ow',e2,O2⟩:=HK hm l' (l++[h]) _ O' (by simp;lia)
  refine⟨ow',?_,by simpa using O2⟩
  rw[mL]
  have hs:(do
   let (owner,k) ←(some (ow,l.length):Option (Array (Option Nat)×Nat))
   let j ←layClean.free m owner (turns m) (bits h%(m+1)) (bits h)
   pure (owner.setIfInBounds j (some k),k+1))=some (ow.setIfInBounds j (some l.length),(l++[h]).length):=by
   show (do
    let j ←layClean.free m ow (turns m) (bits h%(m+1)) (bits h)
    pure (ow.setIfInBounds j (some l.length),l.length+1))=_
   rw[e]
   simp
  rw[hs,e2]
  simp
theorem CG{α:Type}:∀l:List α,((Φ l.length).filterMap λk=>l[k]?)=l
 |[]=>rfl
 |a::l=>by
  rw[ai,qH,pR (b:=a) (by simp),nH];have ih:=CG l;congr 1
theorem RK{α:Type}(xs:Array α):((Φ xs.size).filterMap λk=>xs[k]?)=xs.toList:=by
 have:=CG xs.toList;simpa using this
theorem RJ{m finger moves:Nat}{led plain:Bool}(hm:jC m)(hs:Array Int)(hl:hs.size*5<m*3):
  ∃t order,laid m finger moves led plain hs=some (t,order)/\t.mask=m/\t.led=led/\t.plain=plain/\t.finger=finger/\order.toList.Perm (Φ hs.size)/\Tab t (order.toList.filterMap λk=>hs[k]?):=by
 obtain⟨ow,e,O⟩:=HK hm hs.toList [] _ (uv.nil m) (by simp;lia);rw[br] at e O;have hlc:layClean m hs=some ow:=by
  unfold layClean;rw[←Array.foldl_toList];have e':=congrArg (Option.map λx:Array (Option Nat)×Nat=>x.1) e;exact e'
 have hmem:∀j k,(j,k)∈((Φ (m+1)).filterMap λj=>(ow.getD j none).map (j,·))↔ow[j]?=some (some k):=λj k=>by
  rw[kE];constructor
  ·rintro⟨a,ha,q⟩;have ha':=az.mp ha;cases ho:ow.getD a none with
   |none=>rw[ho] at q;cases q
   |some k'=>
    rw[ho] at q;cases q;have:ow.getD j none=ow[j]'(by rw[O.size];exact ha'):=by simp[vI,O.size,ha']
    rw[this] at ho;rw[cN (by rw[O.size];exact ha'),ho]
  ·intro q;have hj:=(bf.mp q).1;rw[O.size] at hj;refine⟨j,az.mpr hj,?_⟩;have:ow.getD j none=some k:=by
    rw[Array.getD_eq_getD_getElem?,q];rfl
   rw[this];rfl
 generalize hL:((Φ (m+1)).filterMap λj=>(ow.getD j none).map (j,·))=L at hmem;have rise:L.Pairwise λa b=>a.1<b.1:=by
  rw[←hL];refine List.Pairwise.filterMap _ (λa a' hlt b hb b' hb'=>?_) (iW (n:=m+1));cases ho:ow.getD a none with
  |none=>rw[ho] at hb;cases hb
  |some k=>
   rw[ho] at hb;cases hb;cases ho':ow.getD a' none with
   |none=>rw[ho'] at hb';cases hb'
   |some k'=>
    rw[ho'] at hb';cases hb';exact hlt
 have nd:(L.map (·.2)).Nodup:=by
  refine ud _ (R:=λa b=>a.2≠b.2) (λ_ _ z=>z) ?_;refine c5 (λ{a b} ha hb hab=>?_) rise;intro q;obtain⟨j,k⟩:=a;obtain⟨j',k'⟩:=b;have ea:=(hmem j k).mp ha;have eb:=(hmem j' k').mp hb;have hab':j<j':=hab;have q':k=k':=q;subst q';have:=O.one j j' k ea eb;lia
 have hperm:(L.map (·.2)).Perm (Φ hs.size):=by
  refine (dZ nd jG).mpr λk=>?_;rw[υ,az];constructor
  ·rintro⟨⟨j,k'⟩,hjk,rfl⟩;obtain⟨h,e1,_⟩:=O.reach j k' ((hmem j k').mp hjk);have:=(Γ.mp e1).1;simpa using this
  ·intro hk;obtain⟨j,ej⟩:=O.all k (by simpa using hk);exact⟨(j,k),(hmem j k).mpr ej,rfl⟩
 -- the hashes in the slots' order
 have hzip:∀j h,(j,h)∈(L.map (·.1)).zip ((L.map (·.2)).filterMap λk=>hs[k]?)->∃k,(j,k)∈L/\hs[k]?=some h:=by
  have hall:∀p∈L,∃h,hs[p.2]?=some h:=λp hp=>by
   obtain⟨h,e1,_⟩:=O.reach p.1 p.2 ((hmem p.1 p.2).mp hp);exact⟨h,by rw[←ak];exact e1⟩
  clear hmem rise nd hperm hL
  induction L with
  |nil=>intro j h q;cases q
  |cons p L ih=>
   intro j h q;obtain⟨h0,e0⟩:=hall p ι;rw[ay,ay,pR e0,iM] at q;rcases Ψ.mp q with q|q
   ·cases q;exact⟨p.2,ι,e0⟩
   ·obtain⟨k,q1,q2⟩:=ih (λp hp=>hall p (μ _ hp)) j h q;exact⟨k,μ _ q1,q2⟩
 have hlenL:((L.map (·.2)).filterMap λk=>hs[k]?).length=L.length:=by
  have h1:=(hperm.filterMap λk=>hs[k]?).length_eq;rw[RK] at h1;have h3:=hperm.length_eq;rw[ε,bo] at h3;rw[h1,h3];simp
 refine⟨_,_,by unfold laid;rw[hlc];rfl,rfl,rfl,rfl,rfl,?_,?_⟩
 ·rw[hL];exact hperm
 ·rw[hL];have hlen:L.length=hs.size:=by
   have:=hperm.length_eq;simpa using this
  refine⟨hm,?_,?_,λj hj=>?_,rfl,?_,λj h hj=>?_⟩
  ·rw[hlenL];simp
  ·exact ud _ (λ_ _ z=>z) rise
  ·obtain⟨⟨j',k⟩,hp,rfl⟩:=υ.mp hj;have:=(bf.mp ((hmem j' k).mp hp)).1;rw[O.size] at this;show j'≤m;lia
  ·rw[hlenL,hlen];exact hl
  ·obtain⟨k,q1,q2⟩:=hzip j h hj;obtain⟨h',e1,n,e2,e3⟩:=O.reach j k ((hmem j k).mp q1);have eh:h'=h:=by
    rw[ak,q2] at e1;exact (aL e1).symm
   subst eh;refine⟨n,e2,λn' hn'=>?_⟩;obtain⟨k',hk'⟩:=e3 n' hn';exact υ.mpr ⟨(_,k'),(hmem _ k').mpr hk',rfl⟩
end lP
namespace cQ
open PySem lP
section
variable {prog:ao} {w:aC} {A:aQ} {E:ζ->η->Prop} {s:η}
abbrev hk(prog:ao)(w:aC)(ks:List Int):Int:=tupleKeyHash (intKind prog w) ks
abbrev iF(prog:ao)(w:aC)(h:Heap)(ks:List Int)(a:ν):Prop:=IsTupleKey (intKind prog w) h ks a
structure Kd(prog:ao)(w:aC)(κ:Type)[DecidableEq κ] where
 hk:κ->Int
 Is:Heap->κ->ν->Prop
 dr:κ->Nat
 u:Nat
 hu:u≤16
 quiet:∀{A:aQ} {E:ζ->η->Prop} {s:η} {ks:κ} {a:ν} {Q:Bool->η->Prop},Is s.heap ks a->Q true s->χ (model prog w) A (eqIsQuiet 8 (.ref a)) Q E s
 cls:∀{A:aQ} {E:ζ->η->Prop} {s:η} {ks:κ} {a:ν} {Q:Bool->η->Prop},Is s.heap ks a->Q false s->χ (model prog w) A (ofAClassStatement 8 (.ref a)) Q E s
 byv:∀{A:aQ} {E:ζ->η->Prop} {s:η} {ks:κ} {a:ν} {Q:Bool->η->Prop},Is s.heap ks a->Q true s->χ (model prog w) A (hashByValue 8 (.ref a)) Q E s
 eq:∀{A:aQ} {E:ζ->η->Prop} {s:η} {x y:κ} {a b:ν} {Q:Bool->η->Prop},A.units+u<cLine->Is s.heap x a->Is s.heap y b->Q (decide (x=y)) s->χ (model prog w) A (eqBool (.ref a) (.ref b)) Q E s
 hash:∀{A:aQ} {E:ζ->η->Prop} {s:η} {ks:κ} {a:ν} {Q:Int->η->Prop},A.units+u<cLine->Is s.heap ks a->Q (hk ks) { s with toks:=s.toks+dr ks }->χ (model prog w) A (pyHash (.ref a)) Q E s
 ext:∀{h h':Heap} {ks:κ} {b:ν},(∀c ob,h.get? c=some ob->h'.get? c=some ob)->Is h ks b->Is h' ks b
 but:∀{h h':Heap} {a y:ν} {ks:κ} {o:bT} {es:Array (Int×ζ)} {ep:Nat} {t:fH},h.get? a=some o->o.data=.set es ep t->Heap.SameBut a h h'->Is h ks y->Is h' ks y
def Kd.ent{prog:ao}{w:aC}{κ:Type}[DecidableEq κ](kd:Kd prog w κ)(p:κ×ν):Int×ζ:=(kd.hk p.1,.ref p.2)
structure pz{prog:ao}{w:aC}{κ:Type}[DecidableEq κ](kd:Kd prog w κ)(h:Heap)(a:ν)(o:bT)(es:Array (Int×ζ))(ep:Nat)(t:fH)(xs:List (κ×ν)):Prop where
 at_:h.get? a=some o
 ex:o.ExactSet
 dat:o.data=.set es ep t
 ents:es.toList=xs.map kd.ent
 keys:∀p∈xs,kd.Is h p.1 p.2
 nd:(xs.map (·.1)).Nodup
 plain:t.plain=true
 led:t.led = !(w.params.followText "set-order")
structure lO(w:aC)(h:Heap)(a:ν)(o:bT)(es:Array (Int×ζ))(ep:Nat)(t:fH):Prop where
 at_:h.get? a=some o
 ex:o.ExactSet
 dat:o.data=.set es ep t
 plain:t.plain=true
 led:t.led = !(w.params.followText "set-order")
theorem pz.wk[DecidableEq κ]{kd:Kd prog w κ}(S:pz kd h a o es ep t xs):lO w h a o es ep t:=⟨S.at_,S.ex,S.dat,S.plain,S.led⟩
theorem xF{es:Array (Int×ζ)}:(es.toList.map (·.1)).length=es.size:=by simp
theorem kg{es:Array (Int×ζ)}(T:tD t (es.toList.map (·.1))):t.fits es.size=true:=by
 unfold fH.fits;have h1:=T.size;rw[xF] at h1;have h2:=T.JY;rw[xF] at h2;have h3:t.fill=es.size:=by
  unfold fH.fill;rw[h1,T.oF];rfl
 rw[h3,h1];simp;exact h2
theorem Tab.r(T:Tab t hs):tD t hs:=by
 refine⟨T.mask,T.size,T.rise,T.bound,T.oF,?_,T.reach⟩;have:=T.room;lia
theorem RI{t:fH}(h:jC t.mask):t.gaveWay=false:=by
 unfold fH.gaveWay;rcases h with e|e|e|e|e<;>rw[e]<;>rfl
theorem HJ(n:Nat)(h:carriedByValue v=true):ofAClassStatement n v=pure false:=by
 cases v with
 |ref a=>simp[carriedByValue] at h
 |_=>first|rfl|(cases n<;>rfl)
theorem RH(hx:iF prog w s.heap ks a)(h:Q false s):χ (model prog w) A (ofAClassStatement 8 (.ref a)) Q E s:=by
 have hT:=hx.typeIs;obtain⟨o,items,n,ho,hc,hd,hi⟩:=hx;unfold ofAClassStatement;refine γ (fx hT ?_);dsimp only;rw[if_pos (by decide)];refine γ (δ ?_);rw[if_neg (by decide)];refine γ (bJ ho hd (γ ?_));rw[←dN];refine cY _ (λrest r s'=>r.1=none/\s'=s/\∀v∈rest,carriedByValue v=true) _ ?_ ?_ _ _ ⟨rfl,rfl,hi.byValue⟩
 ·rintro v rest r s' ⟨hr,rfl,hall⟩;rw[HJ _ (hall v ι)];refine γ (δ ?_);rw[if_neg af];exact δ ⟨rfl,rfl,λu hu'=>hall u (μ _ hu')⟩
 ·rintro⟨r1,r2⟩ s' ⟨hr,rfl,_⟩;subst hr;exact δ h
theorem RF(hx:iF prog w s.heap ks a)(h:Q true s):χ (model prog w) A (hashByValue 8 (.ref a)) Q E s:=by
 have hT:=hx.typeIs;obtain⟨o,items,n,ho,hc,hd,hi⟩:=hx;refine γ (fo hT F.slot_tuple_hash.lookup (γ (bJ ho hd (γ ?_))));rw[←dN];refine cY _ (λrest r s'=>r.1=none/\s'=s/\∃l,ItemsAre (intKind prog w) l rest) _ ?_ ?_ _ _ ⟨rfl,rfl,ks,hi⟩
 ·rintro v rest r s' ⟨hr,rfl,l,hl⟩;cases hl with
  |@cons k v' _ _ h1 h2=>
   obtain⟨tk,rfl⟩:=fX (k:=k) h1;have e:hashByValue 7 (.int k tk)=pure true:=by rfl
   rw[e];refine γ (δ ?_);rw[if_neg (by decide)];exact δ ⟨rfl,rfl,_,h2⟩
 ·rintro⟨r1,r2⟩ s' ⟨hr,rfl,_⟩;subst hr;exact δ h
theorem t6(k:∀c ob,h.get? c=some ob->h'.get? c=some ob)(z:iF prog w h ks b):iF prog w h' ks b:=by
 obtain⟨o,its,n,ho,r⟩:=z;exact⟨o,its,n,k _ _ ho,r⟩
theorem yK(ho:h.get? a=some o)(hd:o.data=.set es ep t)(sb:Heap.SameBut a h h')(hy:iF prog w h ks y):iF prog w h' ks y:=by
 obtain⟨oy,items,n,hoy,hc,hdy,hi⟩:=hy;have ne:y≠a:=by
  intro e;subst e;rw[ho] at hoy;cases hoy;rw[hd] at hdy;cases hdy
 exact⟨oy,items,n,(sb.2 y ne).trans hoy,hc,hdy,hi⟩
abbrev kI(prog:ao)(w:aC):Kd prog w (List Int):=⟨hk prog w,iF prog w,λks=>ks.length+1,0,by decide,wpAny_eqIsQuiet_tuple,RH,RF,gD,wpAny_pyHash_tuple,t6,yK⟩
abbrev KP(prog:ao)(w:aC):=pz (kI prog w)
variable {κ:Type} [DecidableEq κ] {kd:Kd prog w κ}
theorem RE(hx:kd.Is s.heap ks a)(l:List ζ)(hl:∀v∈l,∃k y,v=.ref y/\kd.Is s.heap k y)(h:Q false s):
  χ (model prog w) A (searchCouldBeSeen (.ref a) l) Q E s:=by
 refine γ (cY _ (λrest r s'=>r.1=none/\s'=s/\∀v∈rest,∃k y,v=.ref y/\kd.Is s.heap k y) _ ?_ ?_ _ _ ⟨rfl,rfl,hl⟩)
 ·rintro v rest r s' ⟨hr,rfl,hall⟩;obtain⟨k,y,rfl,hy⟩:=hall v ι;have hrest:=λv hv=>hall v (μ _ hv);by_cases hc:((a==y)||(carriedByValue (.ref a)&&carriedByValue (.ref y)))=true
  ·rw[if_pos hc];exact δ ⟨rfl,rfl,hrest⟩
  ·rw[if_neg hc];refine γ (kd.quiet hx ?_);rw[if_neg (by decide)];refine γ (kd.quiet hy ?_);rw[if_neg (by decide)];refine γ (kd.cls hx ?_);rw[if_neg af];refine γ (kd.cls hy ?_);rw[if_neg af];exact δ ⟨rfl,rfl,hrest⟩
 ·rintro⟨r1,r2⟩ s' ⟨hr,rfl,_⟩;subst hr;exact δ h
theorem RC{es:Array (Int×ζ)}{xs:List (κ×ν)}(he:es.toList=xs.map (kd.ent))(hi:i<es.size):∃p,xs[i]?=some p/\es[i]?=some (kd.ent p):=by
 have hl:xs.length=es.size:=by
  have:=congrArg bM he;simpa using this.symm
 obtain⟨p,hp⟩:∃p,xs[i]?=some p:=⟨xs[i]'(by lia),Θ (by lia)⟩;refine⟨p,hp,?_⟩;rw[←ak,he,ax,hp];rfl
theorem HI(S:pz kd s.heap a o es ep t xs)(T:Tab t (es.toList.map (·.1)))(hu:A.units+kd.u<cLine)
  (hx:kd.Is s.heap ks x) (hke:ke≤10*t.mask+130) (hemp:(sq t.mask (kd.hk ks) ke).j∉t.place.toList) (hliv:∀k,k<ke->(sq t.mask (kd.hk ks) k).j∈t.place.toList)
  (sg:ks∈xs.map (·.1)->Q (.there none) s) (hout:ks∉xs.map (·.1)->Q (.free (sq t.mask (kd.hk ks) ke).j false) s):
  ∀(fuel n:Nat) (stand:Option fH.Probe),stand.getD (t.probeStart (kd.hk ks))=sq t.mask (kd.hk ks) n->n≤ke->ke-n<fuel ->
   (∀(k' i':Nat) p,k' < n->t.place[i']?=some (sq t.mask (kd.hk ks) k').j->xs[i']?=some p->p.1≠ks) ->
   χ (model prog w) A (setSearchFrom a (.ref x) (kd.hk ks) true fuel stand) Q E s
 |0,n,stand,_,_,hf,_=>by lia
 |fuel+1,n,stand,hst,hn,hf,hprev=>by
  have hsz:t.place.size=es.size:=by
   have:=T.size
   rw[xF] at this
   exact this
  have hfit:=kg (Tab.r T)
  have hal:∀(i:Nat) (p:κ×ν),xs[i]?=some p->((es[i]?).map λz:Int×ζ=>z.1).getD 0=kd.hk p.1:=λi p hp=>by
   rw[←ak,S.ents,ax,hp]
   rfl
  refine γ (dC S.at_ S.dat hfit ?_)
  dsimp only
  rw[RI T.mask,if_neg af,hst]
  obtain⟨met,e,m⟩:=RM T (hashAt:=λi=>((es[i]?).map λz:Int×ζ=>z.1).getD 0) hke hemp hliv hn
  erw [e]
  cases m with
  |free h1 h5=>
   refine δ (hout λhmem=>?_)
   obtain⟨p,hp,rfl⟩:=υ.mp hmem
   obtain⟨i,hi⟩:=g6 hp
   have hil:i<es.size:=by
    have h1:=(Γ.mp hi).1
    have h2:=congrArg bM S.ents
    simp at h2
    lia
   have hj:∃j,t.place[i]?=some j:=⟨t.place[i]'(by lia),by simp⟩
   obtain⟨j,hj⟩:=hj
   have hz:(j,kd.hk p.1)∈t.place.toList.zip (es.toList.map (·.1)):=by
    refine av (i:=i) ?_
    rw[gZ]
    refine⟨by rw[ak];exact hj,?_⟩
    rw[S.ents,aJ,ax,hi]
    rfl
   obtain⟨k,hk1,tf⟩:=T.reach _ _ hz
   have hkke:k<ke:=by
    refine aB λz=>hemp ?_
    by_cases q:k=ke
    ·rw[←q,hk1]
     exact av (by rw[ak];exact hj)
    ·exact tf ke (by lia)
   rw[←hk1] at hj
   by_cases hkn:k<n
   ·exact hprev k i p hkn hj hi rfl
   ·exact h5 k i (by lia) hkke hj (hal i p hi)
  |@Aq k i h1 h2 h3 h4 h5=>
   dsimp only
   have hil:i<es.size:=by
    have:=(bf.mp h3).1
    lia
   obtain⟨p,hp,hesi⟩:=RC S.ents hil
   have hyk:=S.keys p (av hp)
   have hpk:=av hp
   have go:χ (model prog w) A (do
     let some (_,y):=es[i]? | unsupported "internal:set-entry"
     let equal ←holding [y] (eqBool y (.ref x))
     let (es',_,t') ←setState a
     if true&&equal then return .there none
     let some same:=t'.sameMemory t.moves t.mask|unsupported "set.changed-during-lookup:is-the-new-block-at-the-old-address"
     let still ←match (if same then t'.slot (sq t.mask (kd.hk ks) k).j else .empty) with
      |.live i'=>match es'[i']? with
       |some (_,y')=>do pure (if ←isSame y' y then some i' else none)
       |none=>pure none
      |_=>pure none
     match still with
     |none=>rule "set.search.anew";setSearchFrom a (.ref x) (kd.hk ks) true fuel none
     | some i'=>if equal then return .there (some i') else setSearchFrom a (.ref x) (kd.hk ks) true fuel (some (sq t.mask (kd.hk ks) (k+1)))) Q E s:=by
    rw[hesi]
    dsimp only[Kd.ent]
    refine γ (bY (kd.eq hu hyk hx (γ (dC S.at_ S.dat hfit ?_))))
    by_cases heq:p.1=ks
    ·rw[decide_eq_true heq,if_pos (by decide)]
     exact δ (sg (υ.mpr ⟨p,hpk,heq⟩))
    ·rw[decide_eq_false heq,if_neg (by decide)]
     have hsm:t.sameMemory t.moves t.mask=some true:=by unfold fH.sameMemory;simp
     rw[hsm]
     dsimp only
     rw[if_pos rfl,HQ T.rise h3]
     dsimp only
     rw[hesi]
     refine γ (wpAny_isSame_ref_self ?_)
     rw[if_pos rfl]
     refine γ (δ ?_)
     dsimp only
     rw[if_neg af]
     refine HI S T hu hx hke hemp hliv sg hout fuel (k+1) _ rfl (by lia) (by lia) λk' i' p' hk' hpl hp'=>?_
     by_cases hkn:k' < n
     ·exact hprev k' i' p' hkn hpl hp'
     ·by_cases hkk:k'=k
      ·have e1:=below_at T.rise h3
       have e2:=below_at T.rise hpl
       have:i'=i:=by lia
       subst this
       rw[hp] at hp'
       cases hp'
       exact heq
      ·intro he
       exact h5 k' i' (by lia) (by lia) hpl (by rw[hal i' p' hp',he])
   by_cases hled:t.led=true
   ·rw[hled]
    rwa [if_neg (by decide)]
   ·have hled':t.led=false:=by simpa using hled
    rw[hled']
    rw[if_pos (by decide)]
    refine γ (RE hx _ (λv hv=>?_) ?_)
    ·obtain⟨e0,he0,rfl⟩:=υ.mp hv
     have he1:e0∈es.toList:=by
      have:=g9.mp he0
      exact g9.mpr (Array.mem_filter.mp this).1
     rw[S.ents] at he1
     obtain⟨p0,hp0,rfl⟩:=υ.mp he1
     exact⟨p0.1,p0.2,rfl,S.keys p0 hp0⟩
    ·rw[if_neg af]
     exact go
end
section
variable {prog:ao} {w:aC} {A:aQ} {E:ζ->η->Prop} {s:η}
variable {κ:Type} [DecidableEq κ] {kd:Kd prog w κ}
def ls(kd:Kd prog w κ)(h:Heap)(a:ν)(xs:List (κ×ν)):Prop:=
 ∃o es ep t,pz kd h a o es ep t xs/\Tab t (es.toList.map (·.1))
theorem HH{h:Heap}(ho:h.get? a=some o)(hd:o.data=.set es ep t):
  (h.update a (oP es' t')).get? a=some { o with data:=.set es' (ep+1) t' }:=by
 have q:=Heap.get?_update_self (oP es' t') ho (by rw[putSet_of es' t' hd];rfl);rw[putSet_of es' t' hd] at q;exact q
theorem RB:∀n,n<8->5≤n->iI (gg n)=32:=by decide +kernel
theorem RA:∀n,n<32->19≤n->iI (gg n)=128:=by decide +kernel
theorem Rz:∀n,n<128->77≤n->iI (gg n)=512:=by decide +kernel
theorem Sl:∀n,n<512->307≤n->iI (gg n)=2048:=by decide +kernel
theorem Sj{t:fH}{hs:List Int}(T:tD t hs)(hf:t.tooFull=true)(h64:hs.length≤1200):∃m,iI (gg hs.length)=m+1/\jC m/\hs.length*5<m*3/\m+1≤2048:=by
 have hfill:t.fill=hs.length:=by
  unfold fH.fill;rw[T.size,T.oF];rfl
 have h':hs.length*5≥t.mask*3:=by
  unfold fH.tooFull at hf;rw[hfill] at hf;simpa using hf
 have hfit:=T.JY;rcases T.mask with e|e|e|e|e
 ·rw[e] at h' hfit;exact⟨31,RB _ (by lia) (by lia),.inr (.inl rfl),by lia,by lia⟩
 ·rw[e] at h' hfit;exact⟨127,RA _ (by lia) (by lia),.inr (.inr (.inl rfl)),by lia,by lia⟩
 ·rw[e] at h' hfit;exact⟨511,Rz _ (by lia) (by lia),.inr (.inr (.inr (.inl rfl))),by lia,by lia⟩
 ·rw[e] at h' hfit;exact⟨2047,Sl _ (by lia) (by lia),.inr (.inr (.inr (.inr rfl))),by lia,by lia⟩
 ·rw[e] at h';lia
theorem Si{α β:Type}(f:α->β)(l:List α)(o:List Nat):(o.filterMap λk=>(l.map f)[k]?)=(o.filterMap λk=>l[k]?).map f:=by
 rw[tO];congr 1;funext k;rw[ax]
theorem Sh(S:pz kd s.heap a o es ep t xs)(T:tD t (es.toList.map (·.1)))(hf:t.tooFull=true)(h64:es.size≤1200)
  (h:∀h' xs',Heap.SameBut a s.heap h'->ls kd h' a xs'->xs'.Perm xs->Q () { s with heap:=h' }):
  χ (model prog w) A (setRelay a (gg es.size)) Q E s:=by
 have hsz:(es.toList.map (·.1)).length=es.size:=xF
 obtain⟨m,hm1,hm2,hm3,hm4⟩:=Sj T hf (by rw[hsz];exact h64)
 rw[hsz] at hm1 hm3
 refine γ (dC S.at_ S.dat (kg T) ?_)
 dsimp only
 rw[hm1,if_neg (by rw[cG];lia)]
 obtain⟨t2,order,e2,em,el,ep2,ef,hperm,T2⟩:=RJ (finger:=t.finger) (moves:=t.movedTo m) (led:=t.led) (plain:=t.plain) hm2 (es.map (·.1)) (by simpa using hm3)
 have erel:t.relaid (es.map (·.1)) (gg es.size)=some (t2,order):=by
  unfold fH.relaid
  rwa [hm1,Nat.add_sub_cancel]
 have hosz:(es.map (·.1)).size=es.size:=by simp
 rw[hosz] at hperm
 have hes2:(order.filterMap (es[·]?)).toList=(order.toList.filterMap λk=>xs[k]?).map (kd.ent):=by
  rw[qM,←Si,←S.ents]
  congr 1
  funext k
  rw[ak]
 have hxl:xs.length=es.size:=by
  have:=congrArg bM S.ents
  simpa using this.symm
 have hxp:(order.toList.filterMap λk=>xs[k]?).Perm xs:=by
  have:=hperm.filterMap λk=>xs[k]?
  rw[←hxl,CG] at this
  exact this
 have hsz2:(order.filterMap (es[·]?)).size=es.size:=by
  have:=congrArg bM hes2
  simp only[ε] at this
  rw[hxp.length_eq,hxl] at this
  rwa [←aK]
 refine γ ?_
 show χ _ _ (do
  let some (t,order):=t.relaid (es.map (·.1)) (gg es.size)|unsupported "internal:set-table-without-room"
  let es':=order.filterMap (es[·]?)
  if es'.size != es.size then unsupported "internal:set-table-lost-an-element"
  pure (es',t)) _ _ _
 rw[erel]
 dsimp only
 rw[hsz2,if_neg (by simp)]
 refine δ (wpAny_storeSet_of S.at_ S.dat ?_ (by rw[hsz2,cG];lia))
 have sb:=Heap.SameBut.update s.heap a (oP (order.filterMap (es[·]?)) t2)
 refine h _ _ sb ⟨_,_,_,_,⟨HH S.at_ S.dat,⟨S.ex.1,S.ex.2.1,S.ex.2.2⟩,rfl,hes2,λp hp=>kd.but S.at_ S.dat sb (S.keys p (hxp.mem_iff.mp hp)),?_,ep2.trans S.plain,el.trans S.led⟩,?_⟩ hxp
 ·exact (hxp.map _).nodup_iff.mpr S.nd
 ·have eT:(order.filterMap (es[·]?)).toList.map (·.1)=order.toList.filterMap λk=>(es.map (·.1))[k]?:=by
   rw[qM,tO]
   congr 1
   funext k
   simp
  rwa [eT]
theorem Sg(S:ls kd s.heap a xs)(h64:xs.length<1200)(hu:A.units+kd.u<cLine)(hx:kd.Is s.heap ks x)
  (h:∀b h' tk xs',s.toks≤tk->Heap.SameBut a s.heap h'->ls kd h' a xs'->(ks∈xs.map (·.1)->xs'.Perm xs)->(ks∉xs.map (·.1)->xs'.Perm ((ks,x)::xs))->Q b { s with heap:=h',toks:=tk }):
  χ (model prog w) A (setAdd a (.ref x)) Q E s:=by
 obtain⟨o,es,ep,t,S,T⟩:=S;have hxl:xs.length=es.size:=by
  have:=congrArg bM S.ents;simpa using this.symm
 refine bY (γ (kd.hash hu hx (bY ?_)));have lK:∀b h' xs',Heap.SameBut a s.heap h'->ls kd h' a xs'->(ks∈xs.map (·.1)->xs'.Perm xs)->(ks∉xs.map (·.1)->xs'.Perm ((ks,x)::xs))->Q b { s with heap:=h',toks:=s.toks+kd.dr ks }:=
  λb h' xs' q1 q2 q3 q4=>h b h' _ xs' (gh _ _) q1 q2 q3 q4
 obtain⟨ke,hke,hemp,hliv⟩:=RN T (kd.hk ks);refine γ (dC (s:={ s with toks:=s.toks+kd.dr ks }) S.at_ S.dat (kg (Tab.r T)) ?_);dsimp only;rw[show byScan (.ref x) es=false from rfl,if_neg af];refine γ (HI (s:={ s with toks:=s.toks+kd.dr ks }) S T hu hx hke hemp hliv (λsg=>?_) (λhout=>?_) 100000 0 none rfl (ar _) (by rcases T.mask with e|e|e|e|e<;>rw[e] at hke<;>lia) λk' i' p hk'=>absurd hk' (gJ _))
 ·exact δ (lK false s.heap xs (.refl _ _) ⟨o,es,ep,t,S,T⟩ (λ_=>.refl _) λz=>absurd sg z)
 ·refine γ (dC (s:={ s with toks:=s.toks+kd.dr ks }) S.at_ S.dat (kg (Tab.r T)) ?_);rw[RL T.oF];rw[S.plain,if_pos rfl];refine γ (kd.byv (s:={ s with toks:=s.toks+kd.dr ks }) hx ?_);rw[if_pos rfl];have TR:=T.put hemp hliv;generalize hp:jk t.place (sq t.mask (kd.hk ks) ke).j=p at TR ⊢;have hes1:(bR es p (kd.hk ks,aw x)).toList=(xs.take p++(ks,x)::xs.drop p).map (kd.ent):=by
   rw[uL,S.ents,aP,ay,sr,nW];rfl
  have hhs:(bR es p (kd.hk ks,aw x)).toList.map (·.1)=(es.toList.map (·.1)).take p++kd.hk ks::(es.toList.map (·.1)).drop p:=by
   rw[uL,aP,ay,sr,nW]
  have hsz1:(bR es p (kd.hk ks,aw x)).size=es.size+1:=by
   rw[←aK,uL,(vO p es.toList _).length_eq,ai,aK]
  rw[←hhs] at TR;refine γ (wpAny_storeSet_of (s:={ s with toks:=s.toks+kd.dr ks }) S.at_ S.dat ?_ (by rw[hsz1,cG];lia));have sb:=Heap.SameBut.update s.heap a (oP (bR es p (kd.hk ks,aw x)) { t with place:=bR t.place p (sq t.mask (kd.hk ks) ke).j,dummies:=#[],plain:=true });have hpx:(xs.take p++(ks,x)::xs.drop p).Perm ((ks,x)::xs):=vO p xs _;have S1:pz kd (s.heap.update a (oP (bR es p (kd.hk ks,aw x)) { t with place:=bR t.place p (sq t.mask (kd.hk ks) ke).j,dummies:=#[],plain:=true })) a { o with data:=.set (bR es p (kd.hk ks,aw x)) (ep+1) { t with place:=bR t.place p (sq t.mask (kd.hk ks) ke).j,dummies:=#[],plain:=true }} (bR es p (kd.hk ks,aw x)) (ep+1)
    { t with place:=bR t.place p (sq t.mask (kd.hk ks) ke).j,dummies:=#[],plain:=true } (xs.take p++(ks,x)::xs.drop p):=by
   refine⟨HH S.at_ S.dat,⟨S.ex.1,S.ex.2.1,S.ex.2.2⟩,rfl,hes1,λq hq=>?_,?_,rfl,S.led⟩
   ·rcases Ψ.mp (hpx.mem_iff.mp hq) with e|e
    ·rw[e];exact kd.but S.at_ S.dat sb hx
    ·exact kd.but S.at_ S.dat sb (S.keys q e)
   ·refine (hpx.map _).nodup_iff.mpr ?_;rw[ay,cc];exact⟨hout,S.nd⟩
  have TR':tD { t with place:=bR t.place p (sq t.mask (kd.hk ks) ke).j,dummies:=#[],plain:=true } ((bR es p (kd.hk ks,aw x)).toList.map (·.1)):=
   ⟨TR.mask,TR.size,TR.rise,TR.bound,TR.oF,TR.JY,TR.reach⟩
  by_cases hfull:({ t with place:=bR t.place p (sq t.mask (kd.hk ks) ke).j,dummies:=#[],plain:=true }:fH).tooFull=true
  ·rw[hfull,if_pos (by decide)];refine γ ?_;rw[←hsz1];exact Sh (s:={ s with heap:=s.heap.update a _,toks:=s.toks+kd.dr ks }) S1 TR' hfull (by rw[hsz1];lia) λh' xs' sb' S2 pm=>δ (lK true h' xs' (sb.trans sb') S2 (λz=>absurd z hout) λ_=>pm.trans hpx)
  ·have hfull':({ t with place:=bR t.place p (sq t.mask (kd.hk ks) ke).j,dummies:=#[],plain:=true }:fH).tooFull=false:=by simpa using hfull
   rw[hfull',if_neg (by decide)];exact δ (lK true _ _ sb ⟨_,_,_,_,S1,TR'.tab hfull'⟩ (λz=>absurd z hout) λ_=>hpx)
end
theorem iB:Slot "set_iterator" "__next__" "set_iterator.__next__":=
 .of (owner:="set_iterator") (n:="__next__")
  (by rw[qj,l9];kernel_rfl)
  (by decide +kernel) (by decide +kernel) (by decide +kernel)
  (by first|exact .inl (by decide +kernel)|exact .inr (by decide +kernel))
  (by rw[mZ];kernel_rfl)
theorem HG:Slot "set_iterator" "__iter__" "set_iterator.__iter__":=
 .of (owner:="set_iterator") (n:="__iter__")
  (by rw[qj,l9];kernel_rfl)
  (by decide +kernel) (by decide +kernel) (by decide +kernel)
  (by first|exact .inl (by decide +kernel)|exact .inr (by decide +kernel))
  (by rw[mZ];kernel_rfl)
theorem HF:entryFor table "set_iterator.__next__" = some f9.«set_iterator.__next__»:=entryFor_of_tree (by kernel_rfl)
theorem Sf:entryFor table "set.__iter__" = some f9.«frozenset.__iter__»:=
 entryFor_alias (id':="frozenset.__iter__") (by rw[fastTable_eq_tree];kernel_rfl) (by decide +kernel) (by decide +kernel) (by rw[fastTable_eq_tree];kernel_rfl)
theorem HE:Manifest.owners.lookup (String.ofList ['r','o','t','a','r','e','t','i','_','t','e','s'].reverse)=some Manifest.sig_set_iterator:=by kernel_rfl
theorem HD(a:ζ):argsOk "set_iterator.__next__" ⟨[a],[]⟩:=by
 unfold argsOk;rw[signature?_of (id:="set_iterator.__next__") (n:=['_','_','t','x','e','n','_','_']) (o:=['r','o','t','a','r','e','t','i','_','t','e','s']) (by kernel_rfl) HE]
 kernel_rfl
theorem HC(next:Nat->Nat):∀(fuel k:Nat) (left:List α) (out:Array α),left.length≤fuel->(pickOrder.go next fuel k left out).toList.Perm (out.toList++left)
 |0,k,left,out,h=>by
  have:left=[]:=fb.mp (by lia);subst this;show out.toList.Perm (out.toList++[]);rw[bC]
 |fuel+1,k,left,out,h=>by
  unfold pickOrder.go;cases hl:left[next k%left.length]? with
  |none=>
   have:left=[]:=by
    cases left with
    |nil=>rfl
    |cons a l=>
     have:=fS (next k) (show 0<(a::l).length by simp)
     rw[Θ this] at hl;cases hl
   subst this;rw[bC]
  |some x=>
   have hlt:=(Γ.mp hl).1;have ih:=HC next fuel (k+1) (left.eraseIdx (next k%left.length)) (out.push x) (by rw[List.length_eraseIdx];split<;>lia)
   refine ih.trans ?_;rw[k7,Δ];refine cm _ ?_;obtain⟨_,e⟩:=Γ.mp hl;rw[←e,List.eraseIdx_eq_take_drop_succ];have q:=fI (a:=left[next k%left.length]) (l₁:=left.take (next k%left.length)) (l₂:=left.drop (next k%left.length+1))
   rw[fA,a0] at q;exact q.symm
theorem Se(next:Nat->Nat)(xs:Array α):(pickOrder next xs).toList.Perm xs.toList:=by
 have:=HC next xs.size 0 xs.toList #[] (by simp)
 unfold pickOrder;simpa using this
def lp(w:aC):Bool:=w.params.followText "set-order"
def jy(w:aC)(a:ν)(ep:Nat)(es:Array (Int×ζ)):List (Int×ζ):=if lp w then (pickOrder (w.params.setOrder a ep) es).toList else es.toList
theorem mm(w:aC)(a:ν)(ep:Nat)(es:Array (Int×ζ)):(jy w a ep es).Perm es.toList:=by
 unfold jy;split
 ·exact Se _ _
 ·exact .refl _
def nk(h:Heap)(it a:ν)(slot i n ep:Nat):Prop:=h.get? it=some { cls:=.type "set_iterator",data:=.fields #[rawInt slot,rawInt i,.ref a,rawInt n,rawInt ep]}
def rb(w:aC)(t:fH)(slot i:Nat):Prop:=lp w=true∨jk t.place slot=i
section
variable {prog:ao} {w:aC} {A:aQ} {E:ζ->η->Prop} {s:η}
theorem CF(h:Q (lp w) s):χ (model prog w) A setsByText Q E s:=γ (pH (δ h))
theorem Sd(S:lO w s.heap a o es ep t)(T:Tab t (es.toList.map (·.1)))
  (h:Q (.ref s.heap.objs.size) { s with heap:=s.heap.push { cls:=.type "set_iterator",data:=.fields #[rawInt (0:Nat),rawInt (0:Nat),.ref a,rawInt es.size,rawInt ep]}}):
  χ (model prog w) A (pyIter (.ref a)) Q E s:=by
 have hT:s.TypeIs (.ref a) "set":=⟨o,S.at_,S.ex.1⟩;have hfit:=kg (Tab.r T);refine oA hT F.slot_set_iter (bA F.slot_set_iter hT Sf (γ (m:=f9.Frozenset.slot0 "__iter__" ⟨[.ref a],[]⟩) (iT (a:=a) rfl (γ (γ (γ (dC S.at_ S.dat hfit (δ (δ (γ (γ (dC S.at_ S.dat hfit (γ (CF (δ ?_)))))))))))))) (F.args_set_iter_1 _));have hnd:(!lp w&&(!t.plain&&decide (es.size > 1)))=false:=by rw[S.plain];simp
 show χ _ _ (if (!lp w&&(!t.plain&&decide (es.size > 1)))=true then _ else _) _ _ s;rw[hnd,if_neg af];refine γ (δ (γ (wpAny_setEpoch_of S.at_ S.dat hfit (γ (bj (δ ⟨_,rfl,"set_iterator",_,⟨_,Heap.get?_push_size _ rfl,rfl⟩,iB.lookup,h⟩))))))
theorem HB{a:ν}{o:bT}{es:Array (Int×ζ)}{ep:Nat}{t:fH}(S:lO w s.heap a o es ep t)(T:Tab t (es.toList.map (·.1))){slot i:Nat}(hsl:rb w t slot i)
  {Q:Option (ζ×Nat)->η->Prop} (h1:∀p slot',(jy w a ep es)[i]?=some p->rb w t slot' (i+1)->Q (some (p.2,slot')) s) (h2:(jy w a ep es)[i]?=none->Q none s):
  χ (model prog w) A (setNext a slot i ep) Q E s:=by
 have hfit:=kg (Tab.r T);have hsz:t.place.size=es.size:=by
  have:=T.size;rw[xF] at this;exact this
 unfold setNext;refine γ (dC S.at_ S.dat hfit ?_);dsimp only;refine γ (CF ?_);unfold jy at h1 h2;cases hbt:lp w with
 |true=>
  rw[hbt] at h1 h2;rw[if_pos rfl];simp only[if_true,ak] at h1 h2;rw[if_neg (by simp)];unfold setWalk;refine γ (γ (dC S.at_ S.dat hfit ?_));dsimp only;refine γ (CF ?_);rw[hbt,if_pos rfl];refine γ (pH (δ ?_));refine δ ?_;show Q (Option.map (λe=>(e.snd,slot)) (pickOrder (w.params.setOrder a ep) es)[i]?) s;cases hp:(pickOrder (w.params.setOrder a ep) es)[i]? with
  |none=>exact h2 hp
  |some p=>exact h1 p slot hp (.inl hbt)
 |false=>
  rw[hbt] at h1 h2;rw[if_neg af];simp only[eQ,if_false,ak] at h1 h2;have hled:t.led=true:=by
   rw[S.led];show (!lp w)=true;rw[hbt];rfl
  have hb:jk t.place slot=i:=by
   rcases hsl with z|z
   ·rw[hbt] at z;cases z
   ·exact z
  have hnd:(!t.plain&&decide (es.size > 1))=false:=by rw[S.plain];simp
  show χ _ _ (if (!t.plain&&decide (es.size > 1))=true then _ else _) _ _ s;rw[hnd,if_neg af];refine γ ?_;show χ _ _ (if (!t.led && !es.isEmpty)=true then _ else _) _ _ s;rw[hled,if_neg (by simp)];refine δ ?_;rw[hb];cases hp:es[i]? with
  |none=>
   refine δ ?_;have hpl:t.place[i]?=none:=by
    have:=jO.mp hp;exact jO.mpr (by lia)
   exact h2 hp
  |some p=>
   have hil:=(bf.mp hp).1;have hj:t.place[i]?=some (t.place[i]'(by lia)):=by simp[hsz,hil]
   rw[hj];obtain⟨ph,pv⟩:=p;refine δ (h1 (ph,pv) _ hp (.inr ?_))
   -- the next place
   obtain⟨b0,b1,b2⟩:=zH (j:=t.place[i]'(by lia)+1) T.rise;refine aB λhne=>?_;by_cases hlt:jk t.place (t.place[i]'(by lia)+1)≤i
   ·have:=b2 i _ hlt hj;lia
   ·have hgt:i+1<jk t.place (t.place[i]'(by lia)+1):=by lia
    have AX:i+1<t.place.size:=by lia
    have e1:t.place[i+1]?=some (t.place[i+1]):=by simp[AX]
    have q:=b1 (i+1) _ hgt e1;have pw:=bW.mp T.rise i (i+1) (by simp;lia) (by simpa using AX) (lR i);simp at pw;lia
theorem CD{it:ν}(hit:nk s.heap it a slot i n ep):s.TypeIs (.ref it) "set_iterator":=⟨_,hit,rfl⟩
theorem HA{it:ν}(S:lO w s.heap a o es ep t)(T:Tab t (es.toList.map (·.1)))(hit:nk s.heap it a slot i es.size ep)
  (h:χ (model prog w) A (do
   match ←setNext a slot i ep with
   |some (x,next)=>
    setField (.ref it) 0 (rawInt next)
    setField (.ref it) 1 (rawInt ((i:Int)+1))
    ret x
   | none=>setField (.ref it) 2 .none;raiseNew (←newExc (.type "StopIteration") [])) P E s):
  χ (model prog w) A (f9.«set_iterator.__next__» ⟨[.ref it],[]⟩) P E s:=by
 have hfit:=kg (Tab.r T);refine γ (m:=slotArgs "__next__" 0 ⟨[.ref it],[]⟩) (iT (a:=(.ref it,[])) rfl (γ (kM hit rfl ?_)));dsimp only[rawInt];refine γ (γ (dC S.at_ S.dat hfit (δ ?_)));rwa [if_neg (by simp)]
theorem Sb{it:ν}(S:lO w s.heap a o es ep t)(T:Tab t (es.toList.map (·.1)))(hsl:rb w t slot i)(hit:nk s.heap it a slot i es.size ep)
  (hp:(jy w a ep es)[i]?=some p)
  (h:∀h' slot',nk h' it a slot' (i+1) es.size ep->rb w t slot' (i+1)->Heap.SameBut it s.heap h'->Q (some p.2) { s with heap:=h' }):χ (model prog w) A (pyNext (.ref it)) Q E s:=by
 have hT:=CD hit;refine γ (fD (bD (name:=dY "__next__") hT iB
  (bA iB hT HF (HA S T hit (γ (HB S T hsl (λq slot' hq hs'=>?_) λhn=>?_))) (HD _))))
 ·rw[hp] at hq;cases hq;refine γ (bH hit (by simp) λh1 e1 sb1=>(γ (bH (s:={ s with heap:=h1 }) e1 (by simp) λh2 e2 sb2=>(δ ⟨_,rfl,δ (h h2 slot' ?_ hs' (sb1.trans sb2))⟩))))
  unfold nk;rw[e2];rfl
 ·rw[hp] at hn;cases hn
theorem Sa{it:ν}(hh:A.handled=none)(S:lO w s.heap a o es ep t)(T:Tab t (es.toList.map (·.1)))(hsl:rb w t slot i)(hit:nk s.heap it a slot i es.size ep)
  (hp:(jy w a ep es)[i]?=none)
  (h:∀h',Heap.ExtBut it s.heap h'->Q none { s with heap:=h' }):χ (model prog w) A (pyNext (.ref it)) Q E s:=by
 have hT:=CD hit;refine γ (fD (bD (name:=dY "__next__") hT iB
  (bA iB hT HF (HA S T hit (γ (HB S T hsl (λq slot' hq hs'=>?_) λhn=>?_))) (HD _))))
 ·rw[hp] at hq;cases hq
 ·refine γ (bH hit (by simp) λh1 e1 sb1=>(γ (γ (bj (γ (m:=firstArgMember _ _) (iT (a:=cq) (by first|rfl|(simp only[firstArgMember];rfl)) (bj (γ (nU ?_)) (by size_fits)))) (by size_fits)))))
  rw[show A.in1.handled=none from hh];refine γ (δ (qz ?_));refine γ (dP (T:="StopIteration") (b:=true) ⟨_,Heap.get?_push_size _ rfl,rfl⟩ kO ?_);exact δ (h _ λb ob hb e=>(Heap.get?_push_of_some _ (Heap.get?_push_of_some _ ((sb1.2 b hb).trans e))))
theorem lO.kept(S:lO w h a o es ep t)
  (k:∀b∈[a],∀ob,h.get? b=some ob->h'.get? b=some ob):lO w h' a o es ep t:=⟨k a ι _ S.at_,S.ex,S.dat,S.plain,S.led⟩
theorem lO.Jx{it:ν}(S:lO w h a o es ep t)(hit:nk h it b slot i n ep'):
  ∀c∈[a],c≠it:=λc hc e=>by
 subst e;unfold nk at hit;rw[ah.mp hc,S.at_] at hit;cases hit;have:=S.dat;cases this
theorem Rn(hh:A.handled=none){it:ν}(T:Tab t (es.toList.map (·.1))):
  Walks prog w A it ([it,a]) [it] es.size (λi v=>∃p,(jy w a ep es)[i]?=some p/\v=p.2)
   (λi h=>∃slot,nk h it a slot i es.size ep/\rb w t slot i/\lO w h a o es ep t) where
 sub:=λb hb=>by
  have:b=it:=by simpa using hb
  simp[this]
 frame:=λi h h' ⟨slot,h1,h2,h3⟩ k=>⟨slot,k it ι _ h1,h2,h3.kept λb hb ob e=>k b (μ _ hb) ob e⟩
 item:=λi s Q E hi ⟨slot,h1,h2,h3⟩ hQ=>by
  have hlen:(jy w a ep es).length=es.size:=by rw[(mm w a ep es).length_eq];simp
  have hp:(jy w a ep es)[i]?=some ((jy w a ep es)[i]'(by lia)):=Θ (by lia);exact Sb h3 T h2 h1 hp λh' slot' q1 q2 sb=>hQ _ h' s.toks ⟨_,hp,rfl⟩ ⟨slot',q1,q2,h3.kept λb hb ob e=>(sb.2 b (h3.Jx h1 b hb)).trans e⟩ λb ob hb e=>(sb.2 b (by simpa using hb)).trans e
 done:=λs Q E ⟨slot,h1,h2,h3⟩ hQ=>by
  have hlen:(jy w a ep es).length=es.size:=by rw[(mm w a ep es).length_eq];simp
  refine Sa hh h3 T h2 h1 (eD.mpr (by lia)) λh' q=>?_;exact hQ h' s.toks λb ob hb e=>q b ob (by simpa using hb) e
 self:=λi s Q E ⟨slot,h1,h2,h3⟩ h=>by
  have hT:=CD h1;refine oA hT HG (bA HG hT (b:=f9.«dict_keyiterator.__iter__») ?_ ?_ ?_)
  ·exact entryFor_alias (id':="dict_keyiterator.__iter__") (by kernel_rfl) (by decide +kernel) (by decide +kernel) (by kernel_rfl)
  ·exact δ ⟨_,rfl,"set_iterator",_,hT,iB.lookup,h⟩
  ·unfold argsOk;rw[signature?_of (id:="set_iterator.__iter__") (n:=['_','_','r','e','t','i','_','_']) (o:=['r','o','t','a','r','e','t','i','_','t','e','s']) (by kernel_rfl) HE]
   kernel_rfl
theorem qO(hh:A.handled=none)(S:lO w s.heap a o es ep t)(T:Tab t (es.toList.map (·.1)))(h64:es.size≤1200)
  (h:∀s',iL [] (λx y=>y=x) s s'->Q ((jy w a ep es).map (·.2)) s'):χ (model prog w) A (collect (.ref a)) Q E s:=by
 have hal:=Heap.lt_size S.at_;refine γ (mY (cw F.entry_proto_collect ?_));rw[cj F.plain_proto_collect _];refine γ (bj (δ ⟨dX F.plain_list_iadd _,cw F.entry_list_iadd ?_⟩));rw[cj F.plain_list_iadd _];show χ _ A.in1 (de (.ref s.heap.objs.size) (.ref a) (.ref s.heap.objs.size)) _ _ _;have S1:lO w (s.heap.push { cls:=.type "list",data:=.seq ([]:List ζ).toArray }) a o es ep t:=S.kept λb _ ob e=>Heap.get?_push_of_some _ e;have hT1:iC { s with heap:=s.heap.push { cls:=.type "list",data:=.seq ([]:List ζ).toArray }} (.ref a) "set":=⟨o,S1.at_,S.ex.1⟩;refine γ (fx hT1 ?_);have ne:=bL hal;have e1:ip (.ref s.heap.objs.size) (.ref a)=false:=by simp[ip,ne]
 rw[if_neg (by rw[e1];decide)];refine γ (Sd (s:={ s with heap:=s.heap.push { cls:=.type "list",data:=.seq ([]:List ζ).toArray }}) S1 T ?_);have S2:=S1.kept (h':=(s.heap.push { cls:=.type "list",data:=.seq ([]:List ζ).toArray }).push { cls:=.type "set_iterator",data:=.fields #[rawInt (0:Nat),rawInt (0:Nat),.ref a,rawInt es.size,rawInt ep]}) λb _ ob e=>Heap.get?_push_of_some _ e;have hit:nk ((s.heap.push { cls:=.type "list",data:=.seq ([]:List ζ).toArray }).push { cls:=.type "set_iterator",data:=.fields #[rawInt (0:Nat),rawInt (0:Nat),.ref a,rawInt es.size,rawInt ep]})
   (s.heap.push { cls:=.type "list",data:=.seq ([]:List ζ).toArray }).objs.size a 0 0 es.size ep:=Heap.get?_push_size _ rfl
 have hS0:((s.heap.push { cls:=.type "list",data:=.seq ([]:List ζ).toArray }).push { cls:=.type "set_iterator",data:=.fields #[rawInt (0:Nat),rawInt (0:Nat),.ref a,rawInt es.size,rawInt ep]}).get? s.heap.objs.size
   = some { cls:=.type "list",data:=.seq ([]:List ζ).toArray }:=Heap.get?_push_of_some _ (Heap.get?_push_size _ rfl)
 have keep0:∀b ob,s.heap.get? b=some ob->((s.heap.push { cls:=.type "list",data:=.seq ([]:List ζ).toArray }).push { cls:=.type "set_iterator",data:=.fields #[rawInt (0:Nat),rawInt (0:Nat),.ref a,rawInt es.size,rawInt ep]}).get? b=some ob:=
  λb ob e=>Heap.get?_push_of_some _ (Heap.get?_push_of_some _ e)
 have hI:(s.heap.push { cls:=.type "list",data:=.seq ([]:List ζ).toArray }).objs.size=s.heap.objs.size+1:=Heap.size_push ..;generalize (s.heap.push { cls:=.type "list",data:=.seq ([]:List ζ).toArray }).objs.size=it at hI hit ⊢;generalize ((s.heap.push { cls:=.type "list",data:=.seq ([]:List ζ).toArray }).push { cls:=.type "set_iterator",data:=.fields #[rawInt (0:Nat),rawInt (0:Nat),.ref a,rawInt es.size,rawInt ep]})=hp at S2 hit hS0 keep0 ⊢;refine γ (bY ?_);have hT2:iC { s with heap:=hp } (.ref a) "set":=⟨o,S2.at_,S.ex.1⟩;refine γ (fo hT2 F.slot_set_len.lookup ?_);generalize hid:("set.__len__":String)=id0;dsimp only;rw[show splitId id0=some ("set","__len__") from by subst hid;decide +kernel];subst hid;refine γ (dP (b:=true) hT2 (by rw[mZ];kernel_rfl) ?_)
 rw[if_neg (by decide)];refine γ (fx hT2 (δ (γ (eX (γ (γ (fm (s:={ s with heap:=hp }) hS0 rfl ?_)))))));have q1:=Heap.get?_update_self (a7 (·.push cq)) hS0 rfl;refine fm (s:={ s with heap:=hp.update s.heap.objs.size (a7 (·.push cq))}) q1 rfl ?_;have q2:=Heap.get?_update_self (a7 (·.pop)) q1 rfl;have oth:∀b ob,b≠s.heap.objs.size->hp.get? b=some ob->((hp.update s.heap.objs.size (a7 (·.push cq))).update s.heap.objs.size (a7 (·.pop))).get? b=some ob:=
  λb ob hb e=>(Heap.get?_update_other _ _ (di hb)).trans ((Heap.get?_update_other _ _ (di hb)).trans e)
 have q3:∃c,((hp.update s.heap.objs.size (a7 (·.push cq))).update s.heap.objs.size (a7 (·.pop))).get? s.heap.objs.size=some { cls:=.type "list",dict:=none,data:=.seq #[] c,slots:=#[]}:=⟨_,q2⟩;obtain⟨c0,q2⟩:=q3;have hfp:∀b∈[it,a],b≠s.heap.objs.size:=λb hb e=>by
  rcases Ψ.mp hb with z|z
  ·lia
  ·have hlt:b<s.heap.objs.size:=by
    rw[ah.mp z];exact hal
   lia
 have W:=(Rn (prog:=prog) (w:=w) (A:=A.in1) (by simpa using hh) (it:=it) (a:=a) (o:=o) (ep:=ep) T).toS;refine δ ⟨dX F.plain_extend_loop _,codeAny_extend_loopS W (by rw[cG];lia) _ (λhm=>hfp _ hm rfl) _ es.size 0 _ _ _ rfl (ar _) ?_ q2 (ItemsOf.nil _) λs' acc' c' hm hS' hacc=>?_⟩
 ·refine⟨0,oth _ _ (hfp _ ι) hit,?_,S2.kept λb hb ob e=>oth b ob (hfp b (μ _ hb)) e⟩;by_cases hb:lp w=true
  ·exact .inl hb
  ·refine .inr ?_;obtain⟨b0,b1,b2⟩:=zH (j:=0) T.rise;refine aB λhne=>?_;have hpos:0<jk t.place 0:=by lia
   have h0:0<t.place.size:=by lia
   have:=b1 0 (t.place[0]) hpos (by simp[h0]);lia
 ·refine γ (oK hS' (δ ?_));have hlen:(jy w a ep es).length=es.size:=by rw[(mm w a ep es).length_eq];simp
  have eacc:acc'.toList=(jy w a ep es).map (·.2):=by
   refine k6 λi=>?_;rw[ax,ak];cases ha:acc'[i]? with
   |none=>
    have h1:=jO.mp ha;rw[hacc.1] at h1;rw[eD.mpr (by lia)];rfl
   |some v=>
    obtain⟨p,e1,e2⟩:=hacc.2 i v ha;rw[e1,e2];rfl
  rw[eacc];refine h s' ⟨λb ob _ e=>?_,hm.gens,hm.drawn,hm.os,?_⟩
  ·have hlt:=Heap.lt_size e;refine hm.heap b ob ?_ (oth b ob (aV hlt) (keep0 b ob e));intro z;rcases Ψ.mp z with z|z
   ·rw[z] at hlt;exact cA _ hlt
   ·have:b=it:=by simpa using z
    rw[this,hI] at hlt;exact cA _ (Nat.lt_of_succ_lt hlt)
  ·exact hm.toks
end
section
variable {prog:ao} {w:aC} {A:aQ} {E:ζ->η->Prop} {s:η}
def iQ(w:aC):bT:={ cls:=.type "set",dict:=none,data:=.set #[] 0 (.fresh 0 0 (!(lp w)))}
theorem Rm(a:ζ)(h:Q₁ (.ref s.heap.objs.size) { s with heap:=s.heap.push (iQ w)}):
  gI (model prog w) A (.call (.builtin "set.__new__") ⟨[.type "set",a],[]⟩) (wants Q₁ E) s:=by
 refine codeAny_of_tree (γ (iT (F.newCall_set_1 a) (δ ⟨dX F.plain_set_new _,cw F.entry_set_new ?_⟩)));rw[cj F.plain_set_new _];have hsub:=sub_set_self;obtain⟨hp,g,d,tk,os⟩:=s;wp_walk;exact pH (δ (γ (wpAny_alloc (δ (δ h)))))
theorem Rl(led:Bool):Tab (fH.fresh 0 0 led) []:=
 ⟨.inl rfl,rfl,gS,(λj hj=>(nomatch hj)),rfl,(by show 0*5<7*3;decide),(λj h hj=>(nomatch hj))⟩
variable {κ:Type} [DecidableEq κ] {kd:Kd prog w κ}
structure vF{κ:Type}(ps xs:List (κ×ν)):Prop where
 sub:∀p∈xs,p∈ps
 all:∀p∈ps,p.1∈xs.map (·.1)
 len:xs.length≤ps.length
theorem vF.add{ps xs xs':List (κ×ν)}{p:κ×ν}(d:vF ps xs)(h1:p.1∈xs.map (·.1)->xs'.Perm xs)(h2:p.1∉xs.map (·.1)->xs'.Perm (p::xs)):vF (ps++[p]) xs':=by
 by_cases hm:p.1∈xs.map (·.1)
 ·have pm:=h1 hm;refine⟨λq hq=>aD _ (d.sub q (pm.mem_iff.mp hq)),λq hq=>?_,?_⟩
  ·rw[(pm.map _).mem_iff];rcases aa.mp hq with hq|hq
   ·exact d.all q hq
   ·have:q=p:=by simpa using hq
    rwa [this]
  ·rw[pm.length_eq,π];have:=d.len;lia
 ·have pm:=h2 hm;refine⟨λq hq=>?_,λq hq=>?_,?_⟩
  ·rcases Ψ.mp (pm.mem_iff.mp hq) with e|e
   ·exact aj _ (by simp[e])
   ·exact aD _ (d.sub q e)
  ·rw[(pm.map _).mem_iff,ay];rcases aa.mp hq with hq|hq
   ·exact μ _ (d.all q hq)
   ·have:q=p:=by simpa using hq
    rw[this];exact ι
  ·rw[pm.length_eq,π,ai,c9];have:=d.len;lia
theorem Hz(W:Walks prog w A.in1 I fp [I] n P St)(S:ν)(hSf:S∉fp)(ps:List (κ×ν))(hps:ps.length=n)(hn:n≤1100)
  (hu:A.in1.units+kd.u<cLine) (hval:∀(i:Nat) v,P i v->∃p,ps[i]?=some p/\v=.ref p.2) (h0:Heap) (hfar:∀b ob,h0.get? b=some ob->b≠I/\b≠S) (hk0:∀p∈ps,kd.Is h0 p.1 p.2):
  ∀(k i:Nat) (s:η) (xs:List (κ×ν)),n-i=k->i≤n->St i s.heap->ls kd s.heap S xs->vF (ps.take i) xs->(∀b ob,h0.get? b=some ob->s.heap.get? b=some ob) ->
   (∀h' tk xs',(∀b ob,b≠S->b≠I->s.heap.get? b=some ob->h'.get? b=some ob)->ls kd h' S xs'->vF ps xs'->R (.ok (.ret .none)) { s with heap:=h',toks:=tk }) ->
   gI (model prog w) A (.builtin "set.update.loop" ⟨[.ref S,.ref I],[]⟩) R s:=by
 have hSI:S≠I:=λe=>hSf (W.sub _ (by rw[e];simp));have on_kept:∀{h h':Heap} {xs:List (κ×ν)},ls kd h S xs->(∀p∈xs,p∈ps)->(∀b ob,b≠I->h.get? b=some ob->h'.get? b=some ob)->(∀b ob,h0.get? b=some ob->h.get? b=some ob)->ls kd h' S xs:=λ{h h' xs} ⟨o,es,ep,t,q,T⟩ sub kp e0=>
  ⟨o,es,ep,t,⟨kp S _ hSI q.at_,q.ex,q.dat,q.ents,λp hp=>kd.ext (λb ob e=>kp b ob (hfar b ob e).1 (e0 b ob e)) (hk0 p (sub p hp)),q.nd,q.plain,q.led⟩,T⟩
 intro k
 induction k with
 |zero=>
  intro i s xs hk hi hst hS hd hkeys hR;have sg:i=n:=by lia
  subst sg;refine cw kA ?_;rw[cj gE _];refine γ (W.done s _ _ hst λh' tk kp=>?_);have hd':vF ps xs:=by
   rw[←hps,lS] at hd;exact hd
  exact δ (hR h' tk xs (λb ob _ hb e=>kp b ob (by simpa using hb) e) (on_kept hS hd'.sub (λb ob hb e=>kp b ob (by simpa using hb) e) hkeys) hd')
 |succ k ih=>
  intro i s xs hk hi hst hS hd hkeys hR;have hlt:i<n:=by lia
  refine cw kA ?_;rw[cj gE _];refine γ (W.item i s _ _ hlt hst λv h1 tk1 hP hst1 kp1=>?_);obtain⟨p,hp,rfl⟩:=hval i v hP;have hpm:=av hp;have kp1':=λb ob hb e=>kp1 b ob (by simpa using hb) e;have ext1:=λb ob e=>kp1' b ob (hfar b ob e).1 (hkeys b ob e);have key1:=λq hq=>kd.ext ext1 (hk0 q hq);have sub0:=λq hq=>cf (hd.sub q hq);have hS1:=on_kept hS sub0 kp1' hkeys;have hlen:xs.length<1200:=by
   have h1:=hd.len;rw[aZ] at h1;lia
  refine γ (bY (Sg (s:={ s with heap:=h1,toks:=tk1 }) hS1 hlen hu (key1 p hpm) λb h2 tk2 xs2 _ sb hS2 q1 q2=>?_));have hd2:vF (ps.take (i+1)) xs2:=by
   rw[oC,hp];exact hd.add q1 q2
  obtain⟨oS,_,_,_,SS,_⟩:=hS1;exact δ ⟨dX gE _,ih (i+1) _ xs2 (by lia) hlt (W.frame _ _ _ hst1 λc hc ob e=>(sb.2 c (λz=>hSf (z▸hc))).trans e) hS2 hd2 (λb ob e=>(sb.2 b (hfar b ob e).2).trans (ext1 b ob e)) λh' tk xs' kp' a1 a2=>(hR h' tk xs' (λc ob c1 c2 e=>kp' c ob c1 c2 ((sb.2 c c1).trans (kp1' c ob c2 e))) a1 a2)⟩
set_option maxHeartbeats 6400000 in
theorem Hy{l:ν}{vs:List ζ}{ps:List (κ×ν)}{Q:ζ->η->Prop}{c:String}(hh:A.handled=none)(hl:∃o,s.heap.get? l=some o/\o.cls=.type c/\∃n,o.data=.seq vs.toArray n)(hv:vs=ps.map λp=>aw p.2)(hk:∀p∈ps,kd.Is s.heap p.1 p.2)(hn:ps.length≤1100)
  (hu:A.units+20<cLine)
  (h:∀h' tk xs,(∀b ob,s.heap.get? b=some ob->h'.get? b=some ob)->ls kd h' s.heap.objs.size xs->vF ps xs->Q (.ref s.heap.objs.size) { s with heap:=h',toks:=tk }) (hc:c="list" ∨ c="tuple":=by first|exact .inl rfl|exact .inr rfl):
  χ (model prog w) A (call (.type "set") [.ref l]) Q E s:=by
 obtain⟨_,tl,hmro⟩:=F.called_set.mro;have hmade:=F.called_set.made;have hsub:=F.called_set.sub;refine wpAny_call (codeAny_of_tree ?_);show χ _ _ (callAny (.type "set") _) _ _ _;refine δ ⟨tU _ (by decide +kernel),cw F.entry_type_call ?_⟩;rw[aQ.under_plain (weight_type_call_type "set" [.ref l] []) rfl];have h1:=F.called_set.notType;have h2:=F.called_set.canCreate;have hct:=F.typeCall_set_1 (.ref l)
 repeat (any_goals (first|assumption|wp_step))
 refine ky (Rm (.ref l) (E:=E) (Q₁:=λobj s₁=>obj=.ref s.heap.objs.size/\s₁={ s with heap:=s.heap.push (iQ w)}) ⟨rfl,rfl⟩) λr s₁ hr=>?_;cases r with
 |error e=>exact hr
 |ok fl=>
  cases fl with
  |ret obj=>
   obtain⟨rfl,rfl⟩:=hr;have hS:(s.heap.push (iQ w)).get? s.heap.objs.size=some (iQ w):=Heap.get?_push_size _ rfl;have hT:iC { s with heap:=s.heap.push (iQ w)} (.ref s.heap.objs.size) "set":=⟨_,hS,rfl⟩;have hli:=F.called_set.init.lookup;have hbi:=F.called_set.init.bind (.ref s.heap.objs.size)
   repeat (any_goals (first|assumption|wp_step))
   refine ky (codeAny_call_builtin (R:=wants (λr s₂=>r=.none/\∃h' tk xs,s₂={ s with heap:=h',toks:=tk }/\(∀b ob,s.heap.get? b=some ob->h'.get? b=some ob)/\ls kd h' s.heap.objs.size xs/\vF ps xs) E)
    F.called_set.init.plain F.entry_set_init (check_set_init_1 hT ?_)) λr₂ s₂ hr₂=>?_
   ·obtain⟨ol,hol,hcl,nl,hdl⟩:=hl;obtain⟨ocls,odict,odata,oslots⟩:=ol;simp only at hcl hdl;subst hcl;subst hdl;have hlS:l<s.heap.objs.size:=Heap.lt_size hol;have hh3:A.in1.in1.in1.handled=none:=by simp[hh]
    have hu3:A.in1.in1.in1.units+kd.u<cLine:=by
     have:=kd.hu;show A.units+1+1+1+kd.u<cLine;lia
    have hsz:(s.heap.push (iQ w)).objs.size=s.heap.objs.size+1:=Heap.size_push ..;have hneI:l≠(s.heap.push (iQ w)).objs.size:=by
     rw[hsz];exact aV (ja hlS)
    have hSf:s.heap.objs.size∉[(s.heap.push (iQ w)).objs.size,l]:=by
     rw[hsz];intro z;rcases Ψ.mp z with z|z
     ·exact absurd z (aV (lR _))
     ·have:s.heap.objs.size=l:=by simpa using z
      exact absurd this (bL hlS)
    have hlen:vs.toArray.size=ps.length:=by rw[hv];simp
    have hS2:(s.heap.push (iQ w)).get? s.heap.objs.size=some { cls:=.type "set",dict:=none,data:=.set #[] 0 (.fresh 0 0 (!(lp w)))}:=hS;have:=F.sub_list_set;have:=F.sub_list_frozenset;have:=F.sub_tuple_set;have:=F.sub_tuple_frozenset;have:(gs "list" == gs "dict")=false:=by decide
    have:(gs "tuple" == gs "dict")=false:=by decide
    rcases hc with rfl|rfl
    all_goals
     have hol':=Heap.get?_push_of_some (iQ w) hol;unfold f9.«set.__init__» noKeywords f9.Frozenset.updateFrom;generalize hPI:pyIter=PI;wp_walk;subst hPI
     first
      |refine fW ⟨_,hol',rfl,nl,rfl⟩ ?_
      |refine dI ⟨_,hol',rfl,nl,rfl⟩ ?_
     refine γ (mY ?_)
     first
      |refine Hz (Walks.list hh3 _ l hneI vs.toArray) s.heap.objs.size hSf ps hlen.symm (by rw[hlen];exact hn) hu3 (λi v e=>?_) s.heap (λb ob e=>?_) hk (vs.toArray.size-0) 0 _ [] rfl (ar _) ⟨⟨_,Heap.get?_push_size _ rfl,rfl,rfl⟩,⟨_,Heap.get?_push_of_some _ hol',rfl,nl,rfl⟩⟩ ?hS0 ⟨(λp hp=>(nomatch hp)),(λp hp=>by rw[kQ] at hp;cases hp),ar _⟩ (λb ob e=>Heap.get?_push_of_some _ (Heap.get?_push_of_some _ e)) ?hR
      |refine Hz (Walks.tuple hh3 _ l hneI vs.toArray) s.heap.objs.size hSf ps hlen.symm (by rw[hlen];exact hn) hu3 (λi v e=>?_) s.heap (λb ob e=>?_) hk (vs.toArray.size-0) 0 _ [] rfl (ar _) ⟨⟨_,Heap.get?_push_size _ rfl,rfl,rfl⟩,⟨_,Heap.get?_push_of_some _ hol',rfl,nl,rfl⟩⟩ ?hS0 ⟨(λp hp=>(nomatch hp)),(λp hp=>by rw[kQ] at hp;cases hp),ar _⟩ (λb ob e=>Heap.get?_push_of_some _ (Heap.get?_push_of_some _ e)) ?hR
     case hS0=>
      refine⟨_,#[],0,_,⟨Heap.get?_push_of_some _ hS2,⟨rfl,rfl,rfl⟩,rfl,rfl,(λp hp=>(nomatch hp)),jo,rfl,rfl⟩,Rl _⟩
     case hR=>
      intro h' tk xs q1 q2 q3;refine δ ?_;show χ _ _ (ret cq) _ _ _;refine δ ⟨rfl,h',tk,xs,rfl,λb ob e=>?_,q2,q3⟩;have hb:=Heap.lt_size e;refine q1 b ob (aV hb) ?_ (Heap.get?_push_of_some _ (Heap.get?_push_of_some _ e));rw[hsz];exact aV (ja hb)
     ·rw[hv,List.getElem?_toArray,ax] at e;cases hp:ps[i]? with
      |none=>rw[hp] at e;cases e
      |some p=>rw[hp] at e;exact⟨p,rfl,(aL e).symm⟩
     ·have hb:=Heap.lt_size e;rw[hsz];exact⟨aV (ja hb),aV hb⟩
   ·cases r₂ with
    |error e=>exact hr₂
    |ok fl₂=>
     cases fl₂ with
     |ret r=>
      obtain⟨rfl,h',tk,xs,rfl,q1,q2,q3⟩:=hr₂
      repeat (any_goals (first|assumption|wp_step))
      exact h _ _ _ q1 q2 q3
     |_=>exact hr₂.elim
  |_=>exact hr.elim
end
end cQ
namespace aR
open PySem PySem.W PyProof.Rows cQ
def lx:List Int->List Int->Bool
 |[],[]=>false
 |[],_::_=>true
 |_::_,[]=>false
 |x::xs,y::ys=>if x=y then lx xs ys else decide (x<y)
theorem sY:∀{x y:List Int},lx x y=true->lx y x=false
 |[],[],h=>by cases h
 |[],_::_,_=>rfl
 |_::_,[],h=>by cases h
 |x::xs,y::ys,h=>by
  unfold lx at h ⊢;by_cases e:x=y
  ·rw[if_pos e] at h;rw[if_pos e.symm];exact sY h
  ·rw[if_neg e] at h;rw[if_neg (di e)];exact decide_eq_false (by lia)
theorem vd:∀{a b c:List Int},lx b a=false->lx c b=false->lx c a=false
 |[],b,[],_,_=>rfl
 |[],[],c::cs,_,h=>h
 |[],b::bs,c::cs,h,_=>rfl
 |a::as,[],c,h,_=>by cases h
 |a::as,b::bs,[],_,h=>by cases h
 |a::as,b::bs,c::cs,h1,h2=>by
  unfold lx at h1 h2 ⊢;by_cases e1:b=a
  ·rw[if_pos e1] at h1;by_cases e2:c=b
   ·rw[if_pos e2] at h2;rw[if_pos (e2.trans e1)];exact vd h1 h2
   ·rw[if_neg e2] at h2;by_cases e3:c=a
    ·lia
    ·rw[if_neg e3];exact decide_eq_false (by lia)
  ·rw[if_neg e1] at h1;by_cases e2:c=b
   ·rw[if_neg (by lia)];exact decide_eq_false (by lia)
   ·rw[if_neg e2] at h2;by_cases e3:c=a
    ·lia
    ·rw[if_neg e3];exact decide_eq_false (by lia)
section
variable {prog:ao} {w:aC} {A:aQ} {E:ζ->η->Prop} {s:η}
theorem Rk:∀(xs ys:List Int) (us vs:List ζ) (i:Nat) (fin:Bool),ItemsAre (intKind prog w) xs us->ItemsAre (intKind prog w) ys vs ->
  (fin=decide (us.length<vs.length)∨∃n m,fin=decide (n+us.length<n+vs.length)/\m=n)->Q (lx xs ys) s->KatLex prog w A true fin Q (us.zip vs) i s:=by
 intro xs
 induction xs with
 |nil=>
  intro ys us vs i fin h1 h2 hf h;cases h1;cases h2 with
  |nil=>
   have:fin=false:=by
    rcases hf with hf|⟨n,m,hf,_⟩<;>simp at hf<;>exact hf
   rw[this];exact oX h
  |cons h3 h4=>
   have:fin=true:=by
    rcases hf with hf|⟨n,m,hf,_⟩<;>rw[hf]<;>simp
   rw[this];exact oX h
 |cons x xs ih=>
  intro ys us vs i fin h1 h2 hf h;cases h1 with
  |cons h1 h1'=>
  cases h2 with
  |nil=>
   have:fin=false:=by
    rcases hf with hf|⟨n,m,hf,_⟩<;>rw[hf]<;>simp
   rw[this];exact oX h
  |cons h3 h4=>
   obtain⟨t,rfl⟩:=fX h1;obtain⟨t',rfl⟩:=fX h3;refine kat_cons (pF ?_);unfold lx at h;rename_i _ y ys _;by_cases e:x=y
   ·rw[if_pos e] at h;have:(x==y)=true:=by simpa using e
    rw[this];refine kat_yes (ih ys _ _ (i+1) fin h1' h4 (.inr ?_) h);rcases hf with hf|⟨n,m,hf,_⟩
    ·exact⟨1,1,by rw[hf];simp[Nat.add_comm],rfl⟩
    ·exact⟨n+1,n+1,by rw[hf];congr 1;simp only[ai];apply propext;lia,rfl⟩
   ·rw[if_neg e] at h;have:(x==y)=false:=by simpa using e
    rw[this];refine kat_no ?_;by_cases hi:i=0
    ·subst hi;exact oneLt_int h
    ·have hb:(true&&i==0)=false:=by simp[hi]
     rw[hb];exact kat_one _ _ (lt_int h)
theorem Rj(hx:iF prog w s.heap x a)(hy:iF prog w s.heap y b)(h:Q (lx x y) s):χ (model prog w) A (keyLt' (tuples' true) (.ref a) (.ref b)) Q E s:=by
 obtain⟨o,its,n,ho,_,hd,hi⟩:=hx;obtain⟨o',its',n',ho',_,hd',hi'⟩:=hy;exact kat_lt ho hd ho' hd' (Rk x y its.toList its'.toList 0 _ hi hi' (.inl (by simp)) h)
structure tG{α:Type}(lt:α->α->Bool):Prop where
 om:∀x y,lt x y=true->lt y x=false
 iX:∀x y z,lt y x=false->lt z y=false->lt z x=false
abbrev KW(x y:List Int×ν):Bool:=lx x.1 y.1
abbrev fT(p:List Int×ν):ζ:=.ref p.2
theorem Zf:tG KW:=⟨λ_ _ h=>sY h,λ_ _ _ h1 h2=>vd h1 h2⟩
theorem Hx:∀{ps:List (List Int×ν)},(∀p∈ps,iF prog w h p.1 p.2/\p.1≠[])->∃fs,KatTups h (ps.map λp=>aw p.2) fs/\fs.length=ps.length/\∀v∈fs,∃i t,v=.int i t
 |[],_=>⟨[],.nil,rfl,λv hv=>nomatch hv⟩
 |p::ps,hk=>by
  obtain⟨fs,h1,h2,h3⟩:=Hx (ps:=ps) λq hq=>hk q (μ _ hq);obtain⟨⟨o,its,n,ho,hc,hd,hi⟩,hne⟩:=hk p ι;obtain⟨ks,a⟩:=p;cases ks with
  |nil=>exact absurd rfl hne
  |cons k ks=>
   obtain⟨its⟩:=its;cases hi with
   |cons h4 h5=>
    rename_i v vs;obtain⟨t,e⟩:=fX h4;refine⟨v::fs,tR ho hc hd (by simp) h1,by simp[h2],λu hu=>?_⟩;rcases Ψ.mp hu with q|q
    ·exact⟨k,t,q.trans e⟩
    ·exact h3 u q
theorem Ri(hne:ps≠[])(hk:∀p∈ps,iF prog w s.heap p.1 p.2/\p.1≠[])(h:Q (tuples' true) s):χ (model prog w) A (keyKind' (ps.map fT).toArray) Q E s:=by
 obtain⟨fs,h1,h2,h3⟩:=Hx hk;have hl:0<fs.length:=by
  rw[h2];exact jT.mpr hne
 refine kat_kind (T:=.type "int") h1 hl (λv hv=>?_) rfl h;obtain⟨i,t,rfl⟩:=h3 v hv;exact .now
structure tE{α:Type}(lt:α->α->Bool)(ps qs:List α):Prop where
 perm:qs.Perm ps
 rise:qs.Pairwise λx y=>lt y x=false
abbrev LD(ps qs:List (List Int×ν)):Prop:=tE KW ps qs
theorem Rh{a:ν}{n:Nat}{vs:List ζ}{P:PySem.Fin->η->Prop}(ho:s.heap.get? a=some (seqObj "list" vs.toArray n))(h2:vs.length<2)
  (h:∀h' c,h'.get? a=some (seqObj "list" vs.toArray c)->(∀b o,b≠a->s.heap.get? b=some o->h'.get? b=some o)->P (.done (.ret .none)) { s with heap:=h' }):
  χ (model prog w) A (f9.«list.sort» ⟨[.ref a],[]⟩) P E s:=by
 have s1:=Heap.SameBut.update s.heap a (a7 λ_=>(#[]:Array ζ));obtain⟨e1,ho1⟩:∃e1,(s.heap.update a (a7 λ_=>(#[]:Array ζ))).get? a=some (seqObj "list" #[] e1):=⟨_,j7 ho λ_=>#[]⟩;have hu3:∀b o,b≠a->s.heap.get? b=some o->(((s.heap.update a (a7 λ_=>(#[]:Array ζ))).push (seqObj "tuple" vs.toArray 0)).push (seqObj "list" #[] 0)).get? b=some o:=λb o hb e=>
  Heap.get?_push_of_some _ (Heap.get?_push_of_some _ ((s1.2 b hb).trans e))
 have ho3:(((s.heap.update a (a7 λ_=>(#[]:Array ζ))).push (seqObj "tuple" vs.toArray 0)).push (seqObj "list" #[] 0)).get? a=some (seqObj "list" #[] e1):=Heap.get?_push_of_some _ (Heap.get?_push_of_some _ ho1);rw[list_sort_plain];refine γ (pJ ho rfl ?_);refine γ (lG ho rfl ?_ (by rw[Ω,cG];lia) (ar _));refine γ (qB ho1 rfl ?_);refine γ (kL ?_ (by show vs.length≤_;rw[cG];lia));refine γ (nT ?_ (ar _));refine bY ?_;show χ (model prog w) A _ P E { s with heap:=((s.heap.update a (a7 λ_=>(#[]:Array ζ))).push (seqObj "tuple" vs.toArray 0)).push (seqObj "list" #[] 0)};generalize ((s.heap.update a (a7 λ_=>(#[]:Array ζ))).push (seqObj "tuple" vs.toArray 0)).push (seqObj "list" #[] 0)=h3 at hu3 ho3 ⊢;dsimp only;have hn2:vs.toArray.size<2:=by rw[Ω];lia
 rw[if_pos hn2,if_pos hn2];refine γ (δ ?_);rw[StateT.run_pure];refine γ (δ ?_);dsimp only;have hout:(arrOf (rV general' (vs.toArray.zip vs.toArray) #[] 7 none)).map (·.2)=vs.toArray:=by
  show (vs.toArray.zip vs.toArray).map (·.2)=vs.toArray;refine Array.ext (by simp) λi h1 h2=>?_;simp
 rw[hout];have s2:=Heap.SameBut.update h3 a (a7 λ_=>vs.toArray);obtain⟨c2,hc2⟩:∃c2,(h3.update a (a7 λ_=>vs.toArray)).get? a=some (seqObj "list" vs.toArray c2):=⟨_,j7 ho3 λ_=>vs.toArray⟩;refine γ (qB ho3 rfl ?_);refine γ (lG ho3 rfl ?_ (ar _) (by rw[Ω,cG];lia));simp only[bne_self_eq_false,eQ,if_false];exact δ (h _ c2 hc2 λb o hb e=>(s2.2 b hb).trans (hu3 b o hb e))
theorem Rg(keep:∀c o,h.get? c=some o->h'.get? c=some o)(hk:iF prog w h ks a):iF prog w h' ks a:=by
 obtain⟨o,it,m,ho,r⟩:=hk;exact⟨o,it,m,keep a o ho,r⟩
end
end aR
namespace L3
theorem lb{α β:Type}{f:α->β}{l l':List β}(h:l.Perm l'):∀{zs:List α},l'=zs.map f->∃zs':List α,zs'.Perm zs/\l=zs'.map f:=by
 induction h with
 |nil=>
  intro zs e;have:zs=[]:=by simpa using e.symm
  subst this;exact⟨[],.nil,rfl⟩
 |cons x _ ih=>
  intro zs e;cases zs with
  |nil=>cases e
  |cons z zs=>
   simp only[ay,qo] at e;obtain⟨zs',h1,h2⟩:=ih e.2;exact⟨z::zs',h1.cons z,by simp[e.1,h2]⟩
 |swap x y l=>
  intro zs e;rcases zs with _|⟨z,_|⟨z2,zs⟩⟩
  ·cases e
  ·simp at e
  ·simp only[ay,qo] at e;exact⟨z2::z::zs,.swap _ _ _,by simp[e.1,e.2.1,e.2.2]⟩
 |trans _ _ ih1 ih2=>
  intro zs e;obtain⟨z2,h1,h2⟩:=ih2 e;obtain⟨z1,h3,h4⟩:=ih1 h2;exact⟨z1,h3.trans h1,h4⟩
end L3
namespace fQ
open PySem PySem.W PyProof.Rows
abbrev SM:=StateT bS Sem
def hZ:Bool->ο->Array ο->Nat->Nat->Nat->SM (Option Nat):=sortPriv% PySem.Builtin.gallop
def ye(left:Bool)(key:ο)(arr:Array ο)(base i:Nat):SM (Option Bool):=do
 let x ←elem' arr (base+i)
 if left then lt' x key else return (←lt' key x).map (!·)
theorem Al(left:Bool)(key:ο)(arr:Array ο)(base n hint:Nat):hZ left key arr base n hint=(do
 let mut lastofs:=0
 let mut ofs:=1
 let mut lo:=0
 let mut hi:=0
 let some right ←ye left key arr base hint|return none
 if right then
  let maxofs:=n-hint
  for _ in [0:n] do
   if ofs≥maxofs then break
   let some more ←ye left key arr base (hint+ofs)|return none
   if !more then break
   lastofs:=ofs
   ofs:=2*ofs+1
  lo:=hint+lastofs+1
  hi:=hint+min ofs maxofs
 else
  let maxofs:=hint+1
  for _ in [0:n] do
   if ofs≥maxofs then break
   let some found ←ye left key arr base (hint-ofs)|return none
   if found then break
   lastofs:=ofs
   ofs:=2*ofs+1
  lo:=hint+1-min ofs maxofs
  hi:=hint-lastofs
 for _ in [0:n] do
  if lo≥hi then break
  let m:=lo+(hi-lo) / 2
  let some more ←ye left key arr base m|return none
  if more then lo:=m+1 else hi:=m
 return some hi):=rfl
def xY(left:Bool)(key:ο)(arr:Array ο)(base n lo hi:Nat):SM (Option Nat):=do
 let mut lo:=lo
 let mut hi:=hi
 for _ in [0:n] do
  if lo≥hi then break
  let m:=lo+(hi-lo) / 2
  let some more ←ye left key arr base m|return none
  if more then lo:=m+1 else hi:=m
 return some hi
section
variable {prog:ao} {w:aC} {A:aQ} {E:ζ->η->Prop} {κ:dR} {s:η} {Ok:ο->Prop} {L:ο->ο->Bool} {st:bS}
def kx(prog:ao)(w:aC)(A:aQ)(κ:dR)(s:η)(Ok:ο->Prop)(L:ο->ο->Bool):Prop:=
 ∀x y,Ok x->Ok y->∀(Q:Bool->η->Prop) (E:ζ->η->Prop),Q (L x y) s->χ (model prog w) A (keyLt' κ x.1 y.1) Q E s
theorem wR(C:kx prog w A κ s Ok L)(hk:kindOf st=κ)(hx:Ok x)(hy:Ok y)(h:Q (some (L x y)) st s):kasC (model prog w) A E (lt' x y) Q st s:=by
 rw[lt'_eq];refine ω (jD ?_);rw[hk];exact ω (l7 (fD (C x y hx hy _ _ (ag h))))
theorem ki(e:arr[i]?=some x)(h:Q x st s):kasC (model prog w) A E (elem' arr i) Q st s:=by
 rw[elem'_eq,e];exact ag h
theorem se(h:kasC (model prog w) A E m Q st s)(hq:∀a st' s',Q a st' s'->Q' a st' s'):kasC (model prog w) A E m Q' st s:=eY h (λr s' z=>hq _ _ _ z) λ_ _ e=>e
theorem pf{β:Type}{body:Nat->β->SM (ForInStep β)}{Q:β->bS->η->Prop}(I:Nat->β->bS->Prop)(hz:∀b st,I 0 b st->Q b st s)
  (hs:∀x k b st,I (k+1) b st->kasC (model prog w) A E (body x b) (λr st' s'=>s'=s/\match r with
   |.done b'=>Q b' st' s
   | .yield b'=>I k b' st') st s) (l:List Nat):∀(b:β) (st:bS),I l.length b st->kasC (model prog w) A E (forIn l b body) Q st s:=by
 induction l with
 |nil=>exactλb st h=>kasC_nil (hz b st h)
 |cons x l ih=>
  intro b st h;refine kasC_cons (se (hs x l.length b st h) ?_);rintro r st' s' ⟨e,z⟩;subst e;cases r with
  |done b'=>exact z
  |yield b'=>exact ih b' st' z
def uR(L:ο->ο->Bool)(left:Bool)(key x:ο):Bool:=if left then L x key else !(L key x)
theorem Rf(C:kx prog w A κ s Ok L)(hk:kindOf st=κ)(e:arr[base+i]?=some x)(hx:Ok x)(hy:Ok key)(h:Q (some (uR L left key x)) st s):
  kasC (model prog w) A E (ye left key arr base i) Q st s:=by
 refine ω (ki e ?_);cases left with
 |true=>exact wR C hk hx hy h
 |false=>exact ω (wR C hk hy hx (ag h))
structure Bnd(B:Nat->Bool)(n k:Nat):Prop where
 le:k≤n
 lo:∀i,i<k->B i=true
 hi:∀i,k≤i->i<n->B i=false
theorem Rc(C:kx prog w A κ s Ok L)(hk:kindOf st=κ)(B:Nat->Bool)(hn:hint<n)(hy:Ok key)
  (bX:∀i,i<n->∃x,arr[base+i]?=some x/\Ok x/\uR L left key x=B i) (anti:∀i j,i≤j->j<n->B j=true->B i=true)
  (q:∀k,Bnd B n k->Q (some k) st s):kasC (model prog w) A E (hZ left key arr base n hint) Q st s:=by
 have ask:∀{i:Nat} {R:Option Bool->bS->η->Prop},i<n->R (some (B i)) st s->kasC (model prog w) A E (ye left key arr base i) R st s:=λ{i R} hi h=>by
  obtain⟨x,e,hx,eb⟩:=bX i hi;refine Rf C hk e hx hy ?_;rwa [eb]
 have noB:∀i j,i≤j->j<n->B i=false->B j=false:=λi j h1 h2 h3=>by
  cases h:B j with
  |false=>rfl
  |true=>
   rw[anti i j h1 h2 h] at h3;cases h3
 have fin:∀lo hi,lo≤hi->hi≤n->(∀i,i<lo->B i=true)->(∀i,hi≤i->i<n->B i=false)->kasC (model prog w) A E (xY left key arr base n lo hi) Q st s:=by
  intro lo hi h1 h2 h3 h4;refine ω (dQ (pf (λk (b:Option (Option Nat)×Nat×Nat) st'=>st'=st/\b.1=none/\b.2.1≤b.2.2/\b.2.2≤n/\b.2.2-b.2.1≤k/\(∀i,i<b.2.1->B i=true)/\(∀i,b.2.2≤i->i<n->B i=false)) ?_ ?_ _ _ _ ⟨rfl,rfl,h1,h2,by rw[bU];show hi-lo≤n-0;omega,h3,h4⟩))
  ·rintro⟨r,lo,hi⟩ st' ⟨rfl,rfl,a1,a2,a3,a4,a5⟩;have e:lo=hi:=by
    have a1:lo≤hi:=a1;have a3:hi-lo≤0:=a3;omega
   subst e;exact ag (q lo ⟨a2,a4,a5⟩)
  ·rintro x k ⟨r,lo,hi⟩ st' ⟨rfl,rfl,a1,a2,a3,a4,a5⟩;have a1:lo≤hi:=a1;have a2:hi≤n:=a2;have a3:hi-lo≤k+1:=a3;dsimp only;by_cases hge:lo≥hi
   ·rw[if_pos hge];have e:lo=hi:=by omega
    subst e;exact ag ⟨rfl,ag (q lo ⟨a2,a4,a5⟩)⟩
   ·rw[if_neg hge];have hm:lo+(hi-lo) / 2<hi:=by omega
    refine ω (ask (by omega) ?_);dsimp only;cases hb:B (lo+(hi-lo) / 2) with
    |true=>
     rw[if_pos rfl];refine ag ⟨rfl,rfl,rfl,?_,a2,?_,λi hi'=>?_,a5⟩
     ·show lo+(hi-lo) / 2+1≤hi;omega
     ·show hi-(lo+(hi-lo) / 2+1)≤k;omega
     ·have hi':i<lo+(hi-lo) / 2+1:=hi';exact anti i _ (by omega) (by omega) hb
    |false=>
     rw[if_neg af];refine ag ⟨rfl,rfl,rfl,?_,?_,?_,a4,λi h' hi'=>?_⟩
     ·show lo≤lo+(hi-lo) / 2;omega
     ·show lo+(hi-lo) / 2≤n;omega
     ·show lo+(hi-lo) / 2-lo≤k;omega
     ·exact noB _ i h' hi' hb
 rw[Al];refine ω (ask hn ?_);dsimp only;cases hB:B hint with
 |true=>
  rw[if_pos rfl];refine ω (dQ ?_);have out:∀la of,la<of->hint+la<n->B (hint+la)=true->(n-hint≤of∨(hint+of<n/\B (hint+of)=false))->kasC (model prog w) A E (xY left key arr base n (hint+la+1) (hint+min of (n-hint))) Q st s:=by
   intro la of h1 h2 h3 h4;refine fin _ _ (by omega) (by omega) (λi hi=>anti i _ (by omega) h2 h3) (λi hi lg=>?_);rcases h4 with h4|⟨h4,h5⟩
   ·omega
   ·exact noB (hint+of) i (by omega) lg h5
  refine pf (λk (b:Option (Option Nat)×Nat×Nat) st'=>st'=st/\b.1=none/\b.2.1<b.2.2/\hint+b.2.1<n/\B (hint+b.2.1)=true/\n+1≤b.2.2+k) ?_ ?_ _ _ _ ⟨rfl,rfl,by decide,hn,(show B (hint+0)=true from hB),by rw[bU];show n+1≤1+(n-0);omega⟩
  ·rintro⟨r,la,of⟩ st' ⟨rfl,rfl,a1,a2,a3,a4⟩;have a4:n+1≤of+0:=a4;exact out la of a1 a2 a3 (.inl (by omega))
  ·rintro x k ⟨r,la,of⟩ st' ⟨rfl,rfl,a1,a2,a3,a4⟩;have a4:n+1≤of+(k+1):=a4;dsimp only;by_cases hge:of≥n-hint
   ·rw[if_pos hge];exact ag ⟨rfl,out la of a1 a2 a3 (.inl hge)⟩
   ·rw[if_neg hge];refine ω (ask (by omega) ?_);dsimp only;cases hb:B (hint+of) with
    |true=>
     rw[if_neg (by decide)];exact ag ⟨rfl,rfl,rfl,by show of<2*of+1;omega,by show hint+of<n;omega,hb,by show n+1≤2*of+1+k;omega⟩
    |false=>
     rw[if_pos (by decide)];exact ag ⟨rfl,out la of a1 a2 a3 (.inr ⟨by omega,hb⟩)⟩
 |false=>
  rw[if_neg af];refine ω (dQ ?_);have out:∀la of,la<of->la≤hint->B (hint-la)=false->(hint+1≤of∨(of≤hint/\B (hint-of)=true))->kasC (model prog w) A E (xY left key arr base n (hint+1-min of (hint+1)) (hint-la)) Q st s:=by
   intro la of h1 h2 h3 h4;refine fin _ _ (by omega) (by omega) (λi hi=>?_) (λi hi lg=>noB _ i hi lg h3);rcases h4 with h4|⟨h4,h5⟩
   ·omega
   ·exact anti i (hint-of) (by omega) (by omega) h5
  refine pf (λk (b:Option (Option Nat)×Nat×Nat) st'=>st'=st/\b.1=none/\b.2.1<b.2.2/\b.2.1≤hint/\B (hint-b.2.1)=false/\n+1≤b.2.2+k) ?_ ?_ _ _ _ ⟨rfl,rfl,by decide,ar _,(show B (hint-0)=false from hB),by rw[bU];show n+1≤1+(n-0);omega⟩
  ·rintro⟨r,la,of⟩ st' ⟨rfl,rfl,a1,a2,a3,a4⟩;have a4:n+1≤of+0:=a4;exact out la of a1 a2 a3 (.inl (by omega))
  ·rintro x k ⟨r,la,of⟩ st' ⟨rfl,rfl,a1,a2,a3,a4⟩;have a4:n+1≤of+(k+1):=a4;by_cases hge:of≥hint+1
   ·rw[if_pos hge];exact ag ⟨rfl,out la of a1 a2 a3 (.inl hge)⟩
   ·rw[if_neg hge];refine ω (ask (by omega) ?_);dsimp only;cases hb:B (hint-of) with
    |true=>
     rw[if_pos rfl];exact ag ⟨rfl,out la of a1 a2 a3 (.inr ⟨by omega,hb⟩)⟩
    |false=>
     rw[if_neg af];exact ag ⟨rfl,rfl,rfl,by show of<2*of+1;omega,by show of≤hint;omega,hb,by show n+1≤2*of+1+k;omega⟩
end
def eS:Nat->SM Unit:=sortPriv% PySem.Builtin.setMinGallop
theorem uD(g:Nat):eS g=modify λs=>rV (kindOf s) (arrOf s) (pendingOf s) g (failedOf s):=rfl
def rL:Array ο->Array ο->SM (Array ο):=sortPriv% PySem.Builtin.mergeLo
def gW(a b out:Array ο)(ia ib:Nat):Array ο:=out++a.extract ia a.size++b.extract ib b.size
def mw(a b out:Array ο)(ia ib:Nat):Array ο:=out++b.extract ib b.size++a.extract ia a.size
theorem yo(a b:Array ο):rL a b=(do
 rule "list.sort.merge-lo"
 let total:=a.size+b.size
 let mut out:Array ο:=#[←elem' b 0]
 let mut ia:=0
 let mut ib:=1
 if ib==b.size then return gW a b out ia ib
 if ia+1==a.size then return mw a b out ia ib
 let mut minGallop:=gallopOf (←get)
 for _ in [0:total] do
  let mut acount:=0
  let mut bcount:=0
  for _ in [0:total] do
   let some bWins ←lt' (←elem' b ib) (←elem' a ia)|return gW a b out ia ib
   if bWins then
    out:=out.push (←elem' b ib);ib:=ib+1;bcount:=bcount+1;acount:=0
    if ib==b.size then return gW a b out ia ib
    if bcount≥minGallop then break
   else
    out:=out.push (←elem' a ia);ia:=ia+1;acount:=acount+1;bcount:=0
    if ia+1==a.size then return mw a b out ia ib
    if acount≥minGallop then break
  rule "list.sort.gallop"
  minGallop:=minGallop+1
  for _ in [0:total] do
   if minGallop > 1 then minGallop:=minGallop-1
   eS minGallop
   let some k ←hZ false (←elem' b ib) a ia (a.size-ia) 0|return gW a b out ia ib
   acount:=k
   if k > 0 then
    out:=out++a.extract ia (ia+k);ia:=ia+k
    if ia+1==a.size then return mw a b out ia ib
    if ia==a.size then return gW a b out ia ib
   out:=out.push (←elem' b ib);ib:=ib+1
   if ib==b.size then return gW a b out ia ib
   let some k ←hZ true (←elem' a ia) b ib (b.size-ib) 0|return gW a b out ia ib
   bcount:=k
   if k > 0 then
    out:=out++b.extract ib (ib+k);ib:=ib+k
    if ib==b.size then return gW a b out ia ib
   out:=out.push (←elem' a ia);ia:=ia+1
   if ia+1==a.size then return mw a b out ia ib
   if acount<7&&bcount<7 then break
  minGallop:=minGallop+1
  eS minGallop
 unsupported "internal:list.sort.merge-bound"):=rfl
section
variable {L:ο->ο->Bool} {al bl:List ο}
abbrev Le(L:ο->ο->Bool)(x y:ο):Prop:=L y x=false
structure iR(L:ο->ο->Bool):Prop where
 om:∀x y,L x y=true->L y x=false
 iX:∀x y z,Le L x y->Le L y z->Le L x z
structure MI(L:ο->ο->Bool)(al bl out:List ο)(ia ib:Nat):Prop where
 perm:(out++(al.drop ia++bl.drop ib)).Perm (al++bl)
 e6:out.Pairwise (Le L)
 low:∀x∈out,∀y∈al.drop ia++bl.drop ib,Le L x y
theorem Hw(xs:List ο)(i k:Nat):xs.drop i=(xs.drop i).take k++xs.drop (i+k):=by
 rw[←kR];exact (a0 k (xs.drop i)).symm
theorem MI.u7(h:MI L al bl out ia ib)(hs:al.Pairwise (Le L))(k:Nat)(hx:∀x∈(al.drop ia).take k,∀y∈bl.drop ib,Le L x y):MI L al bl (out++(al.drop ia).take k) (ia+k) ib:=by
 have e:=Hw al ia k;have hs':(al.drop ia).Pairwise (Le L):=hs.sublist (fZ _ _);rw[e,Ξ] at hs';refine⟨?_,?_,λx hx' y hy=>?_⟩
 ·have:=h.perm;rw[e] at this;simpa [Δ] using this
 ·rw[Ξ];refine⟨h.e6,hs'.1,λx hx' y hy=>h.low x hx' y (aD _ (cf hy))⟩
 ·rcases aa.mp hx' with z|z
  ·refine h.low x z y ?_;rw[e];rcases aa.mp hy with z2|z2
   ·exact aD _ (aj _ z2)
   ·exact aj _ z2
  ·rcases aa.mp hy with z2|z2
   ·exact hs'.2.2 x z y z2
   ·exact hx x z y z2
theorem MI.u6(h:MI L al bl out ia ib)(hs:bl.Pairwise (Le L))(k:Nat)(hx:∀x∈(bl.drop ib).take k,∀y∈al.drop ia,Le L x y):MI L al bl (out++(bl.drop ib).take k) ia (ib+k):=by
 have e:=Hw bl ib k;have hs':(bl.drop ib).Pairwise (Le L):=hs.sublist (fZ _ _);rw[e,Ξ] at hs';refine⟨?_,?_,λx hx' y hy=>?_⟩
 ·refine cT ?_ h.perm;have e2:=congrArg (al.drop ia++·) e;rw[e2,Δ];refine cm _ ?_;rw[←Δ,←Δ];exact cC _ jn
 ·rw[Ξ];refine⟨h.e6,hs'.1,λx hx' y hy=>h.low x hx' y (aj _ (cf hy))⟩
 ·rcases aa.mp hx' with z|z
  ·refine h.low x z y ?_;rw[e];rcases aa.mp hy with z2|z2
   ·exact aD _ z2
   ·exact aj _ (aj _ z2)
  ·rcases aa.mp hy with z2|z2
   ·exact hx x z y z2
   ·exact hs'.2.2 x z y z2
def Res(L:ο->ο->Bool)(al bl r:List ο):Prop:=r.Perm (al++bl)/\r.Pairwise (Le L)
theorem MI.done(h:MI L al bl out ia ib)(ha:al.Pairwise (Le L))(hb:bl.Pairwise (Le L))(he:al.length≤ia∨bl.length≤ib):Res L al bl (out++al.drop ia++bl.drop ib):=by
 refine⟨by have:=h.perm;rwa [←Δ] at this,?_⟩;have h1:(al.drop ia++bl.drop ib).Pairwise (Le L):=by
  rcases he with he|he
  ·rw[fB he,br];exact hb.sublist (fZ _ _)
  ·rw[fB he,bC];exact ha.sublist (fZ _ _)
 rw[Δ,Ξ];exact⟨h.e6,h1,h.low⟩
theorem MI.last(O:iR L)(h:MI L al bl out ia ib)(hb:bl.Pairwise (Le L))(he:al.drop ia=[z])(hz:∀y∈bl,L y z=true):Res L al bl (out++bl.drop ib++al.drop ia):=by
 refine⟨cT ?_ h.perm,?_⟩
 ·rw[Δ];exact cm _ jn
 ·rw[Δ,Ξ];refine⟨h.e6,?_,λx hx y hy=>h.low x hx y ?_⟩
  ·rw[he,Ξ];refine⟨hb.sublist (fZ _ _),bE _ _,λx hx y hy=>?_⟩;rw[ah.mp hy];exact O.om _ _ (hz x (cg hx))
  ·rcases aa.mp hy with q|q
   ·exact aj _ q
   ·exact aD _ q
end
abbrev GS:=Option (Array ο)×Array ο×Nat×Nat×Nat×Nat×Nat
abbrev MS:=Option (Array ο)×Array ο×Nat×Nat×Nat×Nat
abbrev HS:=Option (Array ο)×Array ο×Nat×Nat×Nat
def lo1(a b:Array ο)(mg:Nat)(t:MS):SM (ForInStep MS):=do
 let x ←elem' b t.2.2.2.1
 let y ←elem' a t.2.2.1
 let r ←lt' x y
 match r with
 |some bWins=>
  if bWins=true then do
   let x ←elem' b t.2.2.2.1
   if (t.2.2.2.1+1==b.size)=true then pure (.done (some (gW a b (t.2.1.push x) t.2.2.1 (t.2.2.2.1+1)),t.2.1.push x,t.2.2.1,t.2.2.2.1+1,0,t.2.2.2.2.2+1))
   else if t.2.2.2.2.2+1≥mg then pure (.done (none,t.2.1.push x,t.2.2.1,t.2.2.2.1+1,0,t.2.2.2.2.2+1))
   else pure (.yield (none,t.2.1.push x,t.2.2.1,t.2.2.2.1+1,0,t.2.2.2.2.2+1))
  else do
   let y ←elem' a t.2.2.1
   if (t.2.2.1+1+1==a.size)=true then pure (.done (some (mw a b (t.2.1.push y) (t.2.2.1+1) t.2.2.2.1),t.2.1.push y,t.2.2.1+1,t.2.2.2.1,t.2.2.2.2.1+1,0))
   else if t.2.2.2.2.1+1≥mg then pure (.done (none,t.2.1.push y,t.2.2.1+1,t.2.2.2.1,t.2.2.2.2.1+1,0))
   else pure (.yield (none,t.2.1.push y,t.2.2.1+1,t.2.2.2.1,t.2.2.2.2.1+1,0))
 |_=>pure (.done (some (gW a b t.2.1 t.2.2.1 t.2.2.2.1),t.2.1,t.2.2.1,t.2.2.2.1,t.2.2.2.2.1,t.2.2.2.2.2))
def JE(a b out:Array ο)(ia ib mg ac bc:Nat):SM (ForInStep GS):=do
 let y ←elem' a ia
 if (ia+1+1==a.size)=true then pure (.done (some (mw a b (out.push y) (ia+1) ib),out.push y,ia+1,ib,mg,ac,bc))
 else if (decide (ac<7)&&decide (bc<7))=true then pure (.done (none,out.push y,ia+1,ib,mg,ac,bc))
 else pure (.yield (none,out.push y,ia+1,ib,mg,ac,bc))
def JF(a b out:Array ο)(ia ib mg ac bc0:Nat):SM (ForInStep GS):=do
 let x ←elem' b ib
 if (ib+1==b.size)=true then pure (.done (some (gW a b (out.push x) ia (ib+1)),out.push x,ia,ib+1,mg,ac,bc0))
 else do
  let y ←elem' a ia
  let r ←hZ true y b (ib+1) (b.size-(ib+1)) 0
  match r with
  |some k=>
   if k > 0 then
    if (ib+1+k==b.size)=true then pure (.done (some (gW a b (out.push x++b.extract (ib+1) (ib+1+k)) ia (ib+1+k)),out.push x++b.extract (ib+1) (ib+1+k),ia,ib+1+k,mg,ac,k))
    else JE a b (out.push x++b.extract (ib+1) (ib+1+k)) ia (ib+1+k) mg ac k
   else JE a b (out.push x) ia (ib+1) mg ac k
  |_=>pure (.done (some (gW a b (out.push x) ia (ib+1)),out.push x,ia,ib+1,mg,ac,bc0))
def xQ(a b:Array ο)(mg:Nat)(t:GS):SM (ForInStep GS):=do
 eS mg
 let x ←elem' b t.2.2.2.1
 let r ←hZ false x a t.2.2.1 (a.size-t.2.2.1) 0
 match r with
 |some k=>
  if k > 0 then
   if (t.2.2.1+k+1==a.size)=true then pure (.done (some (mw a b (t.2.1++a.extract t.2.2.1 (t.2.2.1+k)) (t.2.2.1+k) t.2.2.2.1),t.2.1++a.extract t.2.2.1 (t.2.2.1+k),t.2.2.1+k,t.2.2.2.1,mg,k,t.2.2.2.2.2.2))
   else if (t.2.2.1+k==a.size)=true then pure (.done (some (gW a b (t.2.1++a.extract t.2.2.1 (t.2.2.1+k)) (t.2.2.1+k) t.2.2.2.1),t.2.1++a.extract t.2.2.1 (t.2.2.1+k),t.2.2.1+k,t.2.2.2.1,mg,k,t.2.2.2.2.2.2))
   else JF a b (t.2.1++a.extract t.2.2.1 (t.2.2.1+k)) (t.2.2.1+k) t.2.2.2.1 mg k t.2.2.2.2.2.2
  else JF a b t.2.1 t.2.2.1 t.2.2.2.1 mg k t.2.2.2.2.2.2
 |_=>pure (.done (some (gW a b t.2.1 t.2.2.1 t.2.2.2.1),t.2.1,t.2.2.1,t.2.2.2.1,mg,t.2.2.2.2.2.1,t.2.2.2.2.2.2))
def JG(a b:Array ο)(u:HS):SM (ForInStep HS):=do
 let t ←forIn [0:a.size+b.size] ((none,u.2.1,u.2.2.1,u.2.2.2.1,0,0):MS) λ_ t=>lo1 a b u.2.2.2.2 t
 match t.1 with
 |some r=>pure (.done (some r,t.2.1,t.2.2.1,t.2.2.2.1,u.2.2.2.2))
 |none=>do
  liftM (rule "list.sort.gallop")
  let v ←forIn [0:a.size+b.size] ((none,t.2.1,t.2.2.1,t.2.2.2.1,u.2.2.2.2+1,t.2.2.2.2.1,t.2.2.2.2.2):GS) λ_ v=>
   if v.2.2.2.2.1 > 1 then xQ a b (v.2.2.2.2.1-1) v else xQ a b v.2.2.2.2.1 v
  match v.1 with
  |some r=>pure (.done (some r,v.2.1,v.2.2.1,v.2.2.2.1,v.2.2.2.2.1))
  |none=>do
   eS (v.2.2.2.2.1+1)
   pure (.yield (none,v.2.1,v.2.2.1,v.2.2.2.1,v.2.2.2.2.1+1))
theorem fF{f':α->SM β}(h:m=m')(h2:∀a,f a=f' a):m >>= f=m' >>= f':=by
 rw[h,funext h2]
theorem qw{f':Nat->β->SM (ForInStep β)}(h:∀x t,f x t=f' x t):(forIn [0:n] b f:SM β)=forIn [0:n] b f':=by
 rw[funext λx=>funext (h x)]
theorem v9(a b:Array ο):rL a b=(do
 liftM (rule "list.sort.merge-lo")
 let x ←elem' b 0
 if (1==b.size)=true then pure (gW a b #[x] 0 1)
 else if (0+1==a.size)=true then pure (mw a b #[x] 0 1)
 else do
  let g ←get
  let u ←forIn [0:a.size+b.size] ((none,#[x],0,1,gallopOf g):HS) λ_ u=>JG a b u
  match u.1 with
  |some r=>pure r
  | none=>unsupported "internal:list.sort.merge-bound"):=by
 rw[yo]
 refine congrArg (λz=>(liftM (rule "list.sort.merge-lo"):SM Unit) >>= z) (funext λ_=>(congrArg (λz=>elem' b 0 >>= z) (funext λx=>(congrArg (λz=>if (1==b.size)=true then _ else z) (congrArg (λz=>if (0+1==a.size)=true then _ else z) (congrArg (λz=>(get:SM bS) >>= z) (funext λg=>(fF (qw λ_ u=>(fF (qw λ_ t=>?_) (λt=>?_))) (λu=>by obtain⟨r,u⟩:=u;cases r<;>rfl)))))))))
 ·rfl
 obtain⟨r,t⟩:=t
 cases r with
 |some r=>rfl
 |none=>
  refine fF rfl λ_=>fF (qw λ_ v=>?_) (λv=>?_)
  ·by_cases h:v.2.2.2.2.1 > 1
   ·rw[if_pos h,if_pos h]
    refine fF rfl λ_=>fF rfl λx=>fF rfl λr=>?_
    cases r with
    |none=>rfl
    |some k=>
     dsimp only
     by_cases h1:k > 0
     ·rw[if_pos h1,if_pos h1]
      rfl
     ·rw[if_neg h1,if_neg h1]
      rfl
   ·rw[if_neg h,if_neg h]
    refine fF rfl λ_=>fF rfl λx=>fF rfl λr=>?_
    cases r with
    |none=>rfl
    |some k=>
     dsimp only
     by_cases h1:k > 0
     ·rw[if_pos h1,if_pos h1]
      rfl
     ·rw[if_neg h1,if_neg h1]
      rfl
  ·obtain⟨r,v⟩:=v
   cases r<;>rfl
section
variable {prog:ao} {w:aC} {A:aQ} {E:ζ->η->Prop} {κ:dR} {s:η} {Ok:ο->Prop} {L:ο->ο->Bool} {st:bS}
def sl(arr:Array ο)(base n:Nat):List ο:=(arr.toList.drop base).take n
theorem Rb(h:base+n≤arr.size):(sl arr base n).length=n:=by
 unfold sl;rw[aZ,aX,aK];lia
theorem Ra(hi:i<n):(sl arr base n)[i]?=arr[base+i]?:=by
 unfold sl;rw[eK hi,dM,ak]
theorem iR.xU(O:iR L)(x:ο):L x x=false:=by
 cases h:L x x with
 |false=>rfl
 |true=>
  have:=O.om x x h;rw[h] at this;cases this
theorem pw_get{xs:List ο}(h:xs.Pairwise (Le L))(O:iR L){j:Nat}(hij:i≤j)(hx:xs[i]?=some x)(hy:xs[j]?=some y):Le L x y:=by
 obtain⟨h1,rfl⟩:=Γ.mp hx;obtain⟨h2,rfl⟩:=Γ.mp hy;rcases Nat.lt_or_eq_of_le hij with q|q
 ·exact bW.mp h i j h1 h2 q
 ·subst q;exact O.xU _
theorem vN(C:kx prog w A κ s Ok L)(O:iR L)(hk:kindOf st=κ)(hn:hint<n)(hz:base+n≤arr.size)(hy:Ok key)(bX:∀x∈sl arr base n,Ok x)(hs:(sl arr base n).Pairwise (Le L))
  (q:∀k,k≤n->(∀z∈(sl arr base n).take k,uR L left key z=true)->(∀z∈(sl arr base n).drop k,uR L left key z=false)->Q (some k) st s):kasC (model prog w) A E (hZ left key arr base n hint) Q st s:=by
 have hl:=Rb hz;have get:∀i,i<n->∃x,arr[base+i]?=some x/\(sl arr base n)[i]?=some x/\x∈sl arr base n:=λi hi=>by
  have h1:i<(sl arr base n).length:=by lia
  have h2:=Θ h1;exact⟨_,by rw[←Ra hi];exact h2,h2,lT h1⟩
 refine Rc C hk (λi=>((sl arr base n)[i]?).any (uR L left key)) hn hy (λi hi=>?_) (λi j hij hj hb=>?_) λk bd=>?_
 ·obtain⟨x,e1,e2,hm⟩:=get i hi;exact⟨x,e1,bX x hm,by rw[e2];rfl⟩
 ·obtain⟨x,_,e2,hm⟩:=get i (by lia);obtain⟨y,_,e3,hm2⟩:=get j hj;rw[e3] at hb;rw[e2];show uR L left key x=true;have hxy:=pw_get hs O hij e2 e3;unfold uR at hb ⊢;cases left with
  |true=>
   have hb:L y key=true:=hb;cases h:L x key with
   |true=>rfl
   |false=>
    have:=O.iX key x y h hxy;have this:L y key=false:=this;rw[hb] at this;cases this
  |false=>
   have hb:(!(L key y))=true:=hb;show (!(L key x))=true;rw[gb] at hb ⊢;exact O.iX x y key hxy hb
 ·refine q k bd.le (λz hz'=>?_) λz hz'=>?_
  ·obtain⟨i,hi,e⟩:=ft hz';rw[aZ] at hi;have h1:=bd.lo i (by lia);have e2:(sl arr base n)[i]?=some z:=by
    have:=Θ (l:=(sl arr base n).take k) (i:=i) (by rw[aZ];lia);rw[e,eK (by lia)] at this;exact this
   rw[e2] at h1;exact h1
  ·obtain⟨i,hi,e⟩:=ft hz';rw[aX] at hi;have h1:=bd.hi (k+i) (by lia) (by lia);have e2:(sl arr base n)[k+i]?=some z:=by
    have:=Θ (l:=(sl arr base n).drop k) (i:=i) (by rw[aX];lia);rw[e,dM] at this;exact this
   rw[e2] at h1;exact h1
def eW(st st':bS):Prop:=kindOf st'=kindOf st/\arrOf st'=arrOf st/\pendingOf st'=pendingOf st/\failedOf st'=failedOf st
theorem eW.rf:eW st st:=⟨rfl,rfl,rfl,rfl⟩
theorem eW.tr(h:eW s1 s2)(h':eW s2 s3):eW s1 s3:=⟨h'.1.trans h.1,h'.2.1.trans h.2.1,h'.2.2.1.trans h.2.2.1,h'.2.2.2.trans h.2.2.2⟩
theorem zG(h:∀st',eW st st'->Q () st' s):kasC (model prog w) A E (eS g) Q st s:=by
 rw[uD];exact hU (h _ ⟨rfl,rfl,rfl,rfl⟩)
structure MH(prog:ao)(w:aC)(A:aQ)(κ:dR)(s:η)(Ok:ο->Prop)(L:ο->ο->Bool)(a b:Array ο):Prop where
 C:kx prog w A κ s Ok L
 O:iR L
 oa:∀x∈a.toList,Ok x
 ob:∀x∈b.toList,Ok x
 sa:a.toList.Pairwise (Le L)
 sb:b.toList.Pairwise (Le L)
theorem sV{a:Array ο}(h:i<a.size):∃x,a[i]?=some x/\a.toList.drop i=x::a.toList.drop (i+1)/\x∈a.toList:=by
 have h':i<a.toList.length:=by rw[aK];exact h
 refine⟨a[i],cN h,?_,?_⟩
 ·rw[dz h',sd]
 ·exact g9.mpr (ug h)
theorem uK(O:iR L)(h:xs.Pairwise (Le L))(e:xs=x::ys):∀z∈xs,Le L x z:=by
 subst e;intro z hz;rcases Ψ.mp hz with rfl|hz
 ·exact O.xU _
 ·exact (dm.mp h).1 z hz
theorem zF{x:ο}(e:xs=x::ys):xs.take 1=[x]:=by
 subst e;rfl
theorem xE(a:Array ο)(i j:Nat):(a.extract i j).toList=(a.toList.drop i).take (j-i):=by
 rw[r9,List.extract_eq_drop_take]
theorem zE(a:Array ο)(i:Nat):(a.extract i a.size).toList=a.toList.drop i:=by
 rw[xE,cP];rw[aX,aK];exact ρ _
theorem Q9(a b out:Array ο)(ia ib:Nat):(gW a b out ia ib).toList=out.toList++a.toList.drop ia++b.toList.drop ib:=by
 unfold gW;rw[c6,c6,zE,zE]
theorem Q8(a b out:Array ο)(ia ib:Nat):(mw a b out ia ib).toList=out.toList++b.toList.drop ib++a.toList.drop ia:=by
 unfold mw;rw[c6,c6,zE,zE]
variable{a b:Array ο}
def rem(a b:Array ο)(ia ib:Nat):Nat:=(a.size-ia)+(b.size-ib)
def qh(L:ο->ο->Bool)(a b out:Array ο)(ia ib:Nat):Prop:=ia+1<a.size/\ib<b.size/\MI L a.toList b.toList out.toList ia ib
def PR(L:ο->ο->Bool)(a b:Array ο)(R0:Nat)(r:Option (Array ο))(out:Array ο)(ia ib:Nat):Prop:=match r with
 |some res=>Res L a.toList b.toList res.toList
 |none=>qh L a b out ia ib/\rem a b ia ib<R0
def oJ(L:ο->ο->Bool)(a b:Array ο):Prop:=∀z,a[a.size-1]?=some z->∀y∈b.toList,L y z=true
theorem xD(H:MH prog w A κ s Ok L a b)(h:MI L a.toList b.toList out.toList ia ib)(he:a.size≤ia∨b.size≤ib):Res L a.toList b.toList (gW a b out ia ib).toList:=by
 rw[Q9];exact h.done H.sa H.sb (by rw[aK,aK];exact he)
theorem zD(H:MH prog w A κ s Ok L a b)(hL:oJ L a b)(h:MI L a.toList b.toList out.toList ia ib)(he:ia+1=a.size):Res L a.toList b.toList (mw a b out ia ib).toList:=by
 rw[Q8];obtain⟨x,e1,e2,_⟩:=sV (a:=a) (i:=ia) (by lia);have e3:a.toList.drop (ia+1)=[]:=fB (by rw[aK];lia);rw[e3] at e2;exact h.last H.O H.sb e2 (hL x (by rw[show a.size-1=ia by lia];exact e1))
theorem zB(out:Array ο)(x:ο):(out.push x).toList=out.toList++[x]:=k7
theorem AK(H:MH prog w A κ s Ok L a b){out:Array ο}(h:MI L a.toList b.toList out.toList ia ib)(e:a.toList.drop ia=y::a.toList.drop (ia+1))(hx:∀z∈b.toList.drop ib,Le L y z):MI L a.toList b.toList (out.push y).toList (ia+1) ib:=by
 have:=h.u7 H.sa 1 (by rw[zF e];intro x hx';rw[ah.mp hx'];exact hx);rw[zF e] at this;rwa [zB]
theorem xK(H:MH prog w A κ s Ok L a b){out:Array ο}(h:MI L a.toList b.toList out.toList ia ib)(e:b.toList.drop ib=x::b.toList.drop (ib+1))(hx:∀z∈a.toList.drop ia,Le L x z):MI L a.toList b.toList (out.push x).toList ia (ib+1):=by
 have:=h.u6 H.sb 1 (by rw[zF e];intro z hz;rw[ah.mp hz];exact hx);rw[zF e] at this;rwa [zB]
theorem uJ{xs:List ο}(h:xs.Pairwise (Le L))(i:Nat):(xs.drop i).Pairwise (Le L):=h.sublist (fZ _ _)
def PMs(L:ο->ο->Bool)(a b:Array ο)(R0:Nat)(r:ForInStep MS):Prop:=match r with
 |.done v=>PR L a b R0 v.1 v.2.1 v.2.2.1 v.2.2.2.1
 |.yield v=>v.1=none/\PR L a b R0 none v.2.1 v.2.2.1 v.2.2.2.1
theorem Q7(H:MH prog w A κ s Ok L a b)(hL:oJ L a b)(hk:kindOf st=κ)(h:qh L a b out ia ib):
  kasC (model prog w) A E (lo1 a b mg (none,out,ia,ib,ac,bc)) (λr st' s'=>s'=s/\st'=st/\PMs L a b (rem a b ia ib) r) st s:=by
 obtain⟨h1,h2,h3⟩:=h;obtain⟨x,ex,dx,mx⟩:=sV h2;obtain⟨y,ey,dy,my⟩:=sV (a:=a) (i:=ia) (by lia);refine ω (ki ex (ω (ki ey (ω (wR H.C hk (H.ob x mx) (H.oa y my) ?_)))));dsimp only;cases hl:L x y with
 |true=>
  rw[if_pos rfl];have h4:=xK H h3 dx λz hz=>H.O.iX x y z (H.O.om _ _ hl) (uK H.O (uJ H.sa ia) dy z hz);refine ω (ki ex ?_);by_cases e:(ib+1==b.size)=true
  ·rw[if_pos e];rw[beq_iff_eq] at e;exact ag ⟨rfl,rfl,xD H h4 (.inr (by lia))⟩
  ·rw[if_neg e];have pr:PR L a b (rem a b ia ib) none (out.push x) ia (ib+1):=⟨⟨h1,by lia,h4⟩,by unfold rem;lia⟩;by_cases g:bc+1≥mg
   ·rw[if_pos g];exact ag ⟨rfl,rfl,pr⟩
   ·rw[if_neg g];exact ag ⟨rfl,rfl,rfl,pr⟩
 |false=>
  rw[if_neg af];have h4:=AK H h3 dy λz hz=>H.O.iX y x z hl (uK H.O (uJ H.sb ib) dx z hz);refine ω (ki ey ?_);by_cases e:(ia+1+1==a.size)=true
  ·rw[if_pos e];rw[beq_iff_eq] at e;exact ag ⟨rfl,rfl,zD H hL h4 e⟩
  ·rw[if_neg e];have pr:PR L a b (rem a b ia ib) none (out.push y) (ia+1) ib:=⟨⟨by lia,h2,h4⟩,by unfold rem;lia⟩;by_cases g:ac+1≥mg
   ·rw[if_pos g];exact ag ⟨rfl,rfl,pr⟩
   ·rw[if_neg g];exact ag ⟨rfl,rfl,rfl,pr⟩
def pC(L:ο->ο->Bool)(a b:Array ο)(R0:Nat)(r:ForInStep GS):Prop:=match r with
 |.done v=>PR L a b R0 v.1 v.2.1 v.2.2.1 v.2.2.2.1
 |.yield v=>v.1=none/\PR L a b R0 none v.2.1 v.2.2.1 v.2.2.2.1
theorem Hu(H:MH prog w A κ s Ok L a b)(hL:oJ L a b)(h:qh L a b out ia ib)(hr:rem a b ia ib≤R0)(ey:a[ia]?=some y)(hy:∀z∈b.toList.drop ib,Le L y z):
  kasC (model prog w) A E (JE a b out ia ib mg ac bc) (λr st' s'=>s'=s/\st'=st/\pC L a b R0 r) st s:=by
 obtain⟨h1,h2,h3⟩:=h;obtain⟨y',ey',dy,my⟩:=sV (a:=a) (i:=ia) (by lia);rw[ey] at ey';cases ey';have h4:=AK H h3 dy hy;unfold rem at hr;refine ω (ki ey ?_);by_cases e:(ia+1+1==a.size)=true
 ·rw[if_pos e];rw[beq_iff_eq] at e;exact ag ⟨rfl,rfl,zD H hL h4 e⟩
 ·rw[if_neg e];have pr:PR L a b R0 none (out.push y) (ia+1) ib:=⟨⟨by lia,h2,h4⟩,by unfold rem;lia⟩;by_cases g:(decide (ac<7)&&decide (bc<7))=true
  ·rw[if_pos g];exact ag ⟨rfl,rfl,pr⟩
  ·rw[if_neg g];exact ag ⟨rfl,rfl,rfl,pr⟩
theorem vM(arr:Array ο)(i:Nat):sl arr i (arr.size-i)=arr.toList.drop i:=by
 unfold sl;rw[cP];rw[aX,aK];exact ρ _
theorem Ij(out arr:Array ο)(i k:Nat):(out++arr.extract i (i+k)).toList=out.toList++(arr.toList.drop i).take k:=by
 rw[c6,xE,show i+k-i=k by lia]
theorem Ii(H:MH prog w A κ s Ok L a b)(hL:oJ L a b)(hk:kindOf st=κ)(h:qh L a b out ia ib)(hr:rem a b ia ib≤R0)(ex:b[ib]?=some x)(hx:∀z∈a.toList.drop ia,Le L x z):
  kasC (model prog w) A E (JF a b out ia ib mg ac bc) (λr st' s'=>s'=s/\st'=st/\pC L a b R0 r) st s:=by
 obtain⟨h1,h2,h3⟩:=h;obtain⟨x',ex',dx,mx⟩:=sV h2;rw[ex] at ex';cases ex';obtain⟨y,ey,dy,my⟩:=sV (a:=a) (i:=ia) (by lia);have h4:=xK H h3 dx hx;unfold rem at hr;refine ω (ki ex ?_);by_cases e:(ib+1==b.size)=true
 ·rw[if_pos e];rw[beq_iff_eq] at e;exact ag ⟨rfl,rfl,xD H h4 (.inr (by lia))⟩
 rw[if_neg e];refine ω (ki ey (ω (vN H.C H.O hk (by lia) (by lia) (H.oa y my) (λz hz=>?_) ?_ λk hkn k1 k2=>?_)))
 ·rw[vM] at hz;exact H.ob z (cg hz)
 ·rw[vM];exact uJ H.sb _
 rw[vM] at k1 k2;rw[kR] at k2;dsimp only;by_cases hk0:k > 0
 ·rw[if_pos hk0];have h5:MI L a.toList b.toList (out.push x++b.extract (ib+1) (ib+1+k)).toList ia (ib+1+k):=by
   rw[Ij];exact h4.u6 H.sb k λz hz y' hy'=>H.O.iX z y y' (H.O.om _ _ (k1 z hz)) (uK H.O (uJ H.sa ia) dy y' hy')
  by_cases e2:(ib+1+k==b.size)=true
  ·rw[if_pos e2];rw[beq_iff_eq] at e2;exact ag ⟨rfl,rfl,xD H h5 (.inr (by lia))⟩
  ·rw[if_neg e2];exact Hu H hL ⟨h1,by lia,h5⟩ (by unfold rem;lia) ey λz hz=>k2 z hz
 ·rw[if_neg hk0];have k0:k=0:=by lia
  subst k0;exact Hu H hL ⟨h1,by lia,h4⟩ (by unfold rem;lia) ey λz hz=>k2 z hz
theorem Q6(H:MH prog w A κ s Ok L a b)(hL:oJ L a b)(hk:kindOf st=κ)(h:qh L a b out ia ib):
  kasC (model prog w) A E (xQ a b mg (none,out,ia,ib,m0,ac,bc)) (λr st' s'=>s'=s/\eW st st'/\pC L a b (rem a b ia ib) r) st s:=by
 obtain⟨h1,h2,h3⟩:=h;obtain⟨x,ex,dx,mx⟩:=sV h2;unfold xQ;dsimp only;refine ω (zG λst' sm=>?_);have hk':=sm.1.trans hk;have back:∀{m:SM (ForInStep GS)},kasC (model prog w) A E m (λr st'' s'=>s'=s/\st''=st'/\pC L a b (rem a b ia ib) r) st' s->kasC (model prog w) A E m (λr st'' s'=>s'=s/\eW st st''/\pC L a b (rem a b ia ib) r) st' s:=λhm=>se hm λr st'' s' zz=>by obtain⟨z1,z2,z3⟩:=zz;exact⟨z1,by rw[z2];exact sm,z3⟩
 refine ω (ki ex (ω (vN H.C H.O hk' (by lia) (by lia) (H.ob x mx) (λz hz=>?_) ?_ λk hkn k1 k2=>?_)))
 ·rw[vM] at hz;exact H.oa z (cg hz)
 ·rw[vM];exact uJ H.sa _
 rw[vM] at k1 k2;rw[kR] at k2;have k1':=λz hz=>by
  have:(!(L x z))=true:=k1 z hz;rwa [gb] at this
 have k2':=λz hz=>by
  have:(!(L x z))=false:=k2 z hz;rw[kK] at this;exact H.O.om _ _ this
 dsimp only;by_cases hk0:k > 0
 ·rw[if_pos hk0];have h5:MI L a.toList b.toList (out++a.extract ia (ia+k)).toList (ia+k) ib:=by
   rw[Ij];exact h3.u7 H.sa k λz hz y' hy'=>H.O.iX z x y' (k1' z hz) (uK H.O (uJ H.sb ib) dx y' hy')
  by_cases e:(ia+k+1==a.size)=true
  ·rw[if_pos e];rw[beq_iff_eq] at e;exact ag ⟨rfl,sm,zD H hL h5 e⟩
  rw[if_neg e];by_cases e2:(ia+k==a.size)=true
  ·rw[if_pos e2];rw[beq_iff_eq] at e2;exact ag ⟨rfl,sm,xD H h5 (.inl (by lia))⟩
  rw[if_neg e2];exact back (Ii H hL hk' ⟨by lia,h2,h5⟩ (by unfold rem;lia) ex k2')
 ·rw[if_neg hk0];have k0:k=0:=by lia
  subst k0;exact back (Ii H hL hk' ⟨h1,h2,h3⟩ (ρ _) ex k2')
def PHs(L:ο->ο->Bool)(a b:Array ο)(R0:Nat)(r:ForInStep HS):Prop:=match r with
 |.done v=>∃res,v.1=some res/\Res L a.toList b.toList res.toList
 |.yield v=>v.1=none/\qh L a b v.2.1 v.2.2.1 v.2.2.2.1/\rem a b v.2.2.1 v.2.2.2.1<R0
theorem Q5(H:MH prog w A κ s Ok L a b)(hL:oJ L a b)(hk:kindOf st=κ)(h:qh L a b out ia ib):
  kasC (model prog w) A E (JG a b (none,out,ia,ib,mg)) (λr st' s'=>s'=s/\eW st st'/\PHs L a b (rem a b ia ib) r) st s:=by
 unfold JG;dsimp only;have hr0:rem a b ia ib≤a.size+b.size:=by unfold rem;lia
 refine ω (dQ (pf (λk (t:MS) st'=>st'=st/\t.1=none/\qh L a b t.2.1 t.2.2.1 t.2.2.2.1/\rem a b t.2.2.1 t.2.2.2.1≤k/\rem a b t.2.2.1 t.2.2.2.1≤rem a b ia ib) ?_ ?_ _ _ _ ⟨rfl,rfl,h,by rw[bU];exact hr0,ρ _⟩))
 ·rintro⟨r,out,ia,ib,ac,bc⟩ st' ⟨rfl,rfl,h',hr,_⟩;obtain⟨h1,h2,_⟩:=h';unfold rem at hr;lia
 rintro x k ⟨r,o1,i1,j1,ac,bc⟩ st' ⟨rfl,rfl,h',hr,hr2⟩;refine se (Q7 H hL hk h') ?_;rintro r st'' s'' ⟨rfl,rfl,hp⟩;refine⟨rfl,?_⟩;cases r with
 |yield v=>
  obtain⟨v1,v2⟩:=hp;have v2:qh L a b v.2.1 v.2.2.1 v.2.2.2.1/\rem a b v.2.2.1 v.2.2.2.1<rem a b i1 j1:=v2;exact⟨rfl,v1,v2.1,by lia,by lia⟩
 |done v=>
  obtain⟨r,o2,i2,j2,ac2,bc2⟩:=v;cases r with
  |some res=>exact ag ⟨rfl,eW.rf,res,rfl,hp⟩
  |none=>
   have hp:qh L a b o2 i2 j2/\rem a b i2 j2<rem a b i1 j1:=hp;refine ω (l7 (eX (ω (dQ ?_))));have hr3:rem a b i2 j2≤a.size+b.size:=by lia
   refine pf (λk (t:GS) st3=>eW st'' st3/\t.1=none/\qh L a b t.2.1 t.2.2.1 t.2.2.2.1/\rem a b t.2.2.1 t.2.2.2.1≤k/\rem a b t.2.2.1 t.2.2.2.1≤rem a b i2 j2) ?_ ?_ _ _ _ ⟨eW.rf,rfl,hp.1,by rw[bU];exact hr3,ρ _⟩
   ·rintro⟨r,out,i3,j3,m3,ac,bc⟩ st3 ⟨_,rfl,h',hr,_⟩;obtain⟨h1,h2,_⟩:=h';unfold rem at hr;lia
   rintro x k ⟨r,o3,i3,j3,m3,ac3,bc3⟩ st3 ⟨sm3,rfl,h',hr,hr2'⟩;have hk3:=sm3.1.trans hk;have go:∀m,kasC (model prog w) A E (xQ a b m (none,o3,i3,j3,m3,ac3,bc3)) (λr st' s'=>s'=s''/\eW st3 st'/\pC L a b (rem a b i3 j3) r) st3 s'':=λm=>Q6 H hL hk3 h';have both:kasC (model prog w) A E (if m3 > 1 then xQ a b (m3-1) (none,o3,i3,j3,m3,ac3,bc3) else xQ a b m3 (none,o3,i3,j3,m3,ac3,bc3)) (λr st' s'=>s'=s''/\eW st3 st'/\pC L a b (rem a b i3 j3) r) st3 s'':=by
    by_cases g:m3 > 1
    ·rw[if_pos g];exact go _
    ·rw[if_neg g];exact go _
   refine se both ?_;rintro r st4 s4 ⟨rfl,sm4,hp4⟩;refine⟨rfl,?_⟩;cases r with
   |yield v=>
    obtain⟨v1,v2⟩:=hp4;have v2:qh L a b v.2.1 v.2.2.1 v.2.2.2.1/\rem a b v.2.2.1 v.2.2.2.1<rem a b i3 j3:=v2;exact⟨sm3.tr sm4,v1,v2.1,by lia,by lia⟩
   |done v=>
    obtain⟨r,o5,i5,j5,m5,ac5,bc5⟩:=v;cases r with
    |some res=>exact ag ⟨rfl,sm3.tr sm4,res,rfl,hp4⟩
    |none=>
     have hp4:qh L a b o5 i5 j5/\rem a b i5 j5<rem a b i3 j3:=hp4;exact ω (zG λst5 sm5=>ag ⟨rfl,(sm3.tr sm4).tr sm5,rfl,hp4.1,by lia⟩)
theorem Q4(H:MH prog w A κ s Ok L a b)(hL:oJ L a b)(hk:kindOf st=κ)(ha:0<a.size)(ex:b[0]?=some x)(ey:a[0]?=some y)(hxy:L x y=true)
  (q:∀res st',eW st st'->Res L a.toList b.toList res.toList->Q res st' s):kasC (model prog w) A E (rL a b) Q st s:=by
 have hb:=(bf.mp ex).1;obtain⟨x',ex',dx,mx⟩:=sV hb;rw[ex] at ex';cases ex';obtain⟨y',ey',dy,my⟩:=sV ha;rw[ey] at ey';cases ey';have h0:MI L a.toList b.toList (#[]:Array ο).toList 0 0:=⟨by simp,gS,λz hz=>absurd hz (by simp)⟩;have h1:MI L a.toList b.toList (#[x]:Array ο).toList 0 1:=by
  have:=xK H h0 dx λz hz=>H.O.iX x y z (H.O.om _ _ hxy) (uK H.O (uJ H.sa 0) dy z hz);exact this
 rw[v9];refine ω (l7 (eX (ω (ki ex ?_))));by_cases e:(1==b.size)=true
 ·rw[if_pos e];rw[beq_iff_eq] at e;exact ag (q _ _ eW.rf (xD H h1 (.inr (by lia))))
 rw[if_neg e];by_cases e2:(0+1==a.size)=true
 ·rw[if_pos e2];rw[beq_iff_eq] at e2;exact ag (q _ _ eW.rf (zD H hL h1 e2))
 rw[if_neg e2];refine ω (jD (ω (dQ (pf (λk (t:HS) st'=>eW st st'/\t.1=none/\qh L a b t.2.1 t.2.2.1 t.2.2.2.1/\rem a b t.2.2.1 t.2.2.2.1≤k) ?_ ?_ _ _ _ ⟨eW.rf,rfl,⟨by lia,by lia,h1⟩,by rw[bU];show rem a b 0 1≤a.size+b.size-0;unfold rem;lia⟩))))
 ·rintro⟨r,out,ia,ib,m⟩ st' ⟨_,rfl,h',hr⟩;obtain⟨h1,h2,_⟩:=h';unfold rem at hr;lia
 ·rintro z k ⟨r,out,ia,ib,m⟩ st' ⟨sm,rfl,h',hr⟩;refine se (Q5 H hL (sm.1.trans hk) h') ?_;rintro r st'' s'' ⟨rfl,sm2,hp⟩;refine⟨rfl,?_⟩;cases r with
  |yield v=>
   obtain⟨v1,v2,v3⟩:=hp;exact⟨sm.tr sm2,v1,v2,by lia⟩
  |done v=>
   obtain⟨r,v⟩:=v;obtain⟨res,e,hres⟩:=hp;subst e;exact ag (q res st'' (sm.tr sm2) hres)
end
def rM:Array ο->Array ο->SM (Array ο):=sortPriv% PySem.Builtin.mergeHi
def gV(a b out:Array ο)(na nb:Nat):Array ο:=a.extract 0 na++b.extract 0 nb++out.reverse
def kq(a b out:Array ο)(na nb:Nat):Array ο:=b.extract 0 nb++a.extract 0 na++out.reverse
theorem yp(a b:Array ο):rM a b=(do
 rule "list.sort.merge-hi"
 let total:=a.size+b.size
 let mut na:=a.size-1
 let mut nb:=b.size
 let mut out:Array ο:=#[←elem' a na]
 if na==0 then return gV a b out na nb
 if nb==1 then return kq a b out na nb
 let mut minGallop:=gallopOf (←get)
 for _ in [0:total] do
  let mut acount:=0
  let mut bcount:=0
  for _ in [0:total] do
   let some aWins ←lt' (←elem' b (nb-1)) (←elem' a (na-1))|return gV a b out na nb
   if aWins then
    na:=na-1;out:=out.push (←elem' a na);acount:=acount+1;bcount:=0
    if na==0 then return gV a b out na nb
    if acount≥minGallop then break
   else
    nb:=nb-1;out:=out.push (←elem' b nb);bcount:=bcount+1;acount:=0
    if nb==1 then return kq a b out na nb
    if bcount≥minGallop then break
  rule "list.sort.gallop"
  minGallop:=minGallop+1
  for _ in [0:total] do
   if minGallop > 1 then minGallop:=minGallop-1
   eS minGallop
   let some at_ ←hZ false (←elem' b (nb-1)) a 0 na (na-1)|return gV a b out na nb
   let k:=na-at_
   acount:=k
   if k > 0 then
    out:=out++(a.extract at_ na).reverse;na:=at_
    if na==0 then return gV a b out na nb
   nb:=nb-1;out:=out.push (←elem' b nb)
   if nb==1 then return kq a b out na nb
   let some at_ ←hZ true (←elem' a (na-1)) b 0 nb (nb-1)|return gV a b out na nb
   let k:=nb-at_
   bcount:=k
   if k > 0 then
    out:=out++(b.extract at_ nb).reverse;nb:=at_
    if nb==1 then return kq a b out na nb
    if nb==0 then return gV a b out na nb
   na:=na-1;out:=out.push (←elem' a na)
   if na==0 then return gV a b out na nb
   if acount<7&&bcount<7 then break
  minGallop:=minGallop+1
  eS minGallop
 unsupported "internal:list.sort.merge-bound"):=rfl
abbrev GT:=Option (Array ο)×Nat×Nat×Array ο×Nat×Nat×Nat
abbrev MT:=Option (Array ο)×Nat×Nat×Array ο×Nat×Nat
abbrev HT:=Option (Array ο)×Nat×Nat×Array ο×Nat
def AX(a b:Array ο)(mg:Nat)(t:MT):SM (ForInStep MT):=do
 let x ←elem' b (t.2.2.1-1)
 let y ←elem' a (t.2.1-1)
 let r ←lt' x y
 match r with
 |some aWins=>
  if aWins=true then do
   let y ←elem' a (t.2.1-1)
   if (t.2.1-1==0)=true then pure (.done (some (gV a b (t.2.2.2.1.push y) (t.2.1-1) t.2.2.1),t.2.1-1,t.2.2.1,t.2.2.2.1.push y,t.2.2.2.2.1+1,0))
   else if t.2.2.2.2.1+1≥mg then pure (.done (none,t.2.1-1,t.2.2.1,t.2.2.2.1.push y,t.2.2.2.2.1+1,0))
   else pure (.yield (none,t.2.1-1,t.2.2.1,t.2.2.2.1.push y,t.2.2.2.2.1+1,0))
  else do
   let x ←elem' b (t.2.2.1-1)
   if (t.2.2.1-1==1)=true then pure (.done (some (kq a b (t.2.2.2.1.push x) t.2.1 (t.2.2.1-1)),t.2.1,t.2.2.1-1,t.2.2.2.1.push x,0,t.2.2.2.2.2+1))
   else if t.2.2.2.2.2+1≥mg then pure (.done (none,t.2.1,t.2.2.1-1,t.2.2.2.1.push x,0,t.2.2.2.2.2+1))
   else pure (.yield (none,t.2.1,t.2.2.1-1,t.2.2.2.1.push x,0,t.2.2.2.2.2+1))
 |_=>pure (.done (some (gV a b t.2.2.2.1 t.2.1 t.2.2.1),t.2.1,t.2.2.1,t.2.2.2.1,t.2.2.2.2.1,t.2.2.2.2.2))
def JM(a b out:Array ο)(na nb mg ac bc:Nat):SM (ForInStep GT):=do
 let y ←elem' a (na-1)
 if (na-1==0)=true then pure (.done (some (gV a b (out.push y) (na-1) nb),na-1,nb,out.push y,mg,ac,bc))
 else if (decide (ac<7)&&decide (bc<7))=true then pure (.done (none,na-1,nb,out.push y,mg,ac,bc))
 else pure (.yield (none,na-1,nb,out.push y,mg,ac,bc))
def JN(a b out:Array ο)(na nb mg ac bc0:Nat):SM (ForInStep GT):=do
 let x ←elem' b (nb-1)
 if (nb-1==1)=true then pure (.done (some (kq a b (out.push x) na (nb-1)),na,nb-1,out.push x,mg,ac,bc0))
 else do
  let y ←elem' a (na-1)
  let r ←hZ true y b 0 (nb-1) (nb-1-1)
  match r with
  |some at_=>
   if nb-1-at_ > 0 then
    if (at_==1)=true then pure (.done (some (kq a b (out.push x++(b.extract at_ (nb-1)).reverse) na at_),na,at_,out.push x++(b.extract at_ (nb-1)).reverse,mg,ac,nb-1-at_))
    else if (at_==0)=true then pure (.done (some (gV a b (out.push x++(b.extract at_ (nb-1)).reverse) na at_),na,at_,out.push x++(b.extract at_ (nb-1)).reverse,mg,ac,nb-1-at_))
    else JM a b (out.push x++(b.extract at_ (nb-1)).reverse) na at_ mg ac (nb-1-at_)
   else JM a b (out.push x) na (nb-1) mg ac (nb-1-at_)
  |_=>pure (.done (some (gV a b (out.push x) na (nb-1)),na,nb-1,out.push x,mg,ac,bc0))
def lg(a b:Array ο)(mg:Nat)(t:GT):SM (ForInStep GT):=do
 eS mg
 let x ←elem' b (t.2.2.1-1)
 let r ←hZ false x a 0 t.2.1 (t.2.1-1)
 match r with
 |some at_=>
  if t.2.1-at_ > 0 then
   if (at_==0)=true then pure (.done (some (gV a b (t.2.2.2.1++(a.extract at_ t.2.1).reverse) at_ t.2.2.1),at_,t.2.2.1,t.2.2.2.1++(a.extract at_ t.2.1).reverse,mg,t.2.1-at_,t.2.2.2.2.2.2))
   else JN a b (t.2.2.2.1++(a.extract at_ t.2.1).reverse) at_ t.2.2.1 mg (t.2.1-at_) t.2.2.2.2.2.2
  else JN a b t.2.2.2.1 t.2.1 t.2.2.1 mg (t.2.1-at_) t.2.2.2.2.2.2
 |_=>pure (.done (some (gV a b t.2.2.2.1 t.2.1 t.2.2.1),t.2.1,t.2.2.1,t.2.2.2.1,mg,t.2.2.2.2.2.1,t.2.2.2.2.2.2))
def JO(a b:Array ο)(u:HT):SM (ForInStep HT):=do
 let t ←forIn [0:a.size+b.size] ((none,u.2.1,u.2.2.1,u.2.2.2.1,0,0):MT) λ_ t=>AX a b u.2.2.2.2 t
 match t.1 with
 |some r=>pure (.done (some r,t.2.1,t.2.2.1,t.2.2.2.1,u.2.2.2.2))
 |none=>do
  liftM (rule "list.sort.gallop")
  let v ←forIn [0:a.size+b.size] ((none,t.2.1,t.2.2.1,t.2.2.2.1,u.2.2.2.2+1,t.2.2.2.2.1,t.2.2.2.2.2):GT) λ_ v=>
   if v.2.2.2.2.1 > 1 then lg a b (v.2.2.2.2.1-1) v else lg a b v.2.2.2.2.1 v
  match v.1 with
  |some r=>pure (.done (some r,v.2.1,v.2.2.1,v.2.2.2.1,v.2.2.2.2.1))
  |none=>do
   eS (v.2.2.2.2.1+1)
   pure (.yield (none,v.2.1,v.2.2.1,v.2.2.2.1,v.2.2.2.2.1+1))
theorem wa(a b:Array ο):rM a b=(do
 liftM (rule "list.sort.merge-hi")
 let y ←elem' a (a.size-1)
 if (a.size-1==0)=true then pure (gV a b #[y] (a.size-1) b.size)
 else if (b.size==1)=true then pure (kq a b #[y] (a.size-1) b.size)
 else do
  let g ←get
  let u ←forIn [0:a.size+b.size] ((none,a.size-1,b.size,#[y],gallopOf g):HT) λ_ u=>JO a b u
  match u.1 with
  |some r=>pure r
  | none=>unsupported "internal:list.sort.merge-bound"):=by
 rw[yp]
 refine congrArg (λz=>(liftM (rule "list.sort.merge-hi"):SM Unit) >>= z) (funext λ_=>(congrArg (λz=>elem' a (a.size-1) >>= z) (funext λx=>(congrArg (λz=>if (a.size-1==0)=true then _ else z) (congrArg (λz=>if (b.size==1)=true then _ else z) (congrArg (λz=>(get:SM bS) >>= z) (funext λg=>(fF (qw λ_ u=>(fF (qw λ_ t=>?_) (λt=>?_))) (λu=>by obtain⟨r,u⟩:=u;cases r<;>rfl)))))))))
 ·rfl
 obtain⟨r,t⟩:=t
 cases r with
 |some r=>rfl
 |none=>
  refine fF rfl λ_=>fF (qw λ_ v=>?_) (λv=>?_)
  ·by_cases h:v.2.2.2.2.1 > 1
   ·rw[if_pos h,if_pos h]
    refine fF rfl λ_=>fF rfl λx=>fF rfl λr=>?_
    cases r with
    |none=>rfl
    |some k=>
     dsimp only
     by_cases h1:v.2.1-k > 0
     ·rw[if_pos h1,if_pos h1]
      rfl
     ·rw[if_neg h1,if_neg h1]
      rfl
   ·rw[if_neg h,if_neg h]
    refine fF rfl λ_=>fF rfl λx=>fF rfl λr=>?_
    cases r with
    |none=>rfl
    |some k=>
     dsimp only
     by_cases h1:v.2.1-k > 0
     ·rw[if_pos h1,if_pos h1]
      rfl
     ·rw[if_neg h1,if_neg h1]
      rfl
  ·obtain⟨r,v⟩:=v
   cases r<;>rfl
section
variable {L:ο->ο->Bool} {al bl:List ο}
structure MJ(L:ο->ο->Bool)(al bl out:List ο)(na nb:Nat):Prop where
 perm:(al.take na++(bl.take nb++out.reverse)).Perm (al++bl)
 e6:out.Pairwise λx y=>Le L y x
 hi:∀x∈al.take na++bl.take nb,∀y∈out,Le L x y
theorem Ih(xs:List ο){i n:Nat}(h:i≤n):xs.take n=xs.take i++(xs.take n).drop i:=by
 have:=a0 i (xs.take n);rw[rk,iJ h] at this;exact this.symm
theorem MJ.u7{out:List ο}{na nb:Nat}(h:MJ L al bl out na nb)(hs:al.Pairwise (Le L)){i:Nat}(hi:i≤na)(hx:∀z∈(al.take na).drop i,∀x∈bl.take nb,Le L x z):MJ L al bl (out++((al.take na).drop i).reverse) i nb:=by
 have e:=Ih al hi;have hs':(al.take na).Pairwise (Le L):=hs.sublist (ee _ _);rw[e,Ξ] at hs';refine⟨?_,?_,λx hx' y hy=>?_⟩
 ·refine cT ?_ h.perm;have e2:al.take na++(bl.take nb++out.reverse)=al.take i++((al.take na).drop i++(bl.take nb++out.reverse)):=
   (congrArg (· ++ (bl.take nb++out.reverse)) e).trans (Δ _ _ _)
  rw[e2,sx,rX];refine cm _ ?_;rw[←Δ,←Δ];exact cC _ jn
 ·rw[Ξ];refine⟨h.e6,?_,λx hx' y hy=>h.hi y (aD _ (cg (gj.mp hy))) x hx'⟩;rw[fJ];exact hs'.2.1
 ·rcases aa.mp hy with z|z
  ·refine h.hi x ?_ y z;rcases aa.mp hx' with z2|z2
   ·rw[e];exact aD _ (aD _ z2)
   ·exact aj _ z2
  ·have z:=gj.mp z;rcases aa.mp hx' with z2|z2
   ·exact hs'.2.2 x z2 y z
   ·exact hx y z x z2
theorem MJ.u6{out:List ο}{na nb:Nat}(h:MJ L al bl out na nb)(hs:bl.Pairwise (Le L)){i:Nat}(hi:i≤nb)(hx:∀z∈(bl.take nb).drop i,∀x∈al.take na,Le L x z):MJ L al bl (out++((bl.take nb).drop i).reverse) na i:=by
 have e:=Ih bl hi;have hs':(bl.take nb).Pairwise (Le L):=hs.sublist (ee _ _);rw[e,Ξ] at hs';refine⟨?_,?_,λx hx' y hy=>?_⟩
 ·refine cT (vH ?_) h.perm;have e2:bl.take nb++out.reverse=bl.take i++((bl.take nb).drop i++out.reverse):=
   (congrArg (· ++ out.reverse) e).trans (Δ _ _ _)
  rw[e2,sx,rX]
 ·rw[Ξ];refine⟨h.e6,?_,λx hx' y hy=>h.hi y (aj _ (cg (gj.mp hy))) x hx'⟩;rw[fJ];exact hs'.2.1
 ·rcases aa.mp hy with z|z
  ·refine h.hi x ?_ y z;rcases aa.mp hx' with z2|z2
   ·exact aD _ z2
   ·rw[e];exact aj _ (aD _ z2)
  ·have z:=gj.mp z;rcases aa.mp hx' with z2|z2
   ·exact hx y z x z2
   ·exact hs'.2.2 x z2 y z
theorem Ig{out:List ο}(h:out.Pairwise λx y=>Le L y x):out.reverse.Pairwise (Le L):=by
 rwa [fJ]
theorem MJ.done{out:List ο}{na nb:Nat}(h:MJ L al bl out na nb)(ha:al.Pairwise (Le L))(hb:bl.Pairwise (Le L))(he:na=0∨nb=0):Res L al bl (al.take na++bl.take nb++out.reverse):=by
 refine⟨by have:=h.perm;rwa [←Δ] at this,?_⟩;have h1:(al.take na++bl.take nb).Pairwise (Le L):=by
  rcases he with rfl|rfl
  ·rw[kQ,br];exact hb.sublist (ee _ _)
  ·rw[kQ,bC];exact ha.sublist (ee _ _)
 rw[Ξ];exact⟨h1,Ig h.e6,λx hx y hy=>h.hi x hx y (gj.mp hy)⟩
theorem MJ.first{out:List ο}{na nb:Nat}(h:MJ L al bl out na nb)(ha:al.Pairwise (Le L)){z:ο}(he:bl.take nb=[z])(hz:∀x∈al,Le L z x):Res L al bl (bl.take nb++al.take na++out.reverse):=by
 refine⟨cT ?_ h.perm,?_⟩
 ·rw[←Δ];exact cC _ jn
 ·rw[Ξ];refine⟨?_,Ig h.e6,λx hx y hy=>h.hi x ?_ y (gj.mp hy)⟩
  ·rw[he,Ξ];refine⟨bE _ _,ha.sublist (ee _ _),λx hx y hy=>?_⟩;rw[ah.mp hx];exact hz y (cf hy)
  ·rcases aa.mp hx with q|q
   ·exact aj _ q
   ·exact aD _ q
variable{prog:ao}{w:aC}{A:aQ}{E:ζ->η->Prop}{κ:dR}{s:η}{Ok:ο->Prop}{st:bS}{a b:Array ο}
theorem Ao(a:Array ο)(n:Nat):(a.extract 0 n).toList=a.toList.take n:=by
 rw[xE,m6,tJ]
theorem Q2(a b out:Array ο)(na nb:Nat):(gV a b out na nb).toList=a.toList.take na++b.toList.take nb++out.toList.reverse:=by
 unfold gV;rw[c6,c6,Ao,Ao,mO]
theorem Q1(a b out:Array ο)(na nb:Nat):(kq a b out na nb).toList=b.toList.take nb++a.toList.take na++out.toList.reverse:=by
 unfold kq;rw[c6,c6,Ao,Ao,mO]
def qg(L:ο->ο->Bool)(a b out:Array ο)(na nb:Nat):Prop:=(0<na/\na≤a.size)/\(1<nb/\nb≤b.size)/\MJ L a.toList b.toList out.toList na nb
def PJ(L:ο->ο->Bool)(a b:Array ο)(R0:Nat)(r:Option (Array ο))(out:Array ο)(na nb:Nat):Prop:=match r with
 |some res=>Res L a.toList b.toList res.toList
 |none=>qg L a b out na nb/\na+nb<R0
def pD(L:ο->ο->Bool)(a b:Array ο):Prop:=∀z,b[0]?=some z->∀x∈a.toList,Le L z x
theorem xC(H:MH prog w A κ s Ok L a b){out:Array ο}{na nb:Nat}(h:MJ L a.toList b.toList out.toList na nb)(he:na=0∨nb=0):Res L a.toList b.toList (gV a b out na nb).toList:=by
 rw[Q2];exact h.done H.sa H.sb he
theorem zA(H:MH prog w A κ s Ok L a b)(hF:pD L a b){out:Array ο}{na nb:Nat}(h:MJ L a.toList b.toList out.toList na nb)(he:nb=1)(hb:0<b.size):Res L a.toList b.toList (kq a b out na nb).toList:=by
 rw[Q1];obtain⟨x,e1,e2,_⟩:=sV hb;subst he;rw[m6] at e2;refine h.first H.sa (z:=x) ?_ (hF x e1)
 rw[e2];rfl
theorem uI{a:Array ο}{n:Nat}(h0:0<n)(hn:n≤a.size):∃x,a[n-1]?=some x/\(a.toList.take n).drop (n-1)=[x]/\x∈a.toList/\∀z∈a.toList.take n,∃i,i≤n-1/\a.toList[i]?=some z:=by
 have h':n-1<a.toList.length:=by rw[aK];lia
 refine⟨a[n-1],cN (by lia),?_,g9.mpr (ug _),λz hz=>?_⟩
 ·rw[List.drop_take,show n-(n-1)=1 by lia,dz h',sd];rfl
 ·obtain⟨i,hi,e⟩:=ft hz;rw[aZ] at hi;refine⟨i,by lia,?_⟩;have:=Θ (l:=a.toList.take n) (i:=i) (by rw[aZ];lia);rw[e,eK (by lia)] at this;exact this
theorem zy(O:iR L){a:Array ο}(hs:a.toList.Pairwise (Le L)){n:Nat}{x:ο}(ex:a[n-1]?=some x)(hm:∀z∈a.toList.take n,∃i,i≤n-1/\a.toList[i]?=some z):∀z∈a.toList.take n,Le L z x:=λz hz=>by
 obtain⟨i,hi,e⟩:=hm z hz;exact pw_get hs O hi e (by rw[ak];exact ex)
theorem wd(H:MH prog w A κ s Ok L a b){out:Array ο}{na nb:Nat}{y:ο}(h:MJ L a.toList b.toList out.toList na nb)(h0:0<na)(e:(a.toList.take na).drop (na-1)=[y])(hx:∀z∈b.toList.take nb,Le L z y):MJ L a.toList b.toList (out.push y).toList (na-1) nb:=by
 have:=h.u7 H.sa (i:=na-1) (by lia) (by rw[e];intro z hz x hx';rw[ah.mp hz];exact hx x hx');rw[e] at this;rwa [zB]
theorem yI(H:MH prog w A κ s Ok L a b){out:Array ο}{na nb:Nat}{x:ο}(h:MJ L a.toList b.toList out.toList na nb)(h0:0<nb)(e:(b.toList.take nb).drop (nb-1)=[x])(hx:∀z∈a.toList.take na,Le L z x):MJ L a.toList b.toList (out.push x).toList na (nb-1):=by
 have:=h.u6 H.sb (i:=nb-1) (by lia) (by rw[e];intro z hz y hy;rw[ah.mp hz];exact hx y hy);rw[e] at this;rwa [zB]
def PMt(L:ο->ο->Bool)(a b:Array ο)(R0:Nat)(r:ForInStep MT):Prop:=match r with
 |.done v=>PJ L a b R0 v.1 v.2.2.2.1 v.2.1 v.2.2.1
 |.yield v=>v.1=none/\PJ L a b R0 none v.2.2.2.1 v.2.1 v.2.2.1
theorem Q0(H:MH prog w A κ s Ok L a b)(hF:pD L a b)(hk:kindOf st=κ){mg ac bc na nb:Nat}{out:Array ο}(h:qg L a b out na nb):
  kasC (model prog w) A E (AX a b mg (none,na,nb,out,ac,bc)) (λr st' s'=>s'=s/\st'=st/\PMt L a b (na+nb) r) st s:=by
 obtain⟨h1,h2,h3⟩:=h;obtain⟨x,ex,dx,mx,lx⟩:=uI (a:=b) (n:=nb) (by lia) h2.2;obtain⟨y,ey,dy,my,ly⟩:=uI h1.1 h1.2;refine ω (ki ex (ω (ki ey (ω (wR H.C hk (H.ob x mx) (H.oa y my) ?_)))));dsimp only;cases hl:L x y with
 |true=>
  rw[if_pos rfl];have h4:=wd H h3 h1.1 dy λz hz=>H.O.iX z x y (zy H.O H.sb ex lx z hz) (H.O.om _ _ hl);refine ω (ki ey ?_);by_cases e:(na-1==0)=true
  ·rw[if_pos e];rw[beq_iff_eq] at e;exact ag ⟨rfl,rfl,xC H h4 (.inl e)⟩
  ·rw[if_neg e];have pr:PJ L a b (na+nb) none (out.push y) (na-1) nb:=⟨⟨⟨by lia,by lia⟩,h2,h4⟩,by lia⟩;by_cases g:ac+1≥mg
   ·rw[if_pos g];exact ag ⟨rfl,rfl,pr⟩
   ·rw[if_neg g];exact ag ⟨rfl,rfl,rfl,pr⟩
 |false=>
  rw[if_neg af];have h4:=yI H h3 (by lia) dx λz hz=>H.O.iX z y x (zy H.O H.sa ey ly z hz) hl;refine ω (ki ex ?_);by_cases e:(nb-1==1)=true
  ·rw[if_pos e];rw[beq_iff_eq] at e;exact ag ⟨rfl,rfl,zA H hF h4 e (by lia)⟩
  ·rw[if_neg e];have pr:PJ L a b (na+nb) none (out.push x) na (nb-1):=⟨⟨h1,⟨by lia,by lia⟩,h4⟩,by lia⟩;by_cases g:bc+1≥mg
   ·rw[if_pos g];exact ag ⟨rfl,rfl,pr⟩
   ·rw[if_neg g];exact ag ⟨rfl,rfl,rfl,pr⟩
def yi(L:ο->ο->Bool)(a b:Array ο)(R0:Nat)(r:ForInStep GT):Prop:=match r with
 |.done v=>PJ L a b R0 v.1 v.2.2.2.1 v.2.1 v.2.2.1
 |.yield v=>v.1=none/\PJ L a b R0 none v.2.2.2.1 v.2.1 v.2.2.1
theorem Ie(H:MH prog w A κ s Ok L a b){R0 mg ac bc na nb:Nat}{out:Array ο}{y:ο}(h:qg L a b out na nb)(hr:na+nb≤R0)(ey:a[na-1]?=some y)(hy:∀z∈b.toList.take nb,Le L z y):
  kasC (model prog w) A E (JM a b out na nb mg ac bc) (λr st' s'=>s'=s/\st'=st/\yi L a b R0 r) st s:=by
 obtain⟨h1,h2,h3⟩:=h;obtain⟨y',ey',dy,my,ly⟩:=uI h1.1 h1.2;rw[ey] at ey';cases ey';have h4:=wd H h3 h1.1 dy hy;refine ω (ki ey ?_);by_cases e:(na-1==0)=true
 ·rw[if_pos e];rw[beq_iff_eq] at e;exact ag ⟨rfl,rfl,xC H h4 (.inl e)⟩
 ·rw[if_neg e];have pr:PJ L a b R0 none (out.push y) (na-1) nb:=⟨⟨⟨by lia,by lia⟩,h2,h4⟩,by lia⟩;by_cases g:(decide (ac<7)&&decide (bc<7))=true
  ·rw[if_pos g];exact ag ⟨rfl,rfl,pr⟩
  ·rw[if_neg g];exact ag ⟨rfl,rfl,rfl,pr⟩
theorem vJ(arr:Array ο)(n:Nat):sl arr 0 n=arr.toList.take n:=by
 unfold sl;rw[m6]
theorem Ic(out arr:Array ο)(i n:Nat):(out++(arr.extract i n).reverse).toList=out.toList++((arr.toList.take n).drop i).reverse:=by
 rw[c6,mO,xE,List.drop_take]
theorem Ib{xs:List ο}(h:xs.Pairwise (Le L))(i:Nat):(xs.take i).Pairwise (Le L):=h.sublist (ee _ _)
theorem Ia(H:MH prog w A κ s Ok L a b)(hF:pD L a b)(hk:kindOf st=κ){R0 mg ac bc na nb:Nat}{out:Array ο}{x:ο}(h:qg L a b out na nb)(hr:na+nb≤R0)(ex:b[nb-1]?=some x)(hx:∀z∈a.toList.take na,Le L z x):
  kasC (model prog w) A E (JN a b out na nb mg ac bc) (λr st' s'=>s'=s/\st'=st/\yi L a b R0 r) st s:=by
 obtain⟨h1,h2,h3⟩:=h;obtain⟨x',ex',dx,mx,lx⟩:=uI (a:=b) (n:=nb) (by lia) h2.2;rw[ex] at ex';cases ex';obtain⟨y,ey,dy,my,ly⟩:=uI h1.1 h1.2;have h4:=yI H h3 (by lia) dx hx;refine ω (ki ex ?_);by_cases e:(nb-1==1)=true
 ·rw[if_pos e];rw[beq_iff_eq] at e;exact ag ⟨rfl,rfl,zA H hF h4 e (by lia)⟩
 rw[if_neg e];refine ω (ki ey (ω (vN H.C H.O hk (by lia) (by lia) (H.oa y my) (λz hz=>?_) ?_ λk hkn k1 k2=>?_)))
 ·rw[vJ] at hz;exact H.ob z (cf hz)
 ·rw[vJ];exact Ib H.sb _
 rw[vJ] at k1 k2;rw[rk,iJ hkn] at k1;have k1':=λz hz=>H.O.om _ _ (k1 z hz);have k2':=λz hz=>k2 z hz;dsimp only;by_cases hk0:nb-1-k > 0
 ·rw[if_pos hk0];have h5:MJ L a.toList b.toList (out.push x++(b.extract k (nb-1)).reverse).toList na k:=by
   rw[Ic];exact h4.u6 H.sb (by lia) λz hz y' hy'=>H.O.iX y' y z (zy H.O H.sa ey ly y' hy') (k2' z hz)
  by_cases e2:(k==1)=true
  ·rw[if_pos e2];rw[beq_iff_eq] at e2;exact ag ⟨rfl,rfl,zA H hF h5 e2 (by lia)⟩
  rw[if_neg e2];by_cases e3:(k==0)=true
  ·rw[if_pos e3];rw[beq_iff_eq] at e3;exact ag ⟨rfl,rfl,xC H h5 (.inr e3)⟩
  rw[if_neg e3];exact Ie H ⟨h1,⟨by lia,by lia⟩,h5⟩ (by lia) ey k1'
 ·rw[if_neg hk0];have k0:k=nb-1:=by lia
  subst k0;exact Ie H ⟨h1,⟨by lia,by lia⟩,h4⟩ (by lia) ey k1'
theorem QZ(H:MH prog w A κ s Ok L a b)(hF:pD L a b)(hk:kindOf st=κ){mg m0 ac bc na nb:Nat}{out:Array ο}(h:qg L a b out na nb):
  kasC (model prog w) A E (lg a b mg (none,na,nb,out,m0,ac,bc)) (λr st' s'=>s'=s/\eW st st'/\yi L a b (na+nb) r) st s:=by
 obtain⟨h1,h2,h3⟩:=h;obtain⟨x,ex,dx,mx,lx⟩:=uI (a:=b) (n:=nb) (by lia) h2.2;unfold lg;dsimp only;refine ω (zG λst' sm=>?_);have hk':=sm.1.trans hk;have back:∀{m:SM (ForInStep GT)},kasC (model prog w) A E m (λr st'' s'=>s'=s/\st''=st'/\yi L a b (na+nb) r) st' s->kasC (model prog w) A E m (λr st'' s'=>s'=s/\eW st st''/\yi L a b (na+nb) r) st' s:=λhm=>se hm λr st'' s' zz=>by obtain⟨z1,z2,z3⟩:=zz;exact⟨z1,by rw[z2];exact sm,z3⟩
 refine ω (ki ex (ω (vN H.C H.O hk' (by lia) (by lia) (H.ob x mx) (λz hz=>?_) ?_ λk hkn k1 k2=>?_)))
 ·rw[vJ] at hz;exact H.oa z (cf hz)
 ·rw[vJ];exact Ib H.sa _
 rw[vJ] at k1 k2;rw[rk,iJ hkn] at k1;have k1':=λz hz=>by
  have:(!(L x z))=true:=k1 z hz;rwa [gb] at this
 have k2':=λz hz=>by
  have:(!(L x z))=false:=k2 z hz;rw[kK] at this;exact H.O.om _ _ this
 dsimp only;by_cases hk0:na-k > 0
 ·rw[if_pos hk0];have h5:MJ L a.toList b.toList (out++(a.extract k na).reverse).toList k nb:=by
   rw[Ic];exact h3.u7 H.sa (by lia) λz hz y' hy'=>H.O.iX y' x z (zy H.O H.sb ex lx y' hy') (k2' z hz)
  by_cases e:(k==0)=true
  ·rw[if_pos e];rw[beq_iff_eq] at e;exact ag ⟨rfl,sm,xC H h5 (.inl e)⟩
  rw[if_neg e];exact back (Ia H hF hk' ⟨⟨by lia,by lia⟩,h2,h5⟩ (by lia) ex k1')
 ·rw[if_neg hk0];have k0:k=na:=by lia
  subst k0;exact back (Ia H hF hk' ⟨h1,h2,h3⟩ (ρ _) ex k1')
def PHt(L:ο->ο->Bool)(a b:Array ο)(R0:Nat)(r:ForInStep HT):Prop:=match r with
 |.done v=>∃res,v.1=some res/\Res L a.toList b.toList res.toList
 |.yield v=>v.1=none/\qg L a b v.2.2.2.1 v.2.1 v.2.2.1/\v.2.1+v.2.2.1<R0
theorem QY(H:MH prog w A κ s Ok L a b)(hF:pD L a b)(hk:kindOf st=κ){mg na nb:Nat}{out:Array ο}(h:qg L a b out na nb):
  kasC (model prog w) A E (JO a b (none,na,nb,out,mg)) (λr st' s'=>s'=s/\eW st st'/\PHt L a b (na+nb) r) st s:=by
 unfold JO;dsimp only;have hr0:na+nb≤a.size+b.size:=by
  have:=h.1.2;have:=h.2.1.2;lia
 refine ω (dQ (pf (λk (t:MT) st'=>st'=st/\t.1=none/\qg L a b t.2.2.2.1 t.2.1 t.2.2.1/\t.2.1+t.2.2.1≤k/\t.2.1+t.2.2.1≤na+nb) ?_ ?_ _ _ _ ⟨rfl,rfl,h,by rw[bU];exact hr0,ρ _⟩))
 ·rintro⟨r,na,nb,out,ac,bc⟩ st' ⟨rfl,rfl,h',hr,_⟩;have h1:=h'.1.1;lia
 rintro x k ⟨r,i1,j1,o1,ac,bc⟩ st' ⟨rfl,rfl,h',hr,hr2⟩;refine se (Q0 H hF hk h') ?_;rintro r st'' s'' ⟨rfl,rfl,hp⟩;refine⟨rfl,?_⟩;cases r with
 |yield v=>
  obtain⟨v1,v2⟩:=hp;have v2:qg L a b v.2.2.2.1 v.2.1 v.2.2.1/\v.2.1+v.2.2.1<i1+j1:=v2;exact⟨rfl,v1,v2.1,by lia,by lia⟩
 |done v=>
  obtain⟨r,i2,j2,o2,ac2,bc2⟩:=v;cases r with
  |some res=>exact ag ⟨rfl,eW.rf,res,rfl,hp⟩
  |none=>
   have hp:qg L a b o2 i2 j2/\i2+j2<i1+j1:=hp;refine ω (l7 (eX (ω (dQ ?_))));have hr3:i2+j2≤a.size+b.size:=by lia
   refine pf (λk (t:GT) st3=>eW st'' st3/\t.1=none/\qg L a b t.2.2.2.1 t.2.1 t.2.2.1/\t.2.1+t.2.2.1≤k/\t.2.1+t.2.2.1≤i2+j2) ?_ ?_ _ _ _ ⟨eW.rf,rfl,hp.1,by rw[bU];exact hr3,ρ _⟩
   ·rintro⟨r,i3,j3,out,m3,ac,bc⟩ st3 ⟨_,rfl,h',hr,_⟩;have h1:=h'.1.1;lia
   rintro x k ⟨r,i3,j3,o3,m3,ac3,bc3⟩ st3 ⟨sm3,rfl,h',hr,hr2'⟩;have hk3:=sm3.1.trans hk;have go:∀m,kasC (model prog w) A E (lg a b m (none,i3,j3,o3,m3,ac3,bc3)) (λr st' s'=>s'=s''/\eW st3 st'/\yi L a b (i3+j3) r) st3 s'':=λm=>QZ H hF hk3 h';have both:kasC (model prog w) A E (if m3 > 1 then lg a b (m3-1) (none,i3,j3,o3,m3,ac3,bc3) else lg a b m3 (none,i3,j3,o3,m3,ac3,bc3)) (λr st' s'=>s'=s''/\eW st3 st'/\yi L a b (i3+j3) r) st3 s'':=by
    by_cases g:m3 > 1
    ·rw[if_pos g];exact go _
    ·rw[if_neg g];exact go _
   refine se both ?_;rintro r st4 s4 ⟨rfl,sm4,hp4⟩;refine⟨rfl,?_⟩;cases r with
   |yield v=>
    obtain⟨v1,v2⟩:=hp4;have v2:qg L a b v.2.2.2.1 v.2.1 v.2.2.1/\v.2.1+v.2.2.1<i3+j3:=v2;exact⟨sm3.tr sm4,v1,v2.1,by lia,by lia⟩
   |done v=>
    obtain⟨r,i5,j5,o5,m5,ac5,bc5⟩:=v;cases r with
    |some res=>exact ag ⟨rfl,sm3.tr sm4,res,rfl,hp4⟩
    |none=>
     have hp4:qg L a b o5 i5 j5/\i5+j5<i3+j3:=hp4;exact ω (zG λst5 sm5=>ag ⟨rfl,(sm3.tr sm4).tr sm5,rfl,hp4.1,by lia⟩)
theorem QX(H:MH prog w A κ s Ok L a b)(hL:oJ L a b)(hF:pD L a b)(hk:kindOf st=κ)(ha:0<a.size)(hb:0<b.size){Q:Array ο->bS->η->Prop}
  (q:∀res st',eW st st'->Res L a.toList b.toList res.toList->Q res st' s):kasC (model prog w) A E (rM a b) Q st s:=by
 obtain⟨y,ey,dy,my,ly⟩:=uI ha (ρ a.size);have h0:MJ L a.toList b.toList (#[]:Array ο).toList a.size b.size:=by
  refine⟨?_,gS,λx hx y hy=>nomatch hy⟩;rw[cP (by rw[aK];exact ρ _),cP (by rw[aK];exact ρ _)];simp
 have h1:=wd H h0 ha dy λz hz=>H.O.om _ _ (hL y ey z (cf hz));rw[wa];refine ω (l7 (eX (ω (ki ey ?_))));by_cases e:(a.size-1==0)=true
 ·rw[if_pos e];rw[beq_iff_eq] at e;exact ag (q _ _ eW.rf (xC H h1 (.inl e)))
 rw[if_neg e];by_cases e2:(b.size==1)=true
 ·rw[if_pos e2];rw[beq_iff_eq] at e2;exact ag (q _ _ eW.rf (zA H hF h1 e2 hb))
 rw[if_neg e2];refine ω (jD (ω (dQ (pf (λk (t:HT) st'=>eW st st'/\t.1=none/\qg L a b t.2.2.2.1 t.2.1 t.2.2.1/\t.2.1+t.2.2.1≤k) ?_ ?_ _ _ _ ⟨eW.rf,rfl,⟨⟨by lia,by lia⟩,⟨by lia,ρ _⟩,h1⟩,by rw[bU];show a.size-1+b.size≤a.size+b.size-0;lia⟩))))
 ·rintro⟨r,na,nb,out,m⟩ st' ⟨_,rfl,h',hr⟩;have h1:=h'.1.1;lia
 ·rintro z k ⟨r,na,nb,out,m⟩ st' ⟨sm,rfl,h',hr⟩;refine se (QY H hF (sm.1.trans hk) h') ?_;rintro r st'' s'' ⟨rfl,sm2,hp⟩;refine⟨rfl,?_⟩;cases r with
  |yield v=>
   obtain⟨v1,v2,v3⟩:=hp;exact⟨sm.tr sm2,v1,v2,by lia⟩
  |done v=>
   obtain⟨r,v⟩:=v;obtain⟨res,e,hres⟩:=hp;subst e;exact ag (q res st'' (sm.tr sm2) hres)
end
def mergeAt':Nat->SM Bool:=sortPriv% PySem.Builtin.mergeAt
abbrev yx(st:bS)(p:Array (Nat×Nat×Nat)):bS:=rV (kindOf st) (arrOf st) p (gallopOf st) (failedOf st)
def AD(base:Nat)(xs:List (ο×Nat))(a:Array ο):Array ο:=xs.foldl (λa (p,j)=>a.setIfInBounds (base+j) p) a
theorem yq(i:Nat):mergeAt' i=(do
 let s ←get
 let (some (sa,na,power),some (sb,nb,_)):=((pendingOf s)[i]?,(pendingOf s)[i+1]?)|unsupported "internal:list.sort.pending"
 set (yx s (((pendingOf s).setIfInBounds i (sa,na+nb,power)).eraseIdxIfInBounds (i+1)))
 let some k ←hZ false (←elem' (arrOf s) sb) (arrOf s) sa na 0|return false
 let (sa,na):=(sa+k,na-k)
 if na==0 then return true
 let some nb ←hZ true (←elem' (arrOf s) (sa+na-1)) (arrOf s) sb nb (nb-1)|return false
 if nb==0 then return true
 let x:=(arrOf s).extract sa sb
 let y:=(arrOf s).extract sb (sb+nb)
 let merged ←if na≤nb then rL x y else rM x y
 modify λs=>setArr s (AD sa merged.toList.zipIdx (arrOf s))
 return (failedOf (←get)).isNone):=rfl
theorem QV(base:Nat):∀(xs:List ο) (k:Nat) (a:Array ο) (P X S:List ο),a.toList=P++X++S->P.length=base+k->X.length=xs.length->(AD base (xs.zipIdx k) a).toList=P++xs++S:=by
 intro xs
 induction xs with
 |nil=>
  intro k a P X S e h1 h2;have:=cL h2;subst this;exact e
 |cons x xs ih=>
  intro k a P X S e h1 h2;cases X with
  |nil=>cases h2
  |cons z X=>
   have h2:X.length=xs.length:=by simpa using h2
   show (AD base (xs.zipIdx (k+1)) (a.setIfInBounds (base+k) x)).toList=_;have e2:(a.setIfInBounds (base+k) x).toList=(P++[x])++X++S:=by
    rw[og,e,←h1,Δ,rl _ _ (ρ _),tK];simp
   rw[ih (k+1) _ (P++[x]) X S e2 (by rw[π,h1];rfl) h2];simp
section
variable {prog:ao} {w:aC} {A:aQ} {E:ζ->η->Prop} {κ:dR} {s:η} {Ok:ο->Prop} {L:ο->ο->Bool} {st:bS}
theorem QU(h:Q ⟨⟩ st' s):kasC (model prog w) A E (set st':SM PUnit) Q st s:=by
 unfold kasC;rw[StateT.run_set];exact δ h
theorem CC(e:arr.toList=P++X++S):sl arr P.length X.length=X:=by
 unfold sl;rw[e,Δ,List.drop_left,List.take_left]
theorem xB{arr:Array ο}(e:arr.toList=P++x::S):arr[P.length]?=some x:=by
 rw[←ak,e,bI (ρ _),tK];rfl
theorem HZ{arr:Array ο}(e:arr.toList=P++X++S):(arr.extract P.length (P.length+X.length)).toList=X:=by
 rw[xE,show P.length+X.length-P.length=X.length by lia];exact CC e
theorem Ry(C:kx prog w A κ s Ok L)(O:iR L)(hk:kindOf st=κ)(hf:failedOf st=none){i sa na pw sb nb p2:Nat}{P R1 R2 S:List ο}(hp1:(pendingOf st)[i]?=some (sa,na,pw))(hp2:(pendingOf st)[i+1]?=some (sb,nb,p2))
  (e:(arrOf st).toList=P++R1++R2++S) (l0:P.length=sa) (l1:R1.length=na) (l2:R2.length=nb) (l3:sb=sa+na) (h1:0<na) (h2:0<nb) (ok:∀x∈R1++R2,Ok x) (s1:R1.Pairwise (Le L)) (s2:R2.Pairwise (Le L))
  {Q:Bool->bS->η->Prop} (q:∀(M:List ο) (st':bS),M.Perm (R1++R2)->M.Pairwise (Le L)->kindOf st'=κ->failedOf st'=none->pendingOf st'=((pendingOf st).setIfInBounds i (sa,na+nb,pw)).eraseIdxIfInBounds (i+1)->(arrOf st').toList=P++M++S->Q true st' s):kasC (model prog w) A E (mergeAt' i) Q st s:=by
 rw[yq];refine ω (jD ?_);rw[hp1,hp2];dsimp only;refine ω (QU ?_);generalize hst1:yx st (((pendingOf st).setIfInBounds i (sa,na+nb,pw)).eraseIdxIfInBounds (i+1))=st1;have k1:kindOf st1=κ:=by rw[←hst1];exact hk
 have f1:failedOf st1=none:=by rw[←hst1];exact hf
 have p1:pendingOf st1=((pendingOf st).setIfInBounds i (sa,na+nb,pw)).eraseIdxIfInBounds (i+1):=by rw[←hst1]
 have a1:arrOf st1=arrOf st:=by rw[←hst1]
 have eP1:(arrOf st).toList=P++R1++(R2++S):=by rw[e,Δ (P++R1)]
 have eP2:(arrOf st).toList=(P++R1)++R2++S:=e;have lz:(arrOf st).size=P.length+R1.length+R2.length+S.length:=by
  rw[←aK,e];simp only[π]
 have lPR:(P++R1).length=sb:=by rw[π];lia
 obtain⟨y0,R2',rfl⟩:∃y0 R2',R2=y0::R2':=by
  cases R2 with
  |nil=>simp at l2;lia
  |cons y r=>exact⟨y,r,rfl⟩
 have gy:(arrOf st)[sb]?=some y0:=by
  rw[←lPR];exact xB (S:=R2'++S) (by rw[e];simp)
 have oy0:Ok y0:=ok y0 (aj _ ι);have sl1:sl (arrOf st) sa na=R1:=by
  rw[←l0,←l1];exact CC eP1
 have sl2:sl (arrOf st) sb nb=y0::R2':=by
  rw[←lPR,←l2];exact CC eP2
 refine ω (ki gy (ω (vN C O k1 h1 (by lia) oy0 (by rw[sl1];exactλx hx=>ok x (aD _ hx)) (by rw[sl1];exact s1) λk hkn b1 b2=>?_)));rw[sl1] at b1 b2;have b1':∀z∈R1.take k,Le L z y0:=λz hz=>by
  have:(!(L y0 z))=true:=b1 z hz;rwa [gb] at this
 have b2':∀z∈R1.drop k,L y0 z=true:=λz hz=>by
  have:(!(L y0 z))=false:=b2 z hz;rwa [kK] at this
 have hy0:∀z∈y0::R2',Le L y0 z:=uK O s2 rfl;have eR1:R1.take k++R1.drop k=R1:=a0 k R1;have s1':=s1;rw[←eR1,Ξ] at s1';dsimp only;by_cases e0:(na-k==0)=true
 ·rw[if_pos e0];rw[beq_iff_eq] at e0;have ek:R1.take k=R1:=cP (by lia);rw[ek] at b1';refine ag (q (R1++y0::R2') st1 (jq _) ?_ k1 f1 p1 (by rw[a1,e];simp));rw[Ξ];exact⟨s1,s2,λx hx y hy=>O.iX x y0 y (b1' x hx) (hy0 y hy)⟩
 rw[if_neg e0];have e0':na-k≠0:=λz=>e0 (by rw[z];rfl)
 -- the last of the first run
 have hne:R1.drop k≠[]:=λz=>by
  have:=congrArg bM z;rw[aX,iO] at this;lia
 obtain⟨I1,z0,eI⟩:∃I z,R1.drop k=I++[z]:=⟨_,_,(m7 hne).symm⟩;have lI:I1.length+1=na-k:=by
  have:=congrArg bM eI;rw[aX,π] at this;simp at this;lia
 have mz0:z0∈R1.drop k:=by rw[eI];simp
 have gz:(arrOf st)[sa+k+(na-k)-1]?=some z0:=by
  have hlen:sa+k+(na-k)-1=(P++R1.take k++I1).length:=by
   simp only[π,aZ];lia
  rw[hlen];refine xB (S:=(y0::R2')++S) ?_;have eR:P++R1=P++(R1.take k++(I1++[z0])):=by rw[←eI,eR1]
  rw[e,eR];simp
 have oz0:Ok z0:=ok z0 (aD _ (cg mz0));refine ω (ki gz (ω (vN C O k1 (by lia) (by lia) oz0 (by rw[sl2];exactλx hx=>ok x (aj _ hx)) (by rw[sl2];exact s2) λm hm c1 c2=>?_)));rw[sl2] at c1 c2;have c1':∀z∈(y0::R2').take m,L z z0=true:=λz hz=>c1 z hz;have c2':∀z∈(y0::R2').drop m,Le L z0 z:=λz hz=>c2 z hz;have hz0:∀x∈R1.drop k,Le L x z0:=λx hx=>by
  have:=s1'.2.1;rw[eI,Ξ] at this;rw[eI] at hx;rcases aa.mp hx with hx|hx
  ·exact this.2.2 x hx z0 (by simp)
  ·rw[ah.mp hx];exact O.xU _
 dsimp only;by_cases e1:(m==0)=true
 ·rw[if_pos e1];rw[beq_iff_eq] at e1;subst e1;refine ag (q (R1++y0::R2') st1 (jq _) ?_ k1 f1 p1 (by rw[a1,e];simp));have cy:=c2' y0 (by simp);have by0:=b2' z0 mz0;have:L y0 z0=false:=cy;rw[by0] at this;cases this
 rw[if_neg e1];have e1':m≠0:=λz=>e1 (by rw[z];rfl);have eR2:(y0::R2').take m++(y0::R2').drop m=y0::R2':=a0 m _;have s2':=s2;rw[←eR2,Ξ] at s2';have lX:(R1.drop k).length=na-k:=by rw[aX];lia
 have lY:((y0::R2').take m).length=m:=by rw[aZ];lia
 have eA:(arrOf st).toList=(P++R1.take k)++R1.drop k++((y0::R2')++S):=by
  have eR:P++R1=P++(R1.take k++R1.drop k):=by rw[eR1]
  rw[e,eR];simp
 have eB:(arrOf st).toList=(P++R1)++(y0::R2').take m++((y0::R2').drop m++S):=by
  have eR:P++R1++(y0::R2')=P++R1++((y0::R2').take m++(y0::R2').drop m):=by rw[eR2]
  rw[e,eR];simp only[Δ]
 have lPk:(P++R1.take k).length=sa+k:=by
  simp only[π,aZ];lia
 have ex:((arrOf st).extract (sa+k) sb).toList=R1.drop k:=by
  have:=HZ eA;rw[lPk,lX,show sa+k+(na-k)=sb by lia] at this;exact this
 have ey:((arrOf st).extract sb (sb+m)).toList=(y0::R2').take m:=by
  have:=HZ eB;rw[lPR,lY] at this;exact this
 generalize (arrOf st).extract (sa+k) sb=X at ex ⊢;generalize (arrOf st).extract sb (sb+m)=Y at ey ⊢;have H:MH prog w A κ s Ok L X Y:=⟨C,O,by rw[ex];exactλx hx=>ok x (aD _ (cg hx)),by rw[ey];exactλx hx=>ok x (aj _ (cf hx)),by rw[ex];exact s1'.2.1,by rw[ey];exact s2'.1⟩;have szX:X.size=na-k:=by rw[←aK,ex,lX]
 have szY:Y.size=m:=by rw[←aK,ey,lY]
 obtain⟨m',rfl⟩:∃m',m=m'+1:=⟨m-1,by lia⟩;have gY0:Y[0]?=some y0:=by
  rw[←ak,ey];rfl
 obtain⟨x0,gX0,_,mX0⟩:=sV (a:=X) (i:=0) (by lia);rw[ex] at mX0;have hL:oJ L X Y:=λz hz y hy=>by
  rw[ey] at hy;have:z=z0:=by
   rw[←ak,ex,eI,szX,bI (by lia),show na-k-1-I1.length=0 by lia] at hz;exact (aL hz).symm
  rw[this];exact c1' y hy
 have hF:pD L X Y:=λz hz x hx=>by
  rw[gY0] at hz;cases hz;rw[ex] at hx;exact O.om _ _ (b2' x hx)
 have fin:∀(res:Array ο) (st':bS),eW st1 st'->Res L X.toList Y.toList res.toList->kasC (model prog w) A E (do
   modify λs=>setArr s (AD (sa+k) res.toList.zipIdx (arrOf s))
   return (failedOf (←get)).isNone:SM Bool) Q st' s:=λres st' sm ⟨rp,rs⟩=>by
  rw[ex,ey] at rp;refine ω (hU (ω (jD (ag ?_))));have hff:failedOf st'=none:=sm.2.2.2.trans f1;show Q (failedOf st').isNone _ s;rw[hff];have eC:(arrOf st').toList=(P++R1.take k)++(R1.drop k++(y0::R2').take (m'+1))++((y0::R2').drop (m'+1)++S):=by
   have eR:P++R1++(y0::R2')=P++(R1.take k++R1.drop k)++((y0::R2').take (m'+1)++(y0::R2').drop (m'+1)):=by rw[eR1,eR2]
   rw[sm.2.1,a1,e,eR];simp only[Δ]
  have ew:(AD (sa+k) res.toList.zipIdx (arrOf st')).toList=(P++R1.take k)++res.toList++((y0::R2').drop (m'+1)++S):=QV (sa+k) res.toList 0 _ _ _ _ eC lPk rp.length_eq.symm;refine q (R1.take k++(res.toList++(y0::R2').drop (m'+1))) _ ?_ ?_ (sm.1.trans k1) hff (sm.2.2.1.trans p1) (by rw[ew];simp only[Δ])
  ·refine cT (cm _ (cC _ rp)) (vH ?_);rw[Δ,eR2,←Δ,eR1]
  ·rw[Ξ];refine⟨s1'.1,?_,λx hx y hy=>?_⟩
   ·rw[Ξ];refine⟨rs,s2'.2.1,λx hx y hy=>?_⟩;rcases aa.mp (rp.mem_iff.mp hx) with z|z
    ·exact O.iX x z0 y (hz0 x z) (c2' y hy)
    ·exact s2'.2.2 x z y hy
   ·rcases aa.mp hy with z|z
    ·rcases aa.mp (rp.mem_iff.mp z) with z2|z2
     ·exact s1'.2.2 x hx y z2
     ·exact O.iX x y0 y (b1' x hx) (hy0 y (cf z2))
    ·exact O.iX x y0 y (b1' x hx) (hy0 y (cg z))
 by_cases hle:na-k≤m'+1
 ·rw[if_pos hle];exact ω (Q4 H hL k1 (by lia) gY0 gX0 (b2' x0 mX0) fin)
 ·rw[if_neg hle];exact ω (QX H hL hF k1 (by lia) (by lia) fin)
end
theorem get3{α:Type}(P X S:List α)(k:Nat):(P++X++S)[k]?=if k<P.length then P[k]? else if k<P.length+X.length then X[k-P.length]? else S[k-P.length-X.length]?:=by
 by_cases h:k<P.length
 ·rw[if_pos h,Δ,cx h]
 ·rw[if_neg h,Δ,bI (by lia)];by_cases h2:k<P.length+X.length
  ·rw[if_pos h2,cx (by lia)]
  ·rw[if_neg h2,bI (by lia)]
theorem Rx{S:List ο}(e:a.toList=P++M++S)(hi:P.length=i)(hj:i+M.length=j):(mirror a i j ((j-i) / 2)).toList=P++M.reverse++S:=by
 have hz:j≤a.size:=by
  rw[←aK,e];simp only[π];lia
 refine k6 λk=>?_;rw[ak,getElem?_mirror_all hz,get3,List.length_reverse,←ak,←ak,e,get3,get3]
 repeat' split
 all_goals first
  |rfl
  | (exfalso;lia)
  | (rw[List.getElem?_reverse (by lia),show i+j-1-k-P.length=M.length-1-(k-P.length) by lia])
theorem Rw{x:ο}(e:a.toList=P++(X++[x])++S)(hs:P.length+X.length=src)(hd:X.length=d):(bubble a src d).toList=P++(x::X)++S:=by
 have hz:src<a.size:=by
  rw[←aK,e];simp only[π,ai,iO];lia
 refine k6 λk=>?_;rw[ak,getElem?_bubble hz d (by lia),←ak,←ak,←ak,e,get3,get3,get3,get3];have hl:(X++[x]).length=X.length+1:=by simp
 have hl2:(x::X).length=X.length+1:=by simp
 rw[hl,hl2]
 repeat' split
 all_goals first
  |rfl
  | (exfalso;lia)
  | (rw[show src-P.length=X.length by lia,show k-P.length=0 by lia];simp)
  | (obtain⟨u,hu⟩:∃u,k-P.length=u+1:=⟨k-P.length-1,by lia⟩;rw[hu,List.getElem?_cons_succ,show k-1-P.length=u by lia,cx (by lia)])
abbrev AS:=Option (Option Nat)×Nat
abbrev DS:=Option (Option Nat)×Nat×Nat
def J7(lo:Nat)(t:AS):SM (ForInStep AS):=do
 let r ←ltAt' (lo+t.2) (lo+t.2-1)
 match r with
 |some smaller=>if smaller=true then pure (.done (none,t.2)) else pure (.yield (none,t.2+1))
 |_=>pure (.done (some none,t.2))
def yM(lo nrem n:Nat):SM (Option Nat):=do
 reverseSlice' lo (lo+n)
 let t ←forIn [n:nrem] ((none,n):AS) λ_ t=>J7 lo t
 match t.1 with
 |some r=>pure r
 |none=>pure (some t.2)
def dsc(lo:Nat)(t:DS):SM (ForInStep DS):=do
 let r ←ltAt' (lo+t.2.1) (lo+t.2.1-1)
 match r with
 |some smaller=>
  if smaller=true then
   if t.2.2 > 0 then do
    reverseSlice' (lo+t.2.1-(t.2.2+1)) (lo+t.2.1)
    pure (.yield (none,t.2.1+1,0))
   else pure (.yield (none,t.2.1+1,0))
  else do
   let r ←ltAt' (lo+t.2.1-1) (lo+t.2.1)
   match r with
   |some larger=>if larger=true then pure (.done (none,t.2.1,t.2.2)) else pure (.yield (none,t.2.1+1,t.2.2+1))
   |_=>pure (.done (some none,t.2.1,t.2.2))
 |_=>pure (.done (some none,t.2.1,t.2.2))
def Dy(lo nrem n:Nat):SM (Option Nat):=do
 liftM (rule "list.sort.descending-run")
 let t ←forIn [n+1:nrem] ((none,n+1,0):DS) λ_ t=>dsc lo t
 match t.1 with
 |some r=>pure r
 |none=>
  if t.2.2 > 0 then do
   reverseSlice' (lo+t.2.1-(t.2.2+1)) (lo+t.2.1)
   yM lo nrem t.2.1
  else yM lo nrem t.2.1
theorem B8{f':Nat->β->SM (ForInStep β)}(h:∀x t,f x t=f' x t):(forIn [m:n] b f:SM β)=forIn [m:n] b f':=by
 rw[funext λx=>funext (h x)]
theorem vw(lo nrem:Nat):countRun' lo nrem=(do
 let t ←forIn [1:nrem] ((none,1):AS) λ_ t=>J7 lo t
 match t.1 with
 |some r=>pure r
 |none=>
  if (t.2==nrem)=true then pure (some t.2)
  else if t.2 > 1 then do
   let r ←ltAt' lo (lo+t.2-1)
   match r with
   |some rose=>if rose=true then pure (some t.2) else do
    reverseSlice' lo (lo+t.2)
    Dy lo nrem t.2
   |_=>pure none
  else Dy lo nrem t.2):=by
 rw[countRun'_eq];have e3:∀n,(do
   reverseSlice' lo (lo+n)
   let mut n:=n
   for _ in [n:nrem] do
    let some smaller ←ltAt' (lo+n) (lo+n-1)|return none
    if smaller then break
    n:=n+1
   return some n:SM (Option Nat))=yM lo nrem n:=λn=>by
  refine fF rfl λ_=>fF (B8 λ_ t=>?_) λt=>?_
  ·refine fF rfl λr=>?_;cases r<;>rfl
  ·obtain⟨r,n⟩:=t;cases r<;>rfl
 have e1:∀n,(do
   liftM (rule "list.sort.descending-run")
   let mut n:=n
   n:=n+1
   let mut neq:=0
   for _ in [n:nrem] do
    let some smaller ←ltAt' (lo+n) (lo+n-1)|return none
    if smaller then
     if neq > 0 then reverseSlice' (lo+n-(neq+1)) (lo+n)
     neq:=0
    else
     let some larger ←ltAt' (lo+n-1) (lo+n)|return none
     if larger then break
     neq:=neq+1
    n:=n+1
   if neq > 0 then reverseSlice' (lo+n-(neq+1)) (lo+n)
   reverseSlice' lo (lo+n)
   for _ in [n:nrem] do
    let some smaller ←ltAt' (lo+n) (lo+n-1)|return none
    if smaller then break
    n:=n+1
   return some n:SM (Option Nat))=Dy lo nrem n:=λn=>by
  refine fF rfl λ_=>fF (B8 λ_ t=>?_) λt=>?_
  ·refine fF rfl λr=>?_;cases r with
   |none=>rfl
   |some b=>
    cases b with
    |true=>rfl
    |false=>
     refine fF rfl λr=>?_;cases r<;>rfl
  ·obtain⟨r,n,q⟩:=t;cases r with
   |some r=>rfl
   |none=>
    dsimp only;by_cases h:q > 0
    ·rw[if_pos h,if_pos h];exact fF rfl λ_=>e3 n
    ·rw[if_neg h,if_neg h];exact e3 n
 refine fF (B8 λ_ t=>?_) λt=>?_
 ·refine fF rfl λr=>?_;cases r<;>rfl
 obtain⟨r,n⟩:=t;cases r with
 |some r=>rfl
 |none=>
  dsimp only;by_cases h:(n==nrem)=true
  ·rw[if_pos h,if_pos h]
  ·rw[if_neg h,if_neg h];by_cases h2:n > 1
   ·rw[if_pos h2,if_pos h2];refine fF rfl λr=>?_;cases r with
    |none=>rfl
    |some b=>
     cases b with
     |true=>rfl
     |false=>
      dsimp only;rw[if_neg af,if_neg af];exact fF rfl λ_=>e1 n
   ·rw[if_neg h2,if_neg h2];exact e1 n
section
variable {prog:ao} {w:aC} {A:aQ} {E:ζ->η->Prop} {κ:dR} {s:η} {Ok:ο->Prop} {L:ο->ο->Bool} {st:bS}
theorem xA(C:kx prog w A κ s Ok L)(hk:kindOf st=κ)(ex:(arrOf st)[i]?=some x)(ey:(arrOf st)[j]?=some y)(hx:Ok x)(hy:Ok y)(h:Q (some (L x y)) st s):kasC (model prog w) A E (ltAt' i j) Q st s:=by
 rw[ltAt'_eq];exact ω (jD (ω (ki ex (ω (ki ey (wR C hk hx hy h))))))
theorem zx(h:Q () (setArr st (mirror (arrOf st) i j ((j-i) / 2))) s):kasC (model prog w) A E (reverseSlice' i j) Q st s:=by
 rw[reverseSlice'_eq];exact hU h
structure At(κ:dR)(st0 st:bS)(P D T S:List ο):Prop where
 kind:kindOf st=κ
 fail:failedOf st=none
 pend:pendingOf st=pendingOf st0
 arr:(arrOf st).toList=P++D++T++S
theorem At.hd(h:At κ st0 st P D (t::T) S):(arrOf st)[P.length+D.length]?=some t:=by
 rw[←π];refine xB (S:=T++S) ?_;rw[h.arr];simp
theorem At.lst(h:At κ st0 st P (D++[d]) T S):(arrOf st)[P.length+(D++[d]).length-1]?=some d:=by
 have el:P.length+(D++[d]).length-1=(P++D).length:=by
  simp only[π,ai,iO];lia
 rw[el];refine xB (S:=T++S) ?_;rw[h.arr];simp
theorem At.next(h:At κ st0 st P D (t::T) S):At κ st0 st P (D++[t]) T S:=⟨h.kind,h.fail,h.pend,by rw[h.arr];simp⟩
theorem At.rev(h:At κ st0 st P (D++B) T S)(hi:P.length+D.length=i)(hj:i+B.length=j):At κ st0 (setArr st (mirror (arrOf st) i j ((j-i) / 2))) P (D++B.reverse) T S:=by
 refine⟨h.kind,h.fail,h.pend,?_⟩;have e:(arrOf st).toList=(P++D)++B++(T++S):=by rw[h.arr];simp
 rw[Rx e (by rw[π];exact hi) hj];simp
abbrev Ge(L:ο->ο->Bool)(x y:ο):Prop:=L x y=false
theorem snoc_cases{xs:List ο}(h:0<xs.length):∃ys y,xs=ys++[y]:=⟨_,_,(m7 (λz=>by rw[z] at h;simp at h)).symm⟩
theorem Rv(O:iR L)(h:(ys++[y]).Pairwise (Le L))(ht:Le L y t):(ys++[y]++[t]).Pairwise (Le L):=by
 rw[Ξ];refine⟨h,bE _ _,λx hx z hz=>?_⟩;rw[ah.mp hz];rw[Ξ] at h;rcases aa.mp hx with q|q
 ·exact O.iX x y t (h.2.2 x q y (by simp)) ht
 ·rw[ah.mp q];exact ht
theorem HY(O:iR L)(h:(ys++[y]).Pairwise (Ge L))(ht:Ge L y t):(ys++[y]++[t]).Pairwise (Ge L):=by
 rw[Ξ];refine⟨h,bE _ _,λx hx z hz=>?_⟩;rw[ah.mp hz];rw[Ξ] at h;rcases aa.mp hx with q|q
 ·exact O.iX t y x ht (h.2.2 x q y (by simp))
 ·rw[ah.mp q];exact ht
structure Run(κ:dR)(L:ο->ο->Bool)(st0 st:bS)(P X S R T:List ο):Prop where
 at_:At κ st0 st P R T S
 e6:R.Pairwise (Le L)
 perm:(R++T).Perm X
 pos:0<R.length
theorem Hi(C:kx prog w A κ s Ok L)(O:iR L)(ok:∀x∈X,Ok x)(hn:X.length=nrem)(h0:Run κ L st0 st P X S R0 T0)(hl0:R0.length=n0)
  (q:∀(R T:List ο) (st':bS),Run κ L st0 st' P X S R T->(T=[]∨∃t T' R' d,T=t::T'/\R=R'++[d]/\L t d=true)->Q (none,R.length) st' s):
  kasC (model prog w) A E (forIn [n0:nrem] ((none,n0):AS) λ_ t=>J7 P.length t) Q st s:=by
 refine dQ ?_;have hl:=h0.perm.length_eq;rw[π,hn] at hl;refine pf (λk (b:AS) st'=>b.1=none/\∃R T,Run κ L st0 st' P X S R T/\R.length=b.2/\T.length=k) ?_ ?_ _ _ _ ⟨rfl,R0,T0,h0,hl0,by rw[bU];lia⟩
 ·rintro⟨r,n⟩ st' ⟨rfl,R,T,hR,rfl,hT⟩;exact q R T st' hR (.inl (cL hT))
 rintro xx k ⟨r,n⟩ st' ⟨rfl,R,T,hR,rfl,hT⟩;obtain⟨t,T',rfl⟩:∃t T',T=t::T':=by
  cases T with
  |nil=>simp at hT
  |cons t T'=>exact⟨t,T',rfl⟩
 obtain⟨R',d,rfl⟩:=snoc_cases hR.pos;have od:=ok d (hR.perm.mem_iff.mp (by simp));have ot:=ok t (hR.perm.mem_iff.mp (by simp));refine ω (xA C hR.at_.kind hR.at_.hd hR.at_.lst ot od ?_);dsimp only;cases hl1:L t d with
 |false=>
  rw[if_neg af];exact ag ⟨rfl,rfl,R'++[d]++[t],T',⟨hR.at_.next,Rv O hR.e6 hl1,by have:=hR.perm;simpa using this,by simp⟩,by simp,by simpa using hT⟩
 |true=>
  rw[if_pos rfl];exact ag ⟨rfl,q _ _ st' hR (.inr ⟨t,T',R',d,rfl,rfl,hl1⟩)⟩
theorem Hh(C:kx prog w A κ s Ok L)(O:iR L)(ok:∀x∈X,Ok x)(hn:X.length=nrem)(h:At κ st0 st P D T S)(hg:D.Pairwise (Ge L))(hp:(D++T).Perm X)(h0:0<D.length)
  (q:∀(R T:List ο) (st':bS),Run κ L st0 st' P X S R T->Q (some R.length) st' s):kasC (model prog w) A E (yM P.length nrem D.length) Q st s:=by
 refine ω (zx ?_);have h2:=At.rev (D:=[]) (B:=D) (i:=P.length) (j:=P.length+D.length) (by simpa using h) (by simp) rfl;refine ω (Hi C O ok hn (R0:=D.reverse) (T0:=T) ⟨by simpa using h2,?_,cT (cC _ (kZ D)) hp,by simpa using h0⟩ (by simp) λR T' st' hR _=>ag (q R T' st' hR));rwa [fJ]
theorem Hg(C:kx prog w A κ s Ok L)(O:iR L)(ok:∀x∈X,Ok x)(hn:X.length=nrem)(h:At κ st0 st P (D'++[d]) (t::T) S)(hg:(D'++[d]).Pairwise (Ge L))(hp:(D'++[d]++t::T).Perm X)(hd:Ge L d t)
  (q:∀(R T:List ο) (st':bS),Run κ L st0 st' P X S R T->Q (some R.length) st' s):kasC (model prog w) A E (Dy P.length nrem (D'++[d]).length) Q st s:=by
 refine ω (l7 (eX (ω (dQ ?_))));have hl:=hp.length_eq;rw[π,hn] at hl
 -- D++B,B of like ones at its end
 have out:∀(D B T:List ο) (st':bS),At κ st0 st' P (D++B) T S->(D++B).Pairwise (Ge L)->(∀x∈B,∀y∈B,L x y=false)->0<B.length->(D++B++T).Perm X->kasC (model prog w) A E (if B.length-1 > 0 then do
    reverseSlice' (P.length+(D++B).length-(B.length-1+1)) (P.length+(D++B).length)
    yM P.length nrem (D++B).length
   else yM P.length nrem (D++B).length) Q st' s:=λD B T st' a g hB hb p=>by
  have le:(D++B).length=D.length+B.length:=π;by_cases h1:B.length-1 > 0
  ·rw[if_pos h1];refine ω (zx ?_);have a2:=a.rev (i:=P.length+(D++B).length-(B.length-1+1)) (j:=P.length+(D++B).length) (by lia) (by lia);have hl2:(D++B).length=(D++B.reverse).length:=by simp
   have g3:(D++B.reverse).Pairwise (Ge L):=by
    rw[Ξ] at g ⊢;refine⟨g.1,?_,λx hx y hy=>g.2.2 x hx y (gj.mp hy)⟩;rw[fJ];exact c5 (λ{x y} hx hy _=>hB y hy x hx) g.2.1
   have r3:=Hh (E:=E) C O ok hn a2 g3 (cT (cC _ (cm _ (kZ B))) p) (by simp;lia) q;rw[←hl2] at r3;exact r3
  ·rw[if_neg h1];exact Hh C O ok hn a g p (by lia) q
 refine pf (λk (b:DS) st'=>b.1=none/\∃D B T,At κ st0 st' P (D++B) T S/\(D++B).Pairwise (Ge L)/\(∀x∈B,∀y∈B,L x y=false)/\0<B.length/\(D++B++T).Perm X/\b.2.1=(D++B).length/\b.2.2=B.length-1/\T.length=k) ?_ ?_ _ _ _ ⟨rfl,D'++[d],[t],T,h.next,HY O hg hd,?_,by simp,by simpa using hp,by simp,rfl,?_⟩
 ·rintro⟨r,n,qq⟩ st' ⟨rfl,D,B,T,a,g,hB,hb,p,rfl,rfl,_⟩;exact out D B T st' a g hB hb p
 ·rintro xx k ⟨r,n,qq⟩ st' ⟨rfl,D,B,T,a,g,hB,hb,p,rfl,rfl,hT⟩;obtain⟨u,T',rfl⟩:∃u T',T=u::T':=by
   cases T with
   |nil=>simp at hT
   |cons u T'=>exact⟨u,T',rfl⟩
  obtain⟨B',c,rfl⟩:=snoc_cases hb;have a':At κ st0 st' P (D++B'++[c]) (u::T') S:=by simpa using a
  have oc:=ok c (p.mem_iff.mp (by simp));have ou:=ok u (p.mem_iff.mp (by simp));have ghd:=a.hd;have glt:(arrOf st')[P.length+(D++(B'++[c])).length-1]?=some c:=by
   have:=a'.lst;rwa [Δ D B' [c]] at this
  refine ω (xA C a.kind ghd glt ou oc ?_);dsimp only;have g':(D++B'++[c]).Pairwise (Ge L):=by simpa using g
  cases hl1:L u c with
  |true=>
   rw[if_pos rfl];have hcu:=O.om _ _ hl1;have keep:∀(B2:List ο) (st2:bS),At κ st0 st2 P (D++B2) (u::T') S->B2.Perm (B'++[c])->∃D1 B1 T1,At κ st0 st2 P (D1++B1) T1 S/\(D1++B1).Pairwise (Ge L)/\(∀x∈B1,∀y∈B1,L x y=false)/\0<B1.length/\(D1++B1++T1).Perm X/\(D++(B'++[c])).length+1=(D1++B1).length/\0=B1.length-1/\T1.length=k:=λB2 st2 a2 pb=>by
    refine⟨D++B2,[u],T',a2.next,?_,?_,by simp,?_,?_,rfl,by simpa using hT⟩
    ·rw[Ξ] at g ⊢;refine⟨?_,bE _ _,λx hx y hy=>?_⟩
     ·rw[Ξ];exact⟨g.1,(c5 (λ{x y} hx hy _=>hB x (pb.mem_iff.mp hx) y (pb.mem_iff.mp hy)) (List.pairwise_of_forall (R:=λ_ _=>True) λ_ _=>trivial)),λx hx y hy=>g.2.2 x hx y (pb.mem_iff.mp hy)⟩
     ·rw[ah.mp hy];rcases aa.mp hx with z|z
      ·exact O.iX u c x hcu (g.2.2 x z c (by simp))
      ·exact O.iX u c x hcu (hB x (pb.mem_iff.mp z) c (by simp))
    ·intro x hx y hy;rw[ah.mp hx,ah.mp hy];exact O.xU _
    ·refine cT ?_ p;have:D++B2++[u]++T'=D++B2++(u::T'):=by simp
     rw[this];exact cC _ (cm _ pb)
    ·have:=pb.length_eq;simp only[π,ai,iO] at this ⊢;lia
   by_cases h1:(B'++[c]).length-1 > 0
   ·rw[if_pos h1];refine ω (zx ?_);have le:(D++(B'++[c])).length=D.length+(B'++[c]).length:=π;exact ag ⟨rfl,rfl,keep _ _ (a.rev (i:=P.length+(D++(B'++[c])).length-((B'++[c]).length-1+1)) (j:=P.length+(D++(B'++[c])).length) (by lia) (by lia)) (kZ _)⟩
   ·rw[if_neg h1];exact ag ⟨rfl,rfl,keep _ _ a (jq _)⟩
  |false=>
   rw[if_neg af];refine ω (xA C a.kind glt ghd oc ou ?_);dsimp only;cases hl2:L c u with
   |true=>
    rw[if_pos rfl];exact ag ⟨rfl,out D (B'++[c]) (u::T') st' a g hB hb p⟩
   |false=>
    rw[if_neg af];refine ag ⟨rfl,rfl,D,B'++[c]++[u],T',by have:=a.next;simpa using this,by have:=HY O g' hl2;simpa using this,?_,by simp,by simpa using p,by simp;lia,?_,by simpa using hT⟩
    ·intro x hx y hy;rcases aa.mp hx with z|z
     ·rcases aa.mp hy with z2|z2
      ·exact hB x z y z2
      ·rw[ah.mp z2];exact O.iX u c x hl2 (hB x z c (by simp))
     ·rw[ah.mp z];rcases aa.mp hy with z2|z2
      ·exact O.iX y c u (hB c (by simp) y z2) hl1
      ·rw[ah.mp z2];exact O.xU _
    ·simp
 ·intro x hx y hy;rw[ah.mp hx,ah.mp hy];exact O.xU _
 ·rw[bU];simp only[ai] at hl;lia
theorem Ru(C:kx prog w A κ s Ok L)(O:iR L){lo:Nat}(h:At κ st0 st P [] X S)(hlo:P.length=lo)(hn:X.length=nrem)(h1:0<nrem)(ok:∀x∈X,Ok x)
  (q:∀(R T:List ο) (st':bS),Run κ L st0 st' P X S R T->Q (some R.length) st' s):kasC (model prog w) A E (countRun' lo nrem) Q st s:=by
 obtain⟨x0,X',rfl⟩:∃x0 X',X=x0::X':=by
  cases X with
  |nil=>simp at hn;lia
  |cons x r=>exact⟨x,r,rfl⟩
 subst hlo;rw[vw];refine ω (Hi C O (S:=S) ok hn (R0:=[x0]) (T0:=X') ⟨⟨h.kind,h.fail,h.pend,by rw[h.arr];simp⟩,bE _ _,jq _,by simp⟩ rfl λR T st' hR lK=>?_);have hl:=hR.perm.length_eq;rw[π,hn] at hl;dsimp only;rcases lK with rfl|⟨t,T',R',d,rfl,rfl,htd⟩
 ·rw[if_pos (by rw[beq_iff_eq];simp at hl;lia)];exact ag (q R [] st' hR)
 have hne:(R'++[d]).length≠nrem:=λz=>by simp only[ai] at hl;lia
 rw[if_neg (by rw[beq_iff_eq];exact hne)];have hdt:=O.om _ _ htd;by_cases h2:(R'++[d]).length > 1
 ·rw[if_pos h2];obtain⟨x1,R'',rfl⟩:∃x1 R'',R'=x1::R'':=by
   cases R' with
   |nil=>simp at h2
   |cons x r=>exact⟨x,r,rfl⟩
  have o1:=ok x1 (hR.perm.mem_iff.mp (by simp));have od:=ok d (hR.perm.mem_iff.mp (by simp));have g1:(arrOf st')[P.length]?=some x1:=xB (S:=R''++[d]++(t::T')++S) (by rw[hR.at_.arr];simp);refine ω (xA C hR.at_.kind g1 hR.at_.lst o1 od ?_);dsimp only;cases hr:L x1 d with
  |true=>
   rw[if_pos rfl];exact ag (q _ _ st' hR)
  |false=>
   rw[if_neg af];refine ω (zx ?_)
   -- all are alike
   have up:=uK O hR.e6 rfl;have dn:∀x∈x1::R''++[d],Le L x d:=λx hx=>by
    have:=hR.e6;rw[Ξ] at this;rcases aa.mp hx with z|z
    ·exact this.2.2 x z d (by simp)
    ·rw[ah.mp z];exact O.xU _
   have like:=λx hx y hy=>O.iX y d x (dn y hy) (O.iX d x1 x hr (up x hx));have a2:=At.rev (D:=[]) (B:=x1::R''++[d]) (i:=P.length) (j:=P.length+(x1::R''++[d]).length) (by simpa using hR.at_) (by simp) rfl;have er:(x1::R''++[d]).reverse=(R''++[d]).reverse++[x1]:=by simp
   rw[br,er] at a2;have hl3:(x1::R''++[d]).length=((R''++[d]).reverse++[x1]).length:=by simp
   rw[hl3] at a2 ⊢;refine Hg C O ok hn a2 ?_ ?_ ?_ q
   ·rw[←er];rw[fJ];exact c5 (λ{x y} hx hy _=>like y hy x hx) hR.e6
   ·rw[←er];exact cT (cC _ (kZ _)) hR.perm
   ·exact O.iX t d x1 hdt (like x1 (by simp) d (by simp))
 ·rw[if_neg h2];have:R'=[]:=by
   cases R' with
   |nil=>rfl
   |cons x r=>simp at h2
  subst this;exact Hg C O ok hn (D':=[]) hR.at_ (bE _ _) hR.perm hdt q
theorem Rt(I:Nat->β->bS->Prop)(e:Nat)(hz:∀b st,I e b st->Q b st s)
  (hs:∀x b st,x<e->I x b st->kasC (model prog w) A E (body x b) (λr st' s'=>s'=s/\match r with
   |.done b'=>Q b' st' s
   | .yield b'=>I (x+1) b' st') st s) (m:Nat):∀(a:Nat) (b:β) (st:bS),a+m=e->I a b st->kasC (model prog w) A E (forIn (List.range' a m) b body) Q st s:=by
 induction m with
 |zero=>
  intro a b st h1 h2;have:a=e:=by lia
  subst this;exact kasC_nil (hz b st h2)
 |succ m ih=>
  intro a b st h1 h2;rw[List.range'_succ];refine kasC_cons (se (hs a b st (by lia) h2) ?_);rintro r st' s' ⟨rfl,z⟩;cases r with
  |done b'=>exact z
  |yield b'=>exact ih (a+1) b' st' (by lia) z
theorem Rr(h:Q () (setArr st (bubble (arrOf st) i (i-j))) s):kasC (model prog w) A E (moveDown' i j) Q st s:=by
 rw[moveDown'_eq];exact hU h
theorem Rq(h:At κ st0 st P R T S)(e:R[i]?=some x):(arrOf st)[P.length+i]?=some x:=by
 obtain⟨hi,rfl⟩:=Γ.mp e;rwa [←ak,h.arr,Δ (P++R),get3,if_neg (by lia),if_pos (by lia),show P.length+i-P.length=i by lia]
theorem Rp(C:kx prog w A κ s Ok L)(O:iR L){lo:Nat}(h:Run κ L st0 st P X S R T)(hlo:P.length=lo)(hn:R.length≤n)(hx:n≤X.length)(ok:∀x∈X,Ok x)
  (q:∀(R T:List ο) (st':bS),Run κ L st0 st' P X S R T->R.length=n->Q true st' s):kasC (model prog w) A E (binarySort' lo n R.length) Q st s:=by
 subst hlo;rw[binarySort'_eq];have hm:max R.length 1=R.length:=by have:=h.pos;lia
 rw[hm];refine ω (dQ (Rt (λk (b:Option Bool×Unit) st'=>b.1=none/\∃R T,Run κ L st0 st' P X S R T/\R.length=k) n ?_ ?_ _ _ _ _ (by lia) ⟨rfl,R,T,h,rfl⟩))
 ·rintro⟨r,⟨⟩⟩ st' ⟨rfl,R,T,hR,hl⟩;exact ag (q R T st' hR hl)
 rintro k ⟨r,⟨⟩⟩ st' hk ⟨rfl,R,T,hR,rfl⟩;have hl:=hR.perm.length_eq;rw[π] at hl;obtain⟨x,T',rfl⟩:∃t T',T=t::T':=by
  cases T with
  |nil=>simp at hl;lia
  |cons t T'=>exact⟨t,T',rfl⟩
 have ox:=ok x (hR.perm.mem_iff.mp (by simp));have get:∀i,i<R.length->∃y,R[i]?=some y/\Ok y:=λi hi=>⟨R[i],Θ hi,ok _ (hR.perm.mem_iff.mp (aD _ (lT hi)))⟩;have out:∀l,l≤R.length->(∀i y,i<l->R[i]?=some y->Le L y x)->(∀i y,l≤i->R[i]?=some y->L x y=true)->kasC (model prog w) A E (do
   moveDown' (P.length+R.length) (P.length+l)
   pure (gM (none,())):SM (ForInStep (Option Bool×Unit))) (λr st' s'=>s'=s/\match r with
    | .done b'=>kasC (model prog w) A E (match b'.1 with
     |some r=>pure r
     | none=>pure true:SM Bool) Q st' s
    | .yield b'=>b'.1=none/\∃R2 T,Run κ L st0 st' P X S R2 T/\R2.length=R.length+1) st' s:=λl hl1 h1 h2=>by
  refine ω (Rr (ag ⟨rfl,rfl,R.take l++(x::R.drop l),T',⟨⟨hR.at_.kind,hR.at_.fail,hR.at_.pend,?_⟩,?_,?_,by simp;lia⟩,?_⟩))
  ·have e:(arrOf st').toList=(P++R.take l)++(R.drop l++[x])++(T'++S):=by
    have eR:P++R=P++(R.take l++R.drop l):=by rw[a0]
    rw[hR.at_.arr,eR];simp only[Δ,List.singleton_append,List.cons_append,br]
   have:=Rw e (src:=P.length+R.length) (d:=P.length+R.length-(P.length+l)) (by simp only[π,aZ,aX];lia) (by rw[aX];lia);rw[this];simp
  ·have hs:=hR.e6;rw[←a0 l R,Ξ] at hs;rw[Ξ];have tk:∀z∈R.take l,Le L z x:=λz hz=>by
    obtain⟨i,hi,e⟩:=ft hz;rw[aZ] at hi;refine h1 i z (by lia) ?_;have:=Θ (l:=R.take l) (i:=i) (by rw[aZ];lia);rw[e,eK (by lia)] at this;exact this
   have dr:∀z∈R.drop l,Le L x z:=λz hz=>by
    obtain⟨i,hi,e⟩:=ft hz;rw[aX] at hi;refine O.om _ _ (h2 (l+i) z (by lia) ?_);have:=Θ (l:=R.drop l) (i:=i) (by rw[aX];lia);rw[e,dM] at this;exact this
   refine⟨hs.1,dm.mpr ⟨dr,hs.2.1⟩,λa ha b hb=>?_⟩;rcases Ψ.mp hb with rfl|hb
   ·exact tk a ha
   ·exact hs.2.2 a ha b hb
  ·refine cT ?_ hR.perm;have e1:R++x::T'=R.take l++(R.drop l++x::T'):=by rw[←Δ,a0]
   rw[e1,Δ];exact cm _ ((fI (a:=x) (l₁:=R.drop l) (l₂:=T')).symm)
  ·simp only[π,ai,aZ,aX];lia
 refine ω (dQ (pf (λk (b:Option Bool×Nat×Nat) st2=>st2=st'/\b.1=none/\b.2.1≤b.2.2/\b.2.2≤R.length/\b.2.2-b.2.1≤k/\(∀i y,i<b.2.1->R[i]?=some y->Le L y x)/\(∀i y,b.2.2≤i->R[i]?=some y->L x y=true)) ?_ ?_ _ _ _ ⟨rfl,rfl,ar _,ρ _,by rw[bU];exact ρ _,λi y hi=>absurd hi (gJ _),λi y hi e=>?_⟩))
 ·rintro⟨r,l,rr⟩ st2 ⟨rfl,rfl,a1,a2,a3,a4,a5⟩;have e:l=rr:=by lia
  subst e;exact out l a2 a4 a5
 ·rintro xx k ⟨r,l,rr⟩ st2 ⟨rfl,rfl,a1,a2,a3,a4,a5⟩;by_cases hge:l≥rr
  ·rw[if_pos hge];have e:l=rr:=by lia
   subst e;exact ag ⟨rfl,out l a2 a4 a5⟩
  ·rw[if_neg hge];obtain⟨y,ey,oy⟩:=get ((l+rr) / 2) (by lia);refine ω (xA C hR.at_.kind hR.at_.hd (Rq hR.at_ ey) ox oy ?_);dsimp only;cases hc:L x y with
   |true=>
    rw[if_pos rfl];refine ag ⟨rfl,rfl,rfl,by lia,by lia,by lia,a4,λi z hi ez=>?_⟩;have hyz:=pw_get hR.e6 O hi ey ez;cases hxz:L x z with
    |true=>rfl
    |false=>
     have:=O.iX y z x hyz hxz;have this:L x y=false:=this;rw[hc] at this;cases this
   |false=>
    rw[if_neg af];exact ag ⟨rfl,rfl,rfl,by lia,a2,by lia,λi z hi ez=>(O.iX z y x (pw_get hR.e6 O (by lia) ez ey) hc),a5⟩
 ·have:=(Γ.mp e).1;lia
end
abbrev PT:=Nat×Nat×Nat
def j0:List (List ο)->Nat->List PT->Prop
 |[],_,[]=>True
 |r::rs,off,(s,n,_)::ps=>s=off/\n=r.length/\j0 rs (off+r.length) ps
 |_,_,_=>False
theorem j0.len:∀{rs:List (List ο)} {off:Nat} {ps:List PT},j0 rs off ps->ps.length=rs.length
 |[],_,[],_=>rfl
 |[],_,_::_,h=>h.elim
 |_::_,_,[],h=>h.elim
 |r::rs,off,(s,n,p)::ps,h=>by
  have:=j0.len h.2.2;simp[this]
theorem j0.cut:∀{as rs:List (List ο)} {off:Nat} {ps:List PT},j0 (as++rs) off ps->∃p1 p2,ps=p1++p2/\j0 as off p1/\j0 rs (off+as.flatten.length) p2
 |[],rs,off,ps,h=>⟨[],ps,rfl,trivial,by simpa using h⟩
 |a::as,rs,off,[],h=>h.elim
 |a::as,rs,off,(s,n,p)::ps,h=>by
  obtain⟨h1,h2,h3⟩:=h;obtain⟨p1,p2,rfl,h4,h5⟩:=j0.cut (as:=as) h3;exact⟨(s,n,p)::p1,p2,rfl,⟨h1,h2,h4⟩,by rw[fY,π,←nV];exact h5⟩
theorem j0.app:∀{as rs:List (List ο)} {off:Nat} {p1 p2:List PT},j0 as off p1->j0 rs (off+as.flatten.length) p2->j0 (as++rs) off (p1++p2)
 |[],rs,off,[],p2,_,h=>by simpa using h
 |[],_,_,_::_,_,h,_=>h.elim
 |_::_,_,_,[],_,h,_=>h.elim
 |a::as,rs,off,(s,n,p)::p1,p2,h,h2=>⟨h.1,h.2.1,j0.app h.2.2 (by rw[fY,π,←nV] at h2;exact h2)⟩
theorem j0.mod(hf:∀p,(f p).1=p.1/\(f p).2.1=p.2.1):∀{rs:List (List ο)} {off i:Nat} {ps:List PT},j0 rs off ps->j0 rs off (ps.modify i f)
 |[],_,i,[],_=>by
  cases i<;>exact trivial
 |[],_,_,_::_,h=>h.elim
 |_::_,_,_,[],h=>h.elim
 |r::rs,off,0,(s,n,p)::ps,h=>by
  have h1:=hf (s,n,p);show j0 (r::rs) off (f (s,n,p)::ps);obtain⟨a,b,c⟩:=h;generalize f (s,n,p)=q at h1;obtain⟨q1,q2,q3⟩:=q;have e1:=h1.1;have e2:=h1.2;exact⟨e1.trans a,e2.trans b,c⟩
 |r::rs,off,i+1,(s,n,p)::ps,h=>⟨h.1,h.2.1,j0.mod hf (i:=i) h.2.2⟩
section
variable {prog:ao} {w:aC} {A:aQ} {E:ζ->η->Prop} {κ:dR} {s:η} {Ok:ο->Prop} {L:ο->ο->Bool} {st:bS} {X0:List ο}
structure SS(κ:dR)(L:ο->ο->Bool)(X0:List ο)(st:bS)(rs:List (List ο))(T:List ο):Prop where
 kind:kindOf st=κ
 fail:failedOf st=none
 pend:j0 rs 0 (pendingOf st).toList
 arr:(arrOf st).toList=rs.flatten++T
 e6:∀r∈rs,r.Pairwise (Le L)/\0<r.length
 perm:(rs.flatten++T).Perm X0
theorem SS.size(h:SS κ L X0 st rs T):(pendingOf st).size=rs.length:=by
 rw[←aK];exact h.pend.len
theorem Ro{ps:Array PT}(e:ps.toList=p1++x::y::p2)(hi:p1.length=i):((ps.setIfInBounds i z).eraseIdxIfInBounds (i+1)).toList=p1++z::p2:=by
 subst hi;have e1:(ps.setIfInBounds p1.length z).toList=p1++z::y::p2:=by
  rw[og,e,rl _ _ (ρ _),tK];rfl
 rw[Array.toList_eraseIdxIfInBounds,e1,List.eraseIdx_append_of_length_le (by lia),show p1.length+1-p1.length=1 by lia];rfl
theorem D0{rs:List (List ο)}(h:i+1<rs.length):∃as r1 r2 bs,rs=as++r1::r2::bs/\as.length=i:=by
 refine⟨rs.take i,rs[i],rs[i+1],rs.drop (i+2),?_,by rw[aZ];lia⟩;have h1:rs.drop i=rs[i]::rs.drop (i+1):=dz (by lia);have h2:=dz h;rw[←h2,←h1,a0]
theorem yF(C:kx prog w A κ s Ok L)(O:iR L)(ok:∀x∈X0,Ok x)(h:SS κ L X0 st rs T)(hi:i+1<rs.length)
  (q:∀(rs':List (List ο)) (st':bS),SS κ L X0 st' rs' T->rs'.length+1=rs.length->rs'.flatten.length=rs.flatten.length->Q true st' s):kasC (model prog w) A E (ma i) Q st s:=by
 obtain⟨as,r1,r2,bs,rfl,hal⟩:=D0 hi;obtain⟨p1,p2,ep,hp1,hp2⟩:=h.pend.cut;obtain⟨x,y,p3,rfl⟩:∃x y p3,p2=x::y::p3:=by
  match p2,hp2 with
  |[],hp2=>exact hp2.elim
  |[x],hp2=>obtain⟨a,b,c⟩:=x;exact hp2.2.2.elim
  |x::y::p3,_=>exact⟨x,y,p3,rfl⟩
 obtain⟨sa,na,pw⟩:=x;obtain⟨sb,nb,pw2⟩:=y;obtain⟨e1,e2,e3,e4,hp3⟩:=hp2;rw[pK] at e1 e3 hp3;have hl1:p1.length=i:=by rw[hp1.len];exact hal
 have g1:(pendingOf st)[i]?=some (sa,na,pw):=by
  rw[←ak,ep,bI (by lia),show i-p1.length=0 by lia];rfl
 have g2:(pendingOf st)[i+1]?=some (sb,nb,pw2):=by
  rw[←ak,ep,bI (by lia),show i+1-p1.length=1 by lia];rfl
 have sr1:=h.e6 r1 (by simp);have sr2:=h.e6 r2 (by simp);have fe:(as++r1::r2::bs).flatten=as.flatten++r1++r2++bs.flatten:=by simp
 refine Ry C O h.kind h.fail (P:=as.flatten) (R1:=r1) (R2:=r2) (S:=bs.flatten++T) g1 g2 (by rw[h.arr,fe];simp only[Δ]) e1.symm e2.symm e4.symm (by lia) (by lia) (by lia) (λz hz=>ok z (h.perm.mem_iff.mp ?_)) sr1.1 sr2.1 λM st' pM sM k' f' pe ae=>?_
 ·rw[fe];rcases aa.mp hz with hz|hz
  ·simp[hz]
  ·simp[hz]
 ·have lM:M.length=r1.length+r2.length:=by rw[pM.length_eq,π]
  have fe2:(as++M::bs).flatten=as.flatten++M++bs.flatten:=by simp
  refine q (as++M::bs) st' ⟨k',f',?_,by rw[ae,fe2];simp only[Δ],λr hr=>?_,?_⟩ (by simp;lia) (by rw[fe2,fe];simp only[π];lia)
  ·rw[pe,Ro ep hl1];refine j0.app hp1 ⟨by lia,by lia,?_⟩;rwa [pK,lM,←nV]
  ·rcases aa.mp hr with z|z
   ·exact h.e6 r (aD _ z)
   ·rcases Ψ.mp z with rfl|z
    ·exact⟨sM,by lia⟩
    ·exact h.e6 r (aj _ (μ _ (μ _ z)))
  ·refine cT ?_ h.perm;rw[fe2,fe,Δ as.flatten r1 r2];exact cC _ (cC _ (cm _ pM))
def Jy(pw:Nat):SM (ForInStep (Option Unit×Unit)):=do
 let g ←get
 match (if (pendingOf g).size > 1 then (pendingOf g)[(pendingOf g).size-2]? else none) with
 |some (_,_,older)=>if older≤pw then pure (.done (none,())) else do
  let ok ←ma ((pendingOf g).size-2)
  if (!ok)=true then pure (.done (some (),())) else pure (.yield (none,()))
 |_=>pure (.done (none,()))
def tY(size lo n:Nat):SM (ForInStep (Option Unit×Nat)):=do
 let g ←get
 match (pendingOf g).back? with
 |some (s1,n1,_)=>do
  let t ←forIn [0:size] ((none,()):Option Unit×Unit) λ_ _=>Jy (power' size (2*s1+n1) (2*s1+n1+n1+n) size)
  match t.1 with
  |some r=>pure (.done (some r,lo))
  |none=>do
   modify λs=>setPending s ((pendingOf s).modify ((pendingOf s).size-1) λx=>(x.1,x.2.1,power' size (2*s1+n1) (2*s1+n1+n1+n) size))
   modify λs=>setPending s ((pendingOf s).push (lo,n,0))
   pure (.yield (none,lo+n))
 |_=>do
  modify λs=>setPending s ((pendingOf s).push (lo,n,0))
  pure (.yield (none,lo+n))
theorem zw(e:m=m')(h:kasC (model prog w) A E m' Q st s):kasC (model prog w) A E m Q st s:=e▸h
theorem QD(C:kx prog w A κ s Ok L)(O:iR L)(ok:∀x∈X0,Ok x)(h:SS κ L X0 st rs (R++T))(hR:R.Pairwise (Le L)/\0<R.length){lo:Nat}(hlo:lo=rs.flatten.length)
  (q:∀(rs':List (List ο)) (st':bS),SS κ L X0 st' rs' T->lo+R.length=rs'.flatten.length->Q (.yield (none,lo+R.length)) st' s):kasC (model prog w) A E (tY size lo R.length) Q st s:=by
 have push:∀(rs1:List (List ο)) (st1:bS),SS κ L X0 st1 rs1 (R++T)->rs1.flatten.length=lo->Q (.yield (none,lo+R.length)) (setPending st1 ((pendingOf st1).push (lo,R.length,0))) s:=λrs1 st1 h1 hl=>by
  have fe:(rs1++[R]).flatten=rs1.flatten++R:=by simp
  refine q (rs1++[R]) _ ⟨h1.kind,h1.fail,?_,?_,λr hr=>?_,?_⟩ (by rw[fe,π];lia)
  ·rw[k7];exact j0.app h1.pend ⟨by lia,rfl,trivial⟩
  ·rw[h1.arr,fe,Δ]
  ·rcases aa.mp hr with z|z
   ·exact h1.e6 r z
   ·rw[ah.mp z];exact hR
  ·rw[fe,Δ];exact h1.perm
 refine ω (jD ?_);cases hb:(pendingOf st).back? with
 |none=>exact ω (hU (ag (push rs st h hlo.symm)))
 |some p=>
  obtain⟨s1,n1,p3⟩:=p;refine ω (dQ (pf (λk (b:Option Unit×Unit) st'=>b.1=none/\∃rs',SS κ L X0 st' rs' (R++T)/\rs'.flatten.length=lo) ?_ ?_ _ _ _ ⟨rfl,rs,h,hlo.symm⟩))
  ·rintro⟨r,⟨⟩⟩ st' ⟨rfl,rs',h',hl'⟩;refine ω (hU (ω (hU (ag (push rs' _ ⟨h'.kind,h'.fail,?_,h'.arr,h'.e6,h'.perm⟩ hl')))));rw[sF];exact j0.mod (f:=λx=>(x.1,x.2.1,power' size (2*s1+n1) (2*s1+n1+n1+R.length) size)) (λp=>⟨rfl,rfl⟩) h'.pend
  ·rintro xx k ⟨r,⟨⟩⟩ st' ⟨rfl,rs',h',hl'⟩;have fin:kasC (model prog w) A E (match (none:Option Unit) with
     |some r=>pure (ForInStep.done (some r,lo))
     |none=>do
      modify λs=>setPending s ((pendingOf s).modify ((pendingOf s).size-1) λx=>(x.1,x.2.1,power' size (2*s1+n1) (2*s1+n1+n1+R.length) size))
      modify λs=>setPending s ((pendingOf s).push (lo,R.length,0))
      pure (.yield (none,lo+R.length)):SM (ForInStep (Option Unit×Nat))) Q st' s:=by
    refine ω (hU (ω (hU (ag (push rs' _ ⟨h'.kind,h'.fail,?_,h'.arr,h'.e6,h'.perm⟩ hl')))));rw[sF];exact j0.mod (f:=λx=>(x.1,x.2.1,power' size (2*s1+n1) (2*s1+n1+n1+R.length) size)) (λp=>⟨rfl,rfl⟩) h'.pend
   refine ω (jD ?_);by_cases h2:(pendingOf st').size > 1
   ·rw[if_pos h2];have h3:=h'.size;obtain⟨p,hp⟩:∃p,(pendingOf st')[(pendingOf st').size-2]?=some p:=⟨_,cN (by lia)⟩;rw[hp];obtain⟨a1,a2,older⟩:=p;dsimp only;by_cases g:older≤power' size (2*s1+n1) (2*s1+n1+n1+R.length) size
    ·rw[if_pos g];exact ag ⟨rfl,fin⟩
    ·rw[if_neg g];exact ω (yF C O ok h' (by lia) λrs2 st2 h4 _ h5=>(ag ⟨rfl,rfl,rs2,h4,by lia⟩))
   ·rw[if_neg h2];exact ag ⟨rfl,fin⟩
theorem QB{rs:List (List ο)}(h:∀r∈rs,0<r.length):rs.length≤rs.flatten.length:=by
 induction rs with
 |nil=>simp
 |cons r rs ih=>
  have h1:=h r ι;have h2:=ih λx hx=>h x (μ _ hx);rw[ai,fY,π];lia
theorem Hf:∀(f n r:Nat),0<n->0<minRun' f n r
 |0,n,r,h=>by
  show 0<n+r;lia
 |f+1,n,r,h=>by
  rw[minRun'_succ];split
  ·lia
  ·exact Hf f _ _ (by lia)
def An(p:Array PT):Nat:=if (if p.size-2 > 0 then p[p.size-2-1]?.map (·.2.1) else none).any (· < (p[p.size-2+1]?.elim 0 (·.2.1))) then p.size-2-1 else p.size-2
theorem Qz(p:Array PT):An p≤p.size-2:=by
 unfold An;generalize (if p.size-2 > 0 then p[p.size-2-1]?.map (·.2.1) else none).any (· < (p[p.size-2+1]?.elim 0 (·.2.1)))=b;cases b with
 |true=>rw[if_pos rfl];lia
 |false=>rw[if_neg af];lia
def JW:SM (ForInStep (Option Unit×Unit)):=do
 let g ←get
 if (pendingOf g).size≤1 then pure (.done (none,()))
 else do
  let ok ←ma (An (pendingOf g))
  if (!ok)=true then pure (.done (some (),())) else pure (.yield (none,()))
def CT(size:Nat):SM Unit:=do
 let t ←forIn [0:size] ((none,()):Option Unit×Unit) λ_ _=>JW
 match t.1 with
 |some r=>pure r
 |none=>pure ()
theorem He(C:kx prog w A κ s Ok L)(O:iR L)(ok:∀x∈X0,Ok x)(h:SS κ L X0 st rs [])
  (q:∀st',failedOf st'=none->(arrOf st').toList.Perm X0->(arrOf st').toList.Pairwise (Le L)->Q () st' s):kasC (model prog w) A E (CT X0.length) Q st s:=by
 have out:∀(rs:List (List ο)) (st':bS),SS κ L X0 st' rs []->rs.length≤1->Q () st' s:=λrs st' h hl=>by
  have e:=h.arr;rw[bC] at e;have p:=h.perm;rw[bC] at p;refine q st' h.fail (by rw[e];exact p) ?_;rw[e]
  match rs,hl,h with
  |[],_,_=>exact gS
  |[r],_,h=>
   have:=(h.e6 r ι).1;simpa using this
 refine ω (dQ ?_);have hl:=QB λr hr=>(h.e6 r hr).2;have hz:=h.perm.length_eq;rw[bC] at hz;refine pf (λk (b:Option Unit×Unit) st'=>b.1=none/\∃rs,SS κ L X0 st' rs []/\rs.length≤k+1) ?_ ?_ _ _ _ ⟨rfl,rs,h,by rw[bU];lia⟩
 ·rintro⟨r,⟨⟩⟩ st' ⟨rfl,rs,h',hl'⟩;exact ag (out rs st' h' hl')
 ·rintro xx k ⟨r,⟨⟩⟩ st' ⟨rfl,rs,h',hl'⟩;refine ω (jD ?_);have hs:=h'.size;by_cases g:(pendingOf st').size≤1
  ·rw[if_pos g];exact ag ⟨rfl,ag (out rs st' h' (by lia))⟩
  ·rw[if_neg g];have:=Qz (pendingOf st');exact ω (yF C O ok h' (by lia) λrs2 st2 h4 h5 _=>(ag ⟨rfl,rfl,rs2,h4,by lia⟩))
theorem Qy(C:kx prog w A κ s Ok L)(O:iR L)(ok:∀x∈X0,Ok x)(hk:kindOf st=κ)(hf:failedOf st=none)(hp:pendingOf st = #[])(ha:(arrOf st).toList=X0)(h0:0<X0.length)
  (q:∀st',failedOf st'=none->(arrOf st').toList.Perm X0->(arrOf st').toList.Pairwise (Le L)->Q () st' s):kasC (model prog w) A E sortRuns' Q st s:=by
 have hsz:(arrOf st).size=X0.length:=by rw[←aK,ha]
 rw[sortRuns'_eq];refine ω (jD ?_);dsimp only;rw[hsz];have hmr:0<minRun' X0.length X0.length 0:=Hf _ _ _ h0;generalize minRun' X0.length X0.length 0=mr at hmr;have init:SS κ L X0 st [] X0:=⟨hk,hf,by rw[hp];exact trivial,by rw[ha];rfl,nofun,jq _⟩;have sizeT:∀{st':bS} {rs:List (List ο)} {T:List ο},SS κ L X0 st' rs T->rs.flatten.length+T.length=X0.length:=λh=>by
  have:=h.perm.length_eq;rwa [π] at this
 refine ω (dQ (pf (λk (b:Option Unit×Nat) st'=>b.1=none/\∃rs T,SS κ L X0 st' rs T/\b.2=rs.flatten.length/\T.length≤k) ?_ ?_ _ _ _ ⟨rfl,[],X0,init,rfl,by rw[bU];show X0.length≤X0.length-0;lia⟩))
 ·rintro⟨r,lo⟩ st' ⟨rfl,rs,T,h,hlo,hT⟩;have:=cL (Nat.le_zero.mp hT);subst this;refine zw (m':=CT X0.length) (fF (qw λ_ t=>?_) λt=>?_) (He C O ok h q)
  ·refine fF rfl λg=>?_;rfl
  ·obtain⟨r,⟨⟩⟩:=t;cases r<;>rfl
 rintro xx k ⟨r,lo⟩ st' ⟨rfl,rs,T,h,hlo,hT⟩;have hst:=sizeT h;by_cases hge:lo≥X0.length
 ·rw[if_pos hge];have:T=[]:=cL (by lia);subst this;refine ag ⟨rfl,(zw (m':=CT X0.length) (fF (qw λ_ t=>?_) λt=>?_) (He C O ok h q))⟩
  ·refine fF rfl λg=>?_;rfl
  ·obtain⟨r,⟨⟩⟩:=t;cases r<;>rfl
 rw[if_neg hge];have okT:=λx hx=>ok x (h.perm.mem_iff.mp (aj _ hx));refine ω (Ru C O (st0:=st') (P:=rs.flatten) (X:=T) (S:=[]) ⟨h.kind,h.fail,rfl,by rw[h.arr];simp⟩ hlo.symm (by lia) (by lia) okT λR T' st2 hR=>?_);dsimp only
 -- a run that stands
 have stand:∀(R T':List ο) (st3:bS),Run κ L st' st3 rs.flatten T [] R T'->SS κ L X0 st3 rs (R++T'):=λR T' st3 hR=>⟨hR.at_.kind,hR.at_.fail,by rw[hR.at_.pend];exact h.pend,by rw[hR.at_.arr];simp,h.e6,(cT (cm _ hR.perm) h.perm)⟩;have go:∀(R T':List ο) (st3:bS),Run κ L st' st3 rs.flatten T [] R T'->kasC (model prog w) A E (tY X0.length lo R.length) (λr st' s'=>s'=s/\∃rs',r=.yield (none,lo+R.length)/\SS κ L X0 st' rs' T'/\lo+R.length=rs'.flatten.length/\T'.length≤k) st3 s:=λR T' st3 hR=>by
  refine QD C O ok (stand R T' st3 hR) ⟨hR.e6,hR.pos⟩ hlo λrs' st4 h4 h5=>⟨rfl,rs',rfl,h4,h5,?_⟩;have:=hR.perm.length_eq;have:=hR.pos;rw[π] at *;lia
 by_cases hlt:R.length<mr
 ·rw[if_pos hlt];refine ω (l7 (eX ?_));have hl:=hR.perm.length_eq;rw[π] at hl;refine ω (Rp C O hR hlo.symm (n:=min (X0.length-lo) mr) (by lia) (by lia) okT λR3 T3 st3 hR3 hl3=>?_);rw[if_neg (by decide),←hl3];refine se (zw (m':=tY X0.length lo R3.length) ?_ (go R3 T3 st3 hR3)) ?_
  ·refine fF rfl λg=>?_;cases hb:(pendingOf g).back? with
   |none=>rfl
   |some p=>
    obtain⟨s1,n1,p3⟩:=p;refine fF (qw λ_ t=>?_) λt=>?_
    ·refine fF rfl λg=>?_;cases (if (pendingOf g).size > 1 then (pendingOf g)[(pendingOf g).size-2]? else none)<;>rfl
    ·obtain⟨r,⟨⟩⟩:=t;cases r<;>rfl
  ·rintro r st4 s4 ⟨rfl,rs',rfl,h4,h5,h6⟩;exact⟨rfl,rfl,rs',T3,h4,h5,h6⟩
 ·rw[if_neg hlt];refine se (zw (m':=tY X0.length lo R.length) ?_ (go R T' st2 hR)) ?_
  ·refine fF rfl λg=>?_;cases hb:(pendingOf g).back? with
   |none=>rfl
   |some p=>
    obtain⟨s1,n1,p3⟩:=p;refine fF (qw λ_ t=>?_) λt=>?_
    ·refine fF rfl λg=>?_;cases (if (pendingOf g).size > 1 then (pendingOf g)[(pendingOf g).size-2]? else none)<;>rfl
    ·obtain⟨r,⟨⟩⟩:=t;cases r<;>rfl
  ·rintro r st4 s4 ⟨rfl,rs',rfl,h4,h5,h6⟩;exact⟨rfl,rfl,rs',T',h4,h5,h6⟩
end
end fQ
namespace fQ
open PySem PySem.W PyProof.Rows PySem.Calls aR
section
variable {α:Type} {lt:α->α->Bool} {f:α->ζ} {ps:List α}
def tq(f:α->ζ)(ps:List α)(x:ο):Option α:=ps.find? λp=>f p==x.1
def Lk(lt:α->α->Bool)(f:α->ζ)(ps:List α)(x y:ο):Bool:=match tq f ps x,tq f ps y with
 |some p,some q=>lt p q
 |none,some _=>true
 |_,none=>false
theorem Qx(O:tG lt):iR (Lk lt f ps):=by
 constructor
 ·intro x y h;unfold Lk at h ⊢;cases hx:tq f ps x with
  |none=>
   rw[hx] at h;cases hy:tq f ps y with
   |none=>rfl
   |some q=>rfl
  |some p=>
   rw[hx] at h;cases hy:tq f ps y with
   |none=>rw[hy] at h;cases h
   |some q=>
    rw[hy] at h;exact O.om _ _ h
 ·intro x y z h1 h2;have h1:Lk lt f ps y x=false:=h1;have h2:Lk lt f ps z y=false:=h2;show Lk lt f ps z x=false;unfold Lk at h1 h2 ⊢;cases hx:tq f ps x with
  |none=>
   cases hz:tq f ps z<;>rfl
  |some p=>
   rw[hx] at h1;cases hy:tq f ps y with
   |none=>rw[hy] at h1;cases h1
   |some q=>
    rw[hy] at h1 h2;cases hz:tq f ps z with
    |none=>rw[hz] at h2;cases h2
    |some r=>
     rw[hz] at h2;exact O.iX _ _ _ h1 h2
theorem Hd(inj:∀p∈ps,∀q∈ps,f p=f q->p=q)(hp:p∈ps):tq f ps (f p,f p)=some p:=by
 unfold tq;cases h:ps.find? λq=>f q==f p with
 |none=>
  have:=eN.mp h p hp;rw[beq_self_eq_true] at this;exact absurd rfl this
 |some q=>
  have h1:=iP h;have h2:=fL h;rw[inj q h2 p hp (eq_of_beq h1)]
theorem Hc(inj:∀p∈ps,∀q∈ps,f p=f q->p=q)(hp:p∈ps)(hq:q∈ps):Lk lt f ps (f p,f p) (f q,f q)=lt p q:=by
 unfold Lk;rw[Hd inj hp,Hd inj hq]
end
section
variable {prog:ao} {w:aC} {A:aQ} {E:ζ->η->Prop} {s:η}
theorem G9{α β:Type}(f:α->β):∀ps:List α,(ps.map f).zip (ps.map f)=ps.map λp=>(f p,f p)
 |[]=>rfl
 |p::ps=>by
  rw[ay,iM,G9 f ps];rfl
theorem Qw{f:α->ζ}(O:tG lt)(ho:s.heap.get? a=some (seqObj "list" (ps.map f).toArray n))(inj:∀p∈ps,∀q∈ps,f p=f q->p=q)
  (hk:∀h',(∀b o,b≠a->s.heap.get? b=some o->h'.get? b=some o)->(∀(Q:dR->η->Prop) (E':ζ->η->Prop),Q κ { s with heap:=h' }->χ (model prog w) A (keyKind' (ps.map f).toArray) Q E' { s with heap:=h' }) ∧
   ∀p∈ps,∀q∈ps,∀(Q:Bool->η->Prop) (E':ζ->η->Prop),Q (lt p q) { s with heap:=h' }->χ (model prog w) A (keyLt' κ (f p) (f q)) Q E' { s with heap:=h' }) (h2:2≤ps.length) (hz:ps.length≤1000000)
  (h:∀qs h' c,tE lt ps qs->h'.get? a=some (seqObj "list" (qs.map f).toArray c)->(∀b o,b≠a->s.heap.get? b=some o->h'.get? b=some o)->P (.done (.ret .none)) { s with heap:=h' }):
  χ (model prog w) A (f9.«list.sort» ⟨[.ref a],[]⟩) P E s:=by
 have s1:=Heap.SameBut.update s.heap a (a7 λ_=>(#[]:Array ζ));obtain⟨e1,ho1⟩:∃e1,(s.heap.update a (a7 λ_=>(#[]:Array ζ))).get? a=some (seqObj "list" #[] e1):=⟨_,j7 ho λ_=>#[]⟩;have hlz:ps.length≤aA:=aH hz (by decide);generalize hvs:(ps.map f)=vs at ho;have hlen:vs.length=ps.length:=by rw[←hvs,ε]
 have hu3:∀b o,b≠a->s.heap.get? b=some o->(((s.heap.update a (a7 λ_=>(#[]:Array ζ))).push (seqObj "tuple" vs.toArray 0)).push (seqObj "list" #[] 0)).get? b=some o:=λb o hb e=>
  Heap.get?_push_of_some _ (Heap.get?_push_of_some _ ((s1.2 b hb).trans e))
 have ho3:(((s.heap.update a (a7 λ_=>(#[]:Array ζ))).push (seqObj "tuple" vs.toArray 0)).push (seqObj "list" #[] 0)).get? a=some (seqObj "list" #[] e1):=Heap.get?_push_of_some _ (Heap.get?_push_of_some _ ho1);rw[list_sort_plain];refine γ (pJ ho rfl (γ (lG ho rfl (γ (qB ho1 rfl (γ (kL (γ (nT (bY ?_) (ar _))) (by rw[hlen];exact hlz))))) (by rw[Ω,hlen];exact hlz) (ar _))));generalize ((s.heap.update a (a7 λ_=>(#[]:Array ζ))).push (seqObj "tuple" vs.toArray 0)).push (seqObj "list" #[] 0)=h3 at hu3 ho3 ⊢;obtain⟨hk1,tf⟩:=hk h3 hu3;dsimp only;have hn2:¬vs.toArray.size<2:=by rw[Ω];lia
 rw[if_neg hn2,if_neg hn2];refine γ ?_;rw[←hvs];refine hk1 _ _ ?_;have C:kx prog w A κ { s with heap:=h3 } (λx=>∃p∈ps,x=(f p,f p)) (Lk lt f ps):=by
  rintro x y ⟨p,hp,rfl⟩ ⟨q,hq,rfl⟩ Q E' hQ;rw[Hc inj hp hq] at hQ;exact tf p hp q hq Q E' hQ
 have run:=Qy (E:=E) (Q:=λ_ st' s'=>s'={ s with heap:=h3 }/\∃qs:List α,tE lt ps qs/\failedOf st'=none/\(arrOf st').map (·.2)=(qs.map f).toArray) (X0:=ps.map λp=>(f p,f p)) (st:=rV κ ((ps.map f).toArray.zip (ps.map f).toArray) #[] 7 none) C (Qx O) (λx hx=>by obtain⟨p,hp,rfl⟩:=υ.mp hx;exact⟨p,hp,rfl⟩) rfl rfl rfl
  (by rw[Array.toList_zip];exact G9 f ps) (by rw[ε];lia) λst' hf hp hs=>⟨rfl,?_⟩
 ·refine γ (eY run ?_ λ_ _ e=>e);rintro⟨⟨⟩,st'⟩ s' ⟨rfl,qs,hS,hf,hout⟩;have hsz:(mI (qs.map f)).size=ps.length:=by rw[Ω,ε,hS.perm.length_eq]
  rw[hout];have s2:=Heap.SameBut.update h3 a (a7 λ_=>mI (qs.map f));obtain⟨c2,hc2⟩:∃c2,(h3.update a (a7 λ_=>mI (qs.map f))).get? a=some (seqObj "list" (mI (qs.map f)) c2):=⟨_,j7 ho3 λ_=>mI (qs.map f)⟩;refine γ (qB ho3 rfl (γ (lG ho3 rfl ?_ (ar _) (aH (Nat.le_of_eq hsz) (Nat.le_succ_of_le hlz)))));rw[hf];simp only[bne_self_eq_false,eQ,if_false];exact δ (h qs _ c2 hS hc2 λb o hb e=>(s2.2 b hb).trans (hu3 b o hb e))
 ·obtain⟨qs,pq,eq⟩:=L3.lb hp rfl;refine⟨qs,⟨pq,?_⟩,hf,?_⟩
  ·rw[eq,aO] at hs;exact c5 (λ{x y} hx hy hle=>by
    have hle:Lk lt f ps (f y,f y) (f x,f x)=false:=hle;rwa [Hc inj (pq.mem_iff.mp hy) (pq.mem_iff.mp hx)] at hle) hs
  ·apply Array.toList_inj.mp;rw[Array.toList_map,eq,aJ];rfl
theorem GZ{α:Type}{lt:α->α->Bool}{f:α->ζ}{κ:dR}(O:tG lt){l:ν}{Q:ζ->η->Prop}{Gd:List α->η->Prop}
  (uQ:∀(R:List ζ->η->Prop),(∀s1 ps,Gd ps s1->R (ps.map f) s1)->χ (model prog w) A.in1 (collect (.ref l)) R E s)
  (xW:∀s1 ps,Gd ps s1->ps.length≤1000000/\(∀p∈ps,∀q∈ps,f p=f q->p=q)/\∀s':η,2≤ps.length->(∀b o,s1.heap.get? b=some o->s'.heap.get? b=some o) ->
   (∀(Q:dR->η->Prop) (E':ζ->η->Prop),Q κ s'->χ (model prog w) A.in1.in1 (keyKind' (ps.map f).toArray) Q E' s')/\∀p∈ps,∀q∈ps,∀(Q:Bool->η->Prop) (E':ζ->η->Prop),Q (lt p q) s'->χ (model prog w) A.in1.in1 (keyLt' κ (f p) (f q)) Q E' s')
  (h:∀s1 ps qs h' c D,Gd ps s1->tE lt ps qs->s1.heap.get? D=none->h'.get? D=some (seqObj "list" (qs.map f).toArray c)->(∀b o,s1.heap.get? b=some o->h'.get? b=some o)->Q (.ref D) { s1 with heap:=h' }):
  χ (model prog w) A (call (.builtin "sorted") [.ref l]) Q E s:=by
 refine Calls.call_function_entry kind_sorted plain_sorted entry_sorted (args_sorted1 _) ?_;unfold f9.«sorted»;refine γ (m:=checkCount "sorted" 1 1 _) (δ ?_);refine γ (uQ _ λs1 ps g=>?_);obtain⟨hz,inj,hk⟩:=xW s1 ps g;refine γ (nT ?_ (by rw[ε];exact aH hz (by decide)));have hoL:(s1.heap.push (seqObj "list" (ps.map f).toArray 0)).get? s1.heap.objs.size=some (seqObj "list" (ps.map f).toArray 0):=Heap.get?_push_size _ rfl;have hfr:s1.heap.get? s1.heap.objs.size=none:=by
  cases hz:s1.heap.get? s1.heap.objs.size with
  |none=>rfl
  |some o=>exact absurd (Heap.lt_size hz) (cA _)
 have keep:∀b o,s1.heap.get? b=some o->(s1.heap.push (seqObj "list" (ps.map f).toArray 0)).get? b=some o:=λb o e=>Heap.get?_push_of_some _ e;show χ _ _ _ _ _ { s1 with heap:=s1.heap.push (seqObj "list" (ps.map f).toArray 0)};refine γ (bY (bA slot_list_sort ⟨_,hoL,rfl⟩ entry_list_sort ?body (args_list_sort _)));have fin:∀qs h' c,tE lt ps qs->h'.get? s1.heap.objs.size=some (seqObj "list" (qs.map f).toArray c)->(∀b o,b≠s1.heap.objs.size->(s1.heap.push (seqObj "list" (ps.map f).toArray 0)).get? b=some o->h'.get? b=some o)->Q (.ref s1.heap.objs.size) { s1 with heap:=h' }:=λqs h' c hS e kk=>
  h s1 ps qs h' c _ g hS hfr e λb o e1=>kk b o (aV (Heap.lt_size e1)) (keep b o e1)
 case body=>
  by_cases h2:2≤ps.length
  ·refine Qw O (s:={ s1 with heap:=s1.heap.push (seqObj "list" (ps.map f).toArray 0)}) hoL inj (λh' kk=>hk { s1 with heap:=h' } h2 λb o e=>kk b o (aV (Heap.lt_size e)) (keep b o e)) h2 hz λqs h' c hS e kk=>?_;exact⟨_,rfl,δ ⟨_,rfl,fin qs h' c hS e kk⟩⟩
  ·refine Rh (s:={ s1 with heap:=s1.heap.push (seqObj "list" (ps.map f).toArray 0)}) hoL (by rw[ε];lia) λh' c e kk=>?_;have hS:tE lt ps ps:=⟨.refl _,by
    rcases ps with _|⟨x,_|⟨y,r⟩⟩
    ·exact .nil
    ·exact bE _ _
    ·simp at h2⟩
   exact⟨_,rfl,δ ⟨_,rfl,fin ps h' c hS e kk⟩⟩
theorem rD{f:α->ζ}(O:tG lt)(inj:∀p∈ps,∀q∈ps,f p=f q->p=q)
  (hk:∀s':η,2≤ps.length->(∀b o,s.heap.get? b=some o->s'.heap.get? b=some o)->(∀(Q:dR->η->Prop) (E':ζ->η->Prop),Q κ s'->χ (model prog w) A.in1.in1 (keyKind' (ps.map f).toArray) Q E' s') ∧
   ∀p∈ps,∀q∈ps,∀(Q:Bool->η->Prop) (E':ζ->η->Prop),Q (lt p q) s'->χ (model prog w) A.in1.in1 (keyLt' κ (f p) (f q)) Q E' s') (hz:ps.length≤1000000)
  (uQ:∀(R:List ζ->η->Prop),(∀s',iL [] (λx y=>y=x) s s'->R (ps.map f) s')->χ (model prog w) A.in1 (collect (.ref l)) R E s)
  (h:∀qs s' c D,tE lt ps qs->s.heap.get? D=none->s'.heap.get? D=some (seqObj "list" (qs.map f).toArray c)->iL [] (λx y=>y=x) s s'->Q (.ref D) s'):
  χ (model prog w) A (call (.builtin "sorted") [.ref l]) Q E s:=by
 refine GZ (κ:=κ) (Gd:=λqs s1=>qs=ps/\iL [] (λx y=>y=x) s s1) O (λR hR=>uQ R λs' hm=>hR s' ps ⟨rfl,hm⟩) ?_ ?_
 ·rintro s1 _ ⟨rfl,hm⟩;exact⟨hz,inj,λs' h2 kk=>hk s' h2 λb o e=>kk b o (hm.heap b o (λz=>nomatch z) e)⟩
 ·rintro s1 _ qs h' c D ⟨rfl,hm⟩ hS hn e kk;have k0:=λb o e=>hm.heap b o (λz=>nomatch z) e;refine h qs _ c D hS ?_ e ⟨λb o _ e1=>kk b o (k0 b o e1),hm.gens,hm.drawn,hm.os,hm.toks⟩;cases hz:s.heap.get? D with
  |none=>rfl
  |some o=>exact absurd (hn.symm.trans (k0 _ _ hz)) nofun
end
end fQ
namespace cQ
abbrev ent(prog:PySem.Program)(w:PySem.World):=(kI prog w).ent
end cQ
namespace aR
open PySem PySem.W PyProof.Rows cQ
section
variable {prog:ao} {w:aC} {A:aQ} {E:ζ->η->Prop} {s:η}
theorem sI(hk:∀p∈ps,iF prog w s.heap p.1 p.2/\p.1≠[])(h64:ps.length<64)
  (uQ:∀(R:List ζ->η->Prop),(∀s',iL [] (λx y=>y=x) s s'->R (ps.map fT) s')->χ (model prog w) A.in1 (collect (.ref l)) R E s)
  (h:∀qs s' c D,LD ps qs->s.heap.get? D=none->s'.heap.get? D=some (seqObj "list" (qs.map fT).toArray c)->iL [] (λx y=>y=x) s s'->Q (.ref D) s'):
  χ (model prog w) A (call (.builtin "sorted") [.ref l]) Q E s:=by
 refine fQ.rD (κ:=tuples' true) Zf (λp hp q hq e=>?_) (λs' h2 kk=>?_) (by lia) uQ h
 ·obtain⟨k,b⟩:=p;obtain⟨k',b'⟩:=q;have e:aw b=aw b':=e;injection e with e;subst e;have ek:k=k':=(hk _ hp).1.inj (hk _ hq).1;rw[ek]
 ·have hk':∀p∈ps,iF prog w s'.heap p.1 p.2/\p.1≠[]:=λp hp=>⟨Rg kk (hk p hp).1,(hk p hp).2⟩;exact⟨λQ E q=>Ri (λz=>by rw[z] at h2;simp at h2) hk' q,λp hp q hq Q E h=>Rj (hk' p hp).1 (hk' q hq).1 h⟩
end
end aR
namespace L3
open PySem PySem.Spec PyProof.Rows L2
structure A7(T:String):Prop where
 aE:∀K,PySem.W.kitOne K (.type "NoneType") (.type T)=some false
 bl:∀K,PySem.W.kitOne K (.type "bool") (.type T)=some (T=="bool" || T=="int")
 int:∀K,PySem.W.kitOne K (.type "int") (.type T)=some (T=="int")
 str:∀K,PySem.W.kitOne K (.type "str") (.type T)=some (T=="str")
 tup:∀K,PySem.W.kitOne K (.type "tuple") (.type T)=some (T=="tuple")
 lst:∀K,PySem.W.kitOne K (.type "list") (.type T)=some (T=="list")
 mS:∀K,PySem.W.kitOne K (.type "dict") (.type T)=some (T=="dict")
theorem Qv:A7 "int":=⟨λ_=>rfl,λ_=>rfl,λ_=>rfl,λ_=>rfl,λ_=>rfl,λ_=>rfl,λ_=>rfl⟩
theorem Qu:A7 "bool":=⟨λ_=>rfl,λ_=>rfl,λ_=>rfl,λ_=>rfl,λ_=>rfl,λ_=>rfl,λ_=>rfl⟩
theorem kit_tuple:A7 "tuple":=⟨λ_=>rfl,λ_=>rfl,λ_=>rfl,λ_=>rfl,λ_=>rfl,λ_=>rfl,λ_=>rfl⟩
section
variable {X:Cx} {a e:aT} {es:List aT} {ta:cu} {t:jK} {pos p p2:d9}
theorem Qt(k:A7 T):gG X (.builtin "isinstance") (λvs H Q=>∃d v G b,vs=[v,.ty T]/\Hv X.K H d v/\bh X.K G H/\lF T G d=some b/\Q (.bl b) H):=by
 intro pins s σ H vs us Q I r h;obtain⟨d,v,G,b,rfl,hd,RG,hb,q⟩:=h;obtain⟨u,c,rfl,ru,rc⟩:=vals2 r;cases (show c=gs T from rc);have fin:∀tk,EP X pins σ Q (.bool b) { s with toks:=tk }:=λtk=>⟨.bl b,H,I.tok tk,rfl,q⟩
 cases d with
 |aE=>
  unfold Hv at hd;subst hd;cases (show u=cq from ru);cases hb;exact PySem.W.kia_one PySem.W.kitx_none I.oi oO (k.aE _) (λz=>nomatch z) fin
 |bl y=>
  rw[vP hd] at ru;cases (show u=gu y from ru);cases hb;exact PySem.W.kia_one PySem.W.kitx_bool I.oi oO (k.bl _) (λz=>nomatch z) fin
 |int y=>
  rw[jX hd] at ru;obtain⟨t,rfl⟩:=(show ∃t,u=iG y t from ru);cases hb;exact PySem.W.kia_one PySem.W.kitx_int I.oi oO (k.int _) (λz=>nomatch z) fin
 |str y=>
  unfold Hv at hd;subst hd;obtain⟨t,rfl⟩:=(show ∃t,u=ζ.str y t from ru);cases hb;exact PySem.W.kia_one PySem.W.kitx_str I.oi oO (k.str _) (λz=>nomatch z) fin
 |tup ds=>
  obtain⟨x,xs,rfl,e1,_⟩:=mQ hd;cases (show u=aw x from ru);cases hb;obtain⟨its,_,⟨o,h1,h2,_⟩,_⟩:=I.tuple e1;exact PySem.W.kia_one PySem.W.kitx_tuple I.oi ⟨o,h1,h2⟩ (k.tup _) (λz=>nomatch z) fin
 |gQ ds=>
  obtain⟨x,xs,rfl,e1,_⟩:=sQ hd;cases (show u=aw x from ru);cases hb;obtain⟨its,_,p1,_⟩:=I.list e1.l;obtain⟨o,h1,h2,_⟩:=p1.isList;exact PySem.W.kia_one PySem.W.kitx_list I.oi ⟨o,h1,h2⟩ (k.lst _) (λz=>nomatch z) fin
 |dc x=>
  obtain⟨rfl,ob,φ,e1,c⟩:=hd;cases (show u=aw x from ru);cases hb;obtain⟨h1,_⟩:=I.bX x _ e1;exact PySem.W.kia_one PySem.W.kitx_dict I.oi ⟨ob,h1,c⟩ (k.mS _) (λz=>nomatch z) fin
 |obj x=>
  rw[iY hd] at ru;cases (show u=aw x from ru);unfold lF at hb;cases hG:G x with
  |none=>simp[hG] at hb
  |some o=>
   have hl:∀xs,H x=some (.lst xs)->∃o,s.heap.get? x=some o/\o.cls=.type "list":=λxs e=>by
    obtain⟨_,_,n,_,h1⟩:=(show fk X.prog X.w H s.heap x (.lst xs) from I.bX x _ e);exact⟨_,h1,rfl⟩
   cases o with
   |lst ds=>
    simp only[hG] at hb;cases hb;obtain⟨vs,e1,_⟩:=RG x _ hG;obtain⟨o,h1,h2⟩:=hl _ e1;exact PySem.W.kia_one PySem.W.kitx_list I.oi ⟨o,h1,h2⟩ (k.lst _) (λz=>nomatch z) fin
   |qV=>
    simp only[hG] at hb;cases hb;obtain⟨_,_,_,e1,_⟩:=RG x _ hG;obtain⟨o,h1,h2⟩:=hl _ e1;exact PySem.W.kia_one PySem.W.kitx_list I.oi ⟨o,h1,h2⟩ (k.lst _) (λz=>nomatch z) fin
   |gen R=>simp[hG] at hb
   |mS=>
    simp only[hG] at hb;cases hb;have e1:=RG x _ hG;obtain⟨⟨o,h1,h2⟩,_⟩:=(show fk X.prog X.w H s.heap x _ from I.bX x _ e1);exact PySem.W.kia_one PySem.W.kitx_dict I.oi ⟨o,h1,h2⟩ (k.mS _) (λz=>nomatch z) fin
theorem Qs{TS:aG}(k:A7 T)(hv:jj TS=some (.type T))(ha:cv X a ta)(hm:X.mg "isinstance" = none)(hm2:X.mg TS=none)(hgT:Gl X TS)(hnT:TS≠"__name__")(hdT:(TS==("__debug__":aG))=false)(hg:Gl X "isinstance":=by rfl)
  (he:notStar a=true:=by rfl):
  cv X (.Call (.Name "isinstance" p) [a,.Name TS p2] [] pos) (vq T ta):=
 jJ (qT (Qt k) hg hm rfl (sW ha (sW (Vo (v:=.ty T) hgT hm2 hv rfl hnT hdT) uk (eU rfl)) (eU he)) (he:=eU he) (hpl:=k9 rfl)) λσ H Q zz=>by
  obtain⟨τ,G,Q3,RS,RG,h,k⟩:=zz;refine⟨τ,G,_,RS,RG,h,λv H1 d G1 h1 S1 R1 q1=>?_⟩;cases hb:lF T G1 d with
  |none=>rw[hb] at q1;exact q1.elim
  |some b=>
   rw[hb] at q1;exact⟨d,v,G1,b,rfl,h1,R1,hb,k _ H1 (.bl b) G1 pZ S1 R1 q1⟩
end
def tupI(ns:List Int):D:=.tup (ns.map D.int)
section
variable {P:ao} {w:aC} {H:Hp} {h:Heap} {a:ν} {o:HO}
theorem Qr(x:fk P w H h a o):∃o,h.get? a=some o:=by
 cases o with
 |lst xs=>obtain⟨_,_,_,_,e⟩:=x;exact⟨_,e⟩
 |tup xs=>obtain⟨_,_,_,o,e,_⟩:=x;exact⟨_,e⟩
 |dK kvs=>obtain⟨_,_,_,_,o,_,_,e,_⟩:=x;exact⟨_,e⟩
 |dT kvs=>obtain⟨_,_,_,_,o,_,_,e,_⟩:=x;exact⟨_,e⟩
 |set S n=>obtain⟨o,_,_,_,e,_⟩:=x;exact⟨_,e⟩
 |ins C dx fs=>obtain⟨_,_,_,e,_⟩:=x;exact⟨_,e⟩
 |own y=>obtain⟨_,e⟩:=x;exact⟨_,e⟩
 |xd fs=>obtain⟨_,⟨_,_,_,e,_⟩,_⟩:=x;exact⟨_,e⟩
 |C9 lo hi=>obtain⟨_,_,_,e⟩:=x;exact⟨_,e⟩
 |iZ ob u=>obtain⟨e,_⟩:=x;exact⟨_,e⟩
 |wx ps=>exact⟨_,(show h.get? a=some _ from x)⟩
 |met f y=>exact⟨_,(show h.get? a=some _ from x)⟩
 |ext φ=>obtain⟨_,⟨_,e⟩,_⟩:=x;exact⟨_,e⟩
end
section
variable {X:Cx} {pins:List (ν×bT)} {σ:L2.St} {H:Hp} {s:η}
theorem Inv.vj(I:Inv X pins σ H s)(hn:s.heap.get? a=none):H a=none:=by
 cases e:H a with
 |none=>rfl
 |some o=>
  obtain⟨ob,h⟩:=Qr (I.bX a o e);rw[hn] at h;cases h
theorem Inv.wM{a:ν}{o:HO}{t':Nat}{h':Heap}(I:Inv X pins σ H s)(k:∀b u,s.heap.get? b=some u->h'.get? b=some u)(hn:s.heap.get? a=none)(new:fk X.prog X.w (upd H a o) h' a o):
  Inv X pins σ (upd H a o) { s with heap:=h',toks:=t' }:=by
 have hH:=Inv.vj I hn;have ne:∀b u,s.heap.get? b=some u->b≠a:=λb u e z=>by rw[z,hn] at e;cases e
 refine I.un ⟨λb u q _ _ _=>k b u q,λb u q _ _ _=>⟨u.slots,k b u q⟩,λb u q n _=>by rw[fj (ne b u q)];exact n,λb u q _=>⟨u,k b u q⟩,λb xs q=>by rw[fj (qU q hH)];exact q,
  λb u xs q=>by rw[fj (qU q hH)];exact q,λb ps q=>⟨#[],by rw[fj (qU q hH),q];simp⟩⟩ λb u e=>?_
 by_cases hb:b=a
 ·subst hb;rw[jw] at e;cases e;exact new
 ·rw[fj hb] at e;exact (I.bX b u e).sH (λc v _ q=>k c v q) (λc q=>by rw[fj (qU q hH)];exact q) λc xs q=>by rw[fj (qU q hH)];exact q
theorem zu:∀{us:List ζ},bq (ns.map V.int) us->ItemsAre (intKind X.prog X.w) ns us:=by
 induction ns with
 |nil=>intro us r;cases r;exact .nil
 |cons n ns ih=>
  intro us r;cases r with
  |cons r1 r2=>
   obtain⟨t,rfl⟩:=(show ∃t,_=iG n t from r1);exact .cons (by show qC n (.int n t)=true;simp[qC]) (ih r2)
theorem xw(I:Inv X pins σ H s):∀{nss:List (List Int)} {vs:List V} {us:List ζ},aU X.K H (nss.map tupI) vs->bq vs us ->
  ∃ps:List (List Int×ν),ps.map (·.1)=nss/\vs=ps.map (λp=>.ref p.2)/\us=ps.map (λp=>aw p.2)/\∀p∈ps,cR X.K H p.2 (p.1.map V.int)/\cQ.iF X.prog X.w s.heap p.1 p.2
 |[],vs,us,h,r=>by
  cases h.kn;cases r;exact⟨[],rfl,rfl,rfl,λp hp=>nomatch hp⟩
 |ns::nss,vs,us,h,r=>by
  obtain⟨v,vr,rfl,q1,q2⟩:=h.inv;cases r with
  |cons r1 r2=>
   obtain⟨ps,e1,e2,e3,e4⟩:=xw I q2 r2;obtain⟨a,ws,rfl,z1,z2⟩:=mQ q1;have hw:ws=ns.map V.int:=by
    refine ui z2 ?_;clear z2 z1 q1 h e1 e2 e3 e4 q2 r2 r1
    induction ns with
    |nil=>rfl
    |cons n ns ih=>simp[intsOf,ih]
   subst hw;cases (show _=aw a from r1);obtain⟨its,rv,⟨o,h1,h2,n,h3⟩,_⟩:=I.tuple z1;refine⟨(ns,a)::ps,by simp[e1],by simp[e2],by simp[e3],λp hp=>?_⟩;rcases Ψ.mp hp with rfl|hp
   ·exact⟨z1,o,its.toArray,n,h1,h2,h3,zu rv⟩
   ·exact e4 p hp
theorem zt{K:PySem.W.Frag}:∀{qs:List (List Int×ν)},(∀p∈qs,cR K H p.2 (p.1.map V.int))->aU K H ((qs.map (·.1)).map tupI) (qs.map λp=>.ref p.2)
 |[],_=>.nil
 |q::qs,h=>.cons (uj (h q ι) (aU.ints _)) (zt λp hp=>h p (μ _ hp))
theorem GY:∀(qs:List (List Int×ν)),bq (qs.map λp=>V.ref p.2) (qs.map λp=>aw p.2)
 |[]=>.nil
 |q::qs=>.cons rfl (GY qs)
def gX(nss:List (List Int)):Prop:=nss.Pairwise λx y=>aR.lx y x=false
theorem B7(I:Inv X pins σ H s)(hz:ps.length<64)(hS:aR.LD ps qs)(hn:s.heap.get? D'=none)(hD:s'.heap.get? D'=some (seqObj "list" (qs.map λp=>aw p.2).toArray c))
  (hm:iL [] (λx y=>y=x) s s') (q:H D'=none->Q (.ref D') (upd H D' (.lst (qs.map λp=>.ref p.2)))):EP X pins σ Q (.ref D') s':=by
 have e:s'={ s with heap:=s'.heap,toks:=s'.toks }:=by
  cases s';cases s;have h1:=hm.gens;have h2:=hm.drawn;have h3:=hm.os;simp only at h1 h2 h3;subst h1 h2 h3;rfl
 rw[e];refine⟨.ref D',_,Inv.wM I (o:=.lst (qs.map λp=>.ref p.2)) (λb u z=>hm.heap b u (λy=>nomatch y) z) hn ⟨?_,_,c,GY qs,hD⟩,rfl,q (Inv.vj I hn)⟩;rw[ε,hS.perm.length_eq,cG];lia
theorem Qq(hc:X.calm=true)(hu:X.A.units+64<cLine):gG X (.builtin "sorted") (λvs H Q=>∃(a:ν) (xs:List V) (nss:List (List Int)),vs=[.ref a]/\fw X.K H a xs/\aU X.K H (nss.map tupI) xs/\nss.length<64/\(∀ns∈nss,ns≠[]) ∧
  ∀(p:ν) (mss:List (List Int)) (ys:List V),H p=none->mss.Perm nss->gX mss->aU X.K H (mss.map tupI) ys->Q (.ref p) (upd H p (.lst ys))):=by
 intro pins s σ H vs us Q I r h;obtain⟨a,xs,nss,rfl,hl,hv,hz,hne,q⟩:=h;obtain⟨u,rfl,ru⟩:=vals1 r;cases ru;obtain⟨its,rv,pl,_⟩:=I.list hl;obtain⟨ps,e1,e2,e3,e4⟩:=xw I hv rv;subst e3;have hlen:ps.length=nss.length:=by rw[←e1,ε]
 refine aR.sI (ps:=ps) (λp hp=>⟨(e4 p hp).2,hne _ (by rw[←e1];exact υ.mpr ⟨p,hp,rfl⟩)⟩) (by lia) (λR hR=>?_) λqs s' c D' hS hn hD hm=>?_
 ·refine collect_list pl.isList (hR _ ⟨λb o _ e=>?_,rfl,rfl,rfl,ρ _⟩) (by rw[ε,cG];lia);have hlt:=Heap.lt_size e;rw[Heap.get?_update_other _ _ (bL hlt)];exact Heap.get?_push_of_some _ e
 ·refine B7 I (by lia) hS hn hD hm λhf=>?_;exact q _ (qs.map (·.1)) _ hf (by rw[←e1];exact hS.perm.map _) (aO.mpr hS.rise) (zt λp hp=>(e4 p (hS.perm.mem_iff.mp hp)).1)
end
def wX(P:ao)(w:aC)(b:ν)(zs:List (List Int×ν)):Heap->Prop:=λh=>∃o es ep t,h.get? b=some o/\o.ExactSet/\o.data=.set es ep t/\es.toList=zs.map (cQ.ent P w)/\(zs.map (·.1)).Nodup/\t.plain=true ∧
 t.led=(!(w.params.followText "set-order"))/\lP.Tab t (es.toList.map (·.1))
section
variable {X:Cx}
theorem Qp(hc:X.calm=true)(hu:X.A.units+64<cLine):gG X (.builtin "sorted") (λvs H Q=>∃(b:ν) (zs:List (List Int×ν)),vs=[.ref b]/\H b=some (.ext (wX X.prog X.w b zs))/\(∀p∈zs,cR X.K H p.2 (p.1.map V.int))/\zs.length≤60/\(∀p∈zs,p.1≠[]) ∧
  ∀(p:ν) (mss:List (List Int)) (ys:List V),H p=none->mss.Perm (zs.map (·.1))->gX mss->aU X.K H (mss.map tupI) ys->Q (.ref p) (upd H p (.lst ys))):=by
 intro pins s σ H vs us Q I r h;obtain⟨b,zs,rfl,hb,hk,hz,hne,q⟩:=h;obtain⟨u,rfl,ru⟩:=vals1 r;cases ru;obtain⟨⟨o,es,ep,t,y1,y2,y3,y4,y5,y6,y7,T⟩,_⟩:=(show fk X.prog X.w H s.heap b _ from I.bX b _ hb);have hK:∀p∈zs,cQ.iF X.prog X.w s.heap p.1 p.2:=λp hp=>by
  obtain⟨its,rv,⟨o,h1,h2,n,h3⟩,_⟩:=I.tuple (hk p hp);exact⟨o,its.toArray,n,h1,h2,h3,zu rv⟩
 have S:cQ.KP X.prog X.w s.heap b o es ep t zs:=⟨y1,y2,y3,y4,hK,y5,y6,y7⟩;obtain⟨zs',p1,p2⟩:=lb (cQ.mm X.w b ep es) y4;have hsz:es.size=zs.length:=by
  have:es.toList.length=zs.length:=by rw[y4,ε]
  simpa using this
 refine aR.sI (ps:=zs') (λp hp=>⟨hK p (p1.mem_iff.mp hp),hne p (p1.mem_iff.mp hp)⟩) (by rw[p1.length_eq];omega) (λR hR=>?_) λqs s' c D' hS hn hD hm=>?_
 ·refine cQ.qO (by have:=I.ok.hd hc;simpa using this) S.wk T (by omega) λs' hm=>?_;have:=hR s' hm;rwa [p2,aJ]
 ·refine B7 I (by rw[p1.length_eq];omega) hS hn hD hm λhf=>?_;exact q _ (qs.map (·.1)) _ hf ((hS.perm.map _).trans (p1.map _)) (aO.mpr hS.rise) (zt λp hp=>hk p (p1.mem_iff.mp (hS.perm.mem_iff.mp hp)))
variable{K:PySem.W.Frag}{e:aT}{es:List aT}{t:jK}{ta:cu}{pos p p' pos':d9}
def xu:C3:=λds G Q=>match ds with
 |[.obj a]=>∃nss:List (List Int),G a=some (.lst (nss.map tupI))/\nss.length<64/\(∀ns∈nss,ns≠[])/\∀(p:ν) (mss:List (List Int)) (G':Gp),d8 G p (.lst (mss.map tupI)) G'->mss.Perm nss->gX mss->Q (.obj p) G'
 |_=>False
theorem Qo:nR K xu (λvs H Q=>∃(a:ν) (xs:List V) (nss:List (List Int)),vs=[.ref a]/\fw K H a xs/\aU K H (nss.map tupI) xs/\nss.length<64/\(∀ns∈nss,ns≠[]) ∧
  ∀(p:ν) (mss:List (List Int)) (ys:List V),H p=none->mss.Perm nss->gX mss->aU K H (mss.map tupI) ys->Q (.ref p) (upd H p (.lst ys))):=λds vs G H Q3 Q h RG q k=>by
 rcases ds with _|⟨d,_|⟨d2,ds⟩⟩
 ·exact q.elim
 ·obtain⟨v,rfl,hv⟩:=nO h;cases d with
  |obj a=>
   obtain⟨nss,e1,hz,hne,q⟩:=q;obtain⟨xs,e2,e3⟩:=RG a _ e1;rw[iY hv];exact⟨a,xs,nss,rfl,.of e2,e3,hz,hne,λp mss ys hp h1 h2 h3=>k _ _ (.obj p) _ qS (.iq hp) (RG.nN hp h3) (q p mss _ (.mk' (RG.free hp)) h1 h2)⟩
  |_=>exact q.elim
 ·cases d<;>exact q.elim
theorem Qn(hu:X.A.units+64<cLine)(hm:X.mg "sorted" = none)(ha:l5 X (e::es) t)(hc:X.calm=true:=by rfl)(hg:Gl X "sorted":=by rfl)(he:notStar e=true:=by rfl)(hpl:es.all notStar=true:=by rfl):
  cv X (.Call (.Name "sorted" p) (e::es) [] pos) (du xu t):=qx Qo (qT (Qq hc hu) hg hm rfl ha (he:=eU he) (hpl:=k9 hpl))
theorem B6(hc:X.calm=true){pins:List (ν×bT)}{s:η}{σ:L2.St}{H:Hp}{a:ν}{xs:List V}{E:ζ->η->Prop}(I:Inv X pins σ H s)(hl:fw X.K H a xs){Q:ζ->η->Prop}
  (q:∀(its:List ζ) (I':ν),bq xs its->WalksS X.prog X.w X.A.in1 I' [I',a] [I'] (λx y=>y=x) its.length (λi v=>its[i]?=some v) (λi s=>s.heap.IsListIter I' a i/\s.heap.IsList a its.toArray) ->
   (s.heap.push { cls:=.type "list_iterator",data:=.fields #[.ref a,.int 0 0]}).IsListIter I' a 0->(s.heap.push { cls:=.type "list_iterator",data:=.fields #[.ref a,.int 0 0]}).IsList a its.toArray ->
   (∀b∈[I',a],b<(s.heap.push { cls:=.type "list_iterator",data:=.fields #[.ref a,.int 0 0]}).objs.size) ->
   (∀s',iL [I'] (λx y=>y=x) { s with heap:=s.heap.push { cls:=.type "list_iterator",data:=.fields #[.ref a,.int 0 0]}} s'->Inv X pins σ H s')->Q (.ref I') { s with heap:=s.heap.push { cls:=.type "list_iterator",data:=.fields #[.ref a,.int 0 0]}}):
  χ (model X.prog X.w) X.A.in1 (pyIter (.ref a)) Q E s:=by
 obtain⟨its,rv,pl,_⟩:=I.list hl;have hla:a<s.heap.objs.size:=by
  obtain⟨o,h1,_⟩:=pl.isList;exact Heap.lt_size h1
 refine fW pl.isList ?_;have hW:=(Walks.list (prog:=X.prog) (w:=X.w) (A:=X.A.in1) (by have:=I.ok.hd hc;simpa using this) s.heap.objs.size a (aV hla) its.toArray).toS;refine q its s.heap.objs.size rv (by simpa using hW) ⟨_,Heap.get?_push_size _ rfl,rfl,rfl⟩ ?_ ?_ λs' hm=>?_
 ·obtain⟨o,h1,h2⟩:=pl.isList;exact⟨o,Heap.get?_push_of_some _ h1,h2⟩
 ·intro b hb;rw[size_push'];rcases Ψ.mp hb with e|e
  ·rw[e];exact lR _
  ·have:b=a:=by simpa using e
   rw[this];exact ja hla
 ·have e:s'={ s with heap:=s'.heap,toks:=s'.toks }:=by
   cases s';cases s;have h1:=hm.gens;have h2:=hm.drawn;have h3:=hm.os;simp only at h1 h2 h3;subst h1 h2 h3;rfl
  rw[e];exact I.kept λb u z=>hm.heap b u (λy=>by
   have:b=s.heap.objs.size:=by simpa using y
   exact absurd (this▸Heap.lt_size z) (cA _)) (Heap.get?_push_of_some _ z)
theorem GX(ns:List Int):∀k,k≤ns.length->preSum (λi=>ns.getD i 0) k=(ns.take k).sum
 |0,_=>by simp[preSum]
 |k+1,hk=>by
  rw[preSum,GX ns k (by omega),List.take_succ,kc];have:k<ns.length:=by omega
  simp[List.getD,this]
theorem Qm(hc:X.calm=true):gG X (.builtin "sum") (λvs H Q=>∃(a:ν) (ns:List Int),vs=[.ref a]/\fw X.K H a (ns.map V.int)/\Q (.int ns.sum) H):=by
 intro pins s σ H vs us Q I r h;obtain⟨a,ns,rfl,hl,q⟩:=h;obtain⟨u,rfl,ru⟩:=vals1 r;cases ru;refine call_sum_walkAnyS (B6 hc I hl λits I' rv W h1 h2 h3 back=>⟨I',_,_,_,_,_,_,λi=>ns.getD i 0,rfl,W,⟨h1,h2⟩,h3,?_,λs' t' hm=>?_⟩)
 ·intro i v hv;have hi:i<ns.length:=by
   have h4:its.length=ns.length:=by rw[←rv.length,ε]
   have:=(Γ.mp hv).1;omega
  obtain⟨u',e1,e2⟩:=rv.get (i:=i) (x:=.int ns[i]) (by rw[ax,Θ hi];rfl);rw[hv] at e1;cases e1;obtain⟨t,rfl⟩:=(show ∃t,v=iG ns[i] t from e2);exact⟨t,by simp[List.getD,hi]⟩
 ·have h4:its.length=ns.length:=by rw[←rv.length,ε]
  rw[h4,GX ns ns.length (ρ _),lS];exact⟨.int ns.sum,H,back s' hm,⟨t',rfl⟩,q⟩
def xt:C3:=λds G Q=>match ds with
 |[.obj a]=>∃xs ns,G a=some (.lst xs)/\intsOf xs=some ns/\Q (.int ns.sum) G
 |_=>False
theorem Ql:nR K xt (λvs H Q=>∃(a:ν) (ns:List Int),vs=[.ref a]/\fw K H a (ns.map V.int)/\Q (.int ns.sum) H):=λds vs G H Q3 Q h RG q k=>by
 rcases ds with _|⟨d,_|⟨d2,ds⟩⟩
 ·exact q.elim
 ·obtain⟨v,rfl,hv⟩:=nO h;cases d with
  |obj a=>
   obtain⟨xs,bs,e1,e2,q⟩:=q;obtain⟨ys,e3,e4⟩:=RG a _ e1;rw[iY hv];rw[ui e4 e2] at e3;exact⟨a,bs,rfl,.of e3,k _ H _ G mo (.refl H G) RG q⟩
  |_=>exact q.elim
 ·cases d<;>exact q.elim
theorem Qk(hu:X.A.units+64<cLine)(hm:X.mg "sum" = none)(ha:l5 X (e::es) t)(hc:X.calm=true:=by rfl)(hg:Gl X "sum":=by rfl)(he:notStar e=true:=by rfl)(hpl:es.all notStar=true:=by rfl):
  cv X (.Call (.Name "sum" p) (e::es) [] pos) (du xt t):=qx Ql (qT (Qm hc) hg hm rfl ha (he:=eU he) (hpl:=k9 hpl))
theorem Qj(hc:X.calm=true):gG X (.builtin "max") (λvs H Q=>∃(a:ν) (ns:List Int),vs=[.ref a]/\fw X.K H a (ns.map V.int)/\0<ns.length/\∀m,m∈ns->(∀n∈ns,n≤m)->Q (.int m) H):=by
 intro pins s σ H vs us Q I r h;obtain⟨a,ns,rfl,hl,h0,q⟩:=h;obtain⟨u,rfl,ru⟩:=vals1 r;cases ru;refine call_max_walkS (B6 hc I hl λits I' rv W h1 h2 h3 back=>?_);have h4:its.length=ns.length:=by rw[←rv.length,ε]
 have hP:∀(i:Nat) (v:ζ),its[i]?=some v->∃t,v=iG (ns.getD i 0) t:=by
  intro i v hv;have hi:i<ns.length:=by
   have:=(Γ.mp hv).1;omega
  obtain⟨u',e1,e2⟩:=rv.get (i:=i) (x:=.int ns[i]) (by rw[ax,Θ hi];rfl);rw[hv] at e1;cases e1;obtain⟨t,rfl⟩:=(show ∃t,v=iG ns[i] t from e2);exact⟨t,by simp[List.getD,hi]⟩
 refine⟨I',_,_,_,_,_,_,_,rfl,W,⟨h1,h2⟩,h3,by omega,CmpOf.ints_gt (λi=>ns.getD i 0) hP,λv s' hv hm=>?_⟩;obtain⟨g1,g2⟩:=argBest_gt (λi=>ns.getD i 0) (its.length-1);obtain⟨t,rfl⟩:=hP _ _ hv;refine⟨.int (ns.getD (argBest (λi j=>decide (ns.getD i 0 > ns.getD j 0)) (its.length-1)) 0),H,back s' hm,⟨t,rfl⟩,q _ ?_ ?_⟩
 ·have hlt:argBest (λi j=>decide (ns.getD i 0 > ns.getD j 0)) (its.length-1)<ns.length:=by omega
  rw[gO,Θ hlt];exact lT hlt
 ·intro n hn;obtain⟨j,hj,e⟩:=ft hn;have:=g2 j (by omega);have e':ns.getD j 0=n:=by
   rwa [gO,Θ hj]
  rwa [←e']
def zr:C3:=λds G Q=>match ds with
 |[.obj a]=>∃xs ns,G a=some (.lst xs)/\intsOf xs=some ns/\0<ns.length/\∀m,m∈ns->(∀n∈ns,n≤m)->Q (.int m) G
 |_=>False
theorem Qi:nR K zr (λvs H Q=>∃(a:ν) (ns:List Int),vs=[.ref a]/\fw K H a (ns.map V.int)/\0<ns.length/\∀m,m∈ns->(∀n∈ns,n≤m)->Q (.int m) H):=λds vs G H Q3 Q h RG q k=>by
 rcases ds with _|⟨d,_|⟨d2,ds⟩⟩
 ·exact q.elim
 ·obtain⟨v,rfl,hv⟩:=nO h;cases d with
  |obj a=>
   obtain⟨xs,bs,e1,e2,h0,q⟩:=q;obtain⟨ys,e3,e4⟩:=RG a _ e1;rw[iY hv];rw[ui e4 e2] at e3;exact⟨a,bs,rfl,.of e3,h0,λm h1 h2=>k _ H _ G mo (.refl H G) RG (q m h1 h2)⟩
  |_=>exact q.elim
 ·cases d<;>exact q.elim
theorem Qh(hu:X.A.units+64<cLine)(hm:X.mg "max" = none)(ha:l5 X (e::es) t)(hc:X.calm=true:=by rfl)(hg:Gl X "max":=by rfl)(he:notStar e=true:=by rfl)(hpl:es.all notStar=true:=by rfl):
  cv X (.Call (.Name "max" p) (e::es) [] pos) (du zr t):=qx Qi (qT (Qj hc) hg hm rfl ha (he:=eU he) (hpl:=k9 hpl))
end
open Sem (wp)
def Ik(k:Bool)(h:Heap)(jt a:ν)(i:Nat):Prop:=match k with
 |true=>h.IsListIter jt a i
 |false=>h.IsTupleIter jt a i
def Sk(k:Bool)(h:Heap)(a:ν)(xs:Array ζ):Prop:=match k with
 |true=>h.IsList a xs
 |false=>h.IsTuple a xs
theorem Ik.of(x:Ik k h jt a i)(f:∀o,h.get? jt=some o->h'.get? jt=some o):Ik k h' jt a i:=by
 cases k<;>(obtain⟨o,e,r⟩:=x;exact⟨o,f o e,r⟩)
theorem Sk.of(x:Sk k h a xs)(f:∀o,h.get? a=some o->h'.get? a=some o):Sk k h' a xs:=by
 cases k<;>(obtain⟨o,e,r⟩:=x;exact⟨o,f o e,r⟩)
theorem Ik.obj(x:Ik k h jt a i):∃o,h.get? jt=some o/\∀v,o.data≠.cell v:=by
 cases k<;>(obtain⟨o,e,c,d⟩:=x;exact⟨o,e,λv z=>by rw[d] at z;cases z⟩)
section
variable {P:ao} {w:aC} {A:aQ} {E:ζ->η->Prop} {s:η}
theorem nextK(hi:Ik k s.heap jt a i)(ha:Sk k s.heap a xs)(hx:xs[i]?=some u)
  (q:∀h',Ik k h' jt a (i+1)->Heap.SameBut jt s.heap h'->Q u { s with heap:=h' }):χ (model P w) A (oU (.ref jt)) Q E s:=by
 cases k with
 |true=>exact wpAny_nextOf_list_item hi ha hx q
 |false=>
  obtain⟨o,e1,c1,d1⟩:=id hi;obtain⟨oa,e2,c2,n2,d2⟩:=(show s.heap.IsTuple a xs from ha);refine γ (bD (name:=dY "__next__") hi.typeIs F.slot_tuple_iterator_next (bA F.slot_tuple_iterator_next hi.typeIs F.entry_tuple_iterator_next ?_ (F.args_tuple_iterator_next_1 _)));show χ _ _ (field (.ref jt) 0 >>= _) _ _ s;refine γ (b6 e1 d1 (x:=.ref a) rfl ?_);rw[if_neg (show ¬((aw a==cq)=true) from af)];refine γ (b6 e1 d1 (x:=.int i 0) rfl (γ (bJ e2 d2 ?_)));simp only[hx,a9];exact γ (mX e1 d1 (by simp) (δ ⟨u,rfl,δ (q _ ⟨_,Heap.get?_update_self _ e1 (bT.isFreed_of_fields (bT.data_mapFields d1 _)),(bT.cls_mapFields ..).trans c1,by rw[bT.data_mapFields d1];simp[rawInt]⟩ (Heap.SameBut.update ..))⟩))
theorem zq(hh:A.handled=none)(hi:Ik k s.heap jt a i)(ha:Sk k s.heap a xs)(hx:xs[i]?=none)
  (q:∀h' e,Heap.ExtBut jt s.heap h'->(∃o,h'.get? e=some o/\o.cls=.type "StopIteration")->E (.ref e) { s with heap:=h' }):χ (model P w) A (oU (.ref jt)) Q E s:=by
 cases k with
 |true=>exact wpAny_nextOf_list_end hh hi ha hx q
 |false=>
  obtain⟨o,e1,c1,d1⟩:=id hi;obtain⟨oa,e2,c2,n2,d2⟩:=(show s.heap.IsTuple a xs from ha);refine γ (bD (name:=dY "__next__") hi.typeIs F.slot_tuple_iterator_next (bA F.slot_tuple_iterator_next hi.typeIs F.entry_tuple_iterator_next ?_ (F.args_tuple_iterator_next_1 _)));show χ _ _ (field (.ref jt) 0 >>= _) _ _ s;refine γ (b6 e1 d1 (x:=.ref a) rfl ?_);rw[if_neg (show ¬((aw a==cq)=true) from af)];refine γ (b6 e1 d1 (x:=.int i 0) rfl (γ (bJ e2 d2 ?_)));simp only[hx,a9];refine γ (eX (γ (mX e1 d1 (by simp) (γ (γ (bj (γ (m:=firstArgMember _ _) (iT (a:=cq) (by first|(simp only[firstArgMember];rfl)|rfl) (bj (γ (nU ?_)) (by size_fits)))) (by size_fits)))))))
  first|rw[hh]|rw[show A.in1.handled=none from hh]
  exact γ (δ (qz (q _ _ (((Heap.SameBut.update ..).extBut.push _).push _) ⟨_,Heap.get?_push_size _ rfl,rfl⟩)))
theorem LL{Q:ζ->η->Prop}(D:ZipApart zz ti ot j1 j2 a1 a2)
  (Z:oT s.heap zz ti ot .none) (Ti:kG s.heap ti (.ref j1) (.ref j2)) (To:kG s.heap ot c d) (g1:Ik k1 s.heap j1 a1 m) (g2:Ik k2 s.heap j2 a2 n) (s1:Sk k1 s.heap a1 xs) (s2:Sk k2 s.heap a2 ys) (hu:xs[m]?=some u) (hv:ys[n]?=some v)
  (q:∀h',oT h' zz ti ot (rawInt s.heap.objs.size)->kG h' ot u v->Ik k1 h' j1 a1 (m+1)->Ik k2 h' j2 a2 (n+1)->kG h' s.heap.objs.size u v ->
   (∀b o,b≠zz->b≠ot->b≠j1->b≠j2->s.heap.get? b=some o->h'.get? b=some o)->Q (.ref s.heap.objs.size) { s with heap:=h' }):
  χ (model P w) A (f9.«zip.__next__» ⟨[.ref zz],[]⟩) (λfin s'=>∃r,fin=.done (.ret r)/\Q r s') E s:=by
 show χ _ _ (field (.ref zz) 2 >>= _) _ _ _;refine γ (b6 Z rfl (x:=.bool false) rfl (γ (b6 Z rfl (x:=.ref ti) rfl (γ (bJ Ti rfl (γ (γ (b6 Z rfl (x:=.none) rfl (δ (γ (eX (γ (b6 Z rfl (x:=.ref ot) rfl (γ (bH Z (by simp) λw1 Z1 b1=>?_)))))))))))))))
 replace Z1:oT w1 zz ti ot .ellipsis:=Z1
 refine γ ?_
 (simp only[List.zipIdx_nil,List.zipIdx_cons,List.forIn_nil,qm])
 have k1_:=λb o h e=>b1.extBut b o h e;refine γ (γ (nS (γ (nextK (g1.of λo e=>k1_ _ o D.i1z e) (s1.of λo e=>k1_ _ o D.l1z e) hu λw2 J1 b2=>δ ?_))));have k2_:=λb o h h2 e=>b2.extBut b o h2 (k1_ b o h e);have To2:=k2_ _ _ D.TOz D.TOi1 To;refine γ (bJ To2 rfl (γ (mD To2 λw3 To3 b3=>?_)))
 replace To3:kG w3 ot u d:=To3
 have k3_:=λb o h h2 h3 e=>b3.extBut b o h3 (k2_ b o h h2 e);refine γ (hJ (δ (γ (γ (nS (γ (nextK (g2.of λo e=>k3_ _ o D.i2z D.i12.symm D.TOi2.symm e) (s2.of λo e=>k3_ _ o D.l2z D.l2i1 D.l2TO e) hv λw4 J2 b4=>δ ?_)))))));have To4:=b4.extBut _ _ D.TOi2 To3;refine γ (bJ To4 rfl (γ (mD To4 λw5 To5 b5=>?_)))
 replace To5:kG w5 ot u v:=To5
 refine γ (hJ (δ (δ (γ (bJ To5 rfl (γ (kL ?_)))))));have sz:w5.objs.size=s.heap.objs.size:=by rw[b5.1,b4.1,b3.1,b2.1,b1.1]
 have Z5:=b5.extBut _ _ D.TOz.symm (b4.extBut _ _ D.i2z.symm (b3.extBut _ _ D.TOz.symm (b2.extBut _ _ D.i1z.symm Z1)));have k5_:=λb o c1 c2 c3 c4 e=>b5.extBut _ _ c2 (b4.extBut _ _ c4 (k3_ b o c1 c3 c2 e));have L1:=J1.of λo e=>b5.extBut _ _ D.TOi1.symm (b4.extBut _ _ D.i12 (b3.extBut _ _ D.TOi1.symm e));have L2:=J2.of λo e=>b5.extBut _ _ D.TOi2.symm e;have lz:=Heap.lt_size Z5;refine γ ?_;have Z6:oT (w5.push { cls:=.type "tuple",data:=.seq #[u,v]}) zz ti ot .ellipsis:=Heap.get?_push_of_some _ Z5;refine γ (bH Z6 (by simp) λw7 Z7 b7=>?_)
 replace Z7:oT w7 zz ti ot (rawInt w5.objs.size):=Z7
 refine bH Z7 (by simp) λw8 Z8 b8=>?_
 replace Z8:oT w8 zz ti ot (rawInt w5.objs.size):=Z8
 have up:∀b o,b≠zz->w5.get? b=some o->w8.get? b=some o:=λb o c1 e=>b8.extBut _ _ c1 (b7.extBut _ _ c1 (Heap.get?_push_of_some _ e));have T8:=b8.extBut _ _ (bL lz) (b7.extBut _ _ (bL lz) (Heap.get?_push_size _ rfl));rw[sz] at Z8 T8;refine δ ⟨_,rfl,?_⟩;rw[sz];exact q w8 Z8 (up _ _ D.TOz To5) (L1.of λo e=>up _ o D.i1z e) (L2.of λo e=>up _ o D.i2z e) T8 λb o c1 c2 c3 c4 e=>up b o c1 (k5_ b o c1 c2 c3 c4 e)
theorem Qg(hh:A.handled=none)(D:ZipApart zz ti ot j1 j2 a1 a2)
  (Z:oT s.heap zz ti ot .none) (Ti:kG s.heap ti (.ref j1) (.ref j2)) (To:kG s.heap ot c d) (g1:Ik k1 s.heap j1 a1 m) (g2:Ik k2 s.heap j2 a2 n) (s1:Sk k1 s.heap a1 xs) (s2:Sk k2 s.heap a2 ys) (he:xs[m]?=none∨ys[n]?=none)
  (q:∀h' e,(∀b o,b≠zz->b≠ot->b≠j1->b≠j2->s.heap.get? b=some o->h'.get? b=some o)->(∃o,h'.get? e=some o/\o.cls=.type "StopIteration")->E (.ref e) { s with heap:=h' }):
  χ (model P w) A (f9.«zip.__next__» ⟨[.ref zz],[]⟩) Q E s:=by
 show χ _ _ (field (.ref zz) 2 >>= _) _ _ _;refine γ (b6 Z rfl (x:=.bool false) rfl (γ (b6 Z rfl (x:=.ref ti) rfl (γ (bJ Ti rfl (γ (γ (b6 Z rfl (x:=.none) rfl (δ (γ (eX (γ (b6 Z rfl (x:=.ref ot) rfl (γ (bH Z (by simp) λw1 Z1 b1=>?_)))))))))))))))
 replace Z1:oT w1 zz ti ot .ellipsis:=Z1
 refine γ ?_
 (simp only[List.zipIdx_nil,List.zipIdx_cons,List.forIn_nil,qm])
 have k1_:=λb o h e=>b1.extBut b o h e;refine γ (γ (nS ?_));cases hx:xs[m]? with
 |none=>
  refine γ (zq hh (g1.of λo e=>k1_ _ o D.i1z e) (s1.of λo e=>k1_ _ o D.l1z e) hx λw2 e b2 hs=>?_);obtain⟨oe,e1,e2⟩:=hs;have Z2:=b2 _ _ D.i1z.symm Z1;have ez:e≠zz:=λx=>by
   subst x;rw[Z2] at e1;cases e1;simp at e2
  exact bH Z2 (by simp) λw3 _ b3=>q w3 e (λb o c1 _ c3 _ x=>b3.extBut _ _ c1 (b2 _ _ c3 (k1_ b o c1 x))) ⟨oe,b3.extBut _ _ ez e1,e2⟩
 |some u=>
  have hy:ys[n]?=none:=by
   rcases he with h|h
   ·rw[hx] at h;cases h
   ·exact h
  refine γ (nextK (g1.of λo e=>k1_ _ o D.i1z e) (s1.of λo e=>k1_ _ o D.l1z e) hx λw2 J1 b2=>δ ?_);have k2_:=λb o h h2 e=>b2.extBut b o h2 (k1_ b o h e);have To2:=k2_ _ _ D.TOz D.TOi1 To;refine γ (bJ To2 rfl (γ (mD To2 λw3 To3 b3=>?_)));have k3_:=λb o h h2 h3 e=>b3.extBut b o h3 (k2_ b o h h2 e);refine γ (hJ (δ (γ (γ (nS (γ (zq hh (g2.of λo e=>k3_ _ o D.i2z D.i12.symm D.TOi2.symm e) (s2.of λo e=>k3_ _ o D.l2z D.l2i1 D.l2TO e) hy λw4 e b4 hs=>?_)))))));obtain⟨oe,e1,e2⟩:=hs;have Z4:=b4 _ _ D.i2z.symm (b3.extBut _ _ D.TOz.symm (b2.extBut _ _ D.i1z.symm Z1));have ez:e≠zz:=λx=>by
   subst x;rw[Z4] at e1;cases e1;simp at e2
  exact bH Z4 (by simp) λw5 _ b5=>q w5 e (λb o c1 c2 c3 c4 x=>b5.extBut _ _ c1 (b4 _ _ c4 (k3_ b o c1 c3 c2 x))) ⟨oe,b5.extBut _ _ ez e1,e2⟩
variable{X:Cx}{pins:List (ν×bT)}{σ:L2.St}{H:Hp}
theorem tV{fp:List ν}(I:L2.Inv X pins σ H s)(k:∀b o,b∉fp->s.heap.get? b=some o->h'.get? b=some o)(hf:∀b∈fp,kv X pins H b):L2.Inv X pins σ H { s with heap:=h',toks:=t' }:=by
 have nit:∀b u,H b=some u->b∉fp:=λb u e z=>by rw[(hf b z).1] at e;cases e
 refine I.step (g':=s.gens) (d':=s.drawn) (ch:=fp) (λb hb=>?_) (λb o _ _ hc e _=>k b o hc e) (λb o _ _ hc e _=>⟨o.slots,k b o hc e⟩) (λ_ _ _ _ n=>n) (λb o hc e=>⟨o,k b o hc e⟩) (λ_ _ e=>e) (λ_ _ _ e=>e) (λb ps e=>⟨#[],by rw[e];simp⟩) (λm hm=>?_) (λb u e=>?_) I.bare
 ·obtain⟨f0,f1,f2,f3,f4,f5⟩:=hf b hb;exact⟨f3,f1,f4,f5⟩
 ·obtain⟨o,es,ep,ho,r⟩:=hm;exact⟨o,es,ep,k _ o (λz=>(hf _ z).2.1 rfl) ho,r⟩
 ·refine (I.bX b u e).sH (λc v hc q=>k c v ?_ q) (λ_ q=>q) λ_ _ q=>q;rcases hc with z|z
  ·rw[z];exact nit b u e
  ·exact nit c _ z
def jx(K:PySem.W.Frag)(k:Bool)(H:Hp)(a:ν)(xs:List V):Prop:=match k with
 |true=>fw K H a xs
 |false=>cR K H a xs
theorem jx.heap(I:L2.Inv X pins σ H s)(h:jx X.K k H a xs):∃its,bq xs its/\Sk k s.heap a its.toArray:=by
 cases k with
 |true=>
  obtain⟨its,rv,p,hz⟩:=I.list (show fw X.K H a xs from h);exact⟨its,rv,p.isList⟩
 |false=>
  obtain⟨its,rv,p,hz⟩:=I.tuple (show cR X.K H a xs from h);exact⟨its,rv,p⟩
theorem jx.inj(I:L2.Inv X pins σ H s)(h:jx X.K k H a xs)(h':jx X.K k H a ys):xs=ys:=by
 cases k with
 |true=>exact I.xR (show fw X.K H a xs from h) (show fw X.K H a ys from h')
 |false=>exact I.wu (show cR X.K H a xs from h) (show cR X.K H a ys from h')
theorem jx.apart(I:L2.Inv X pins σ H s)(h:jx X.K k H a xs)(f:kv X pins H b):a≠b:=by
 intro z;subst z;have hb:(∃u,H a=some u)∨∃o,X.K.lookup a=some o:=by
  cases k <;>
  ·rcases h with (h|⟨o,h⟩)|⟨o,_,_,h,_⟩
   ·exact .inl ⟨_,h⟩
   ·exact .inl ⟨_,h⟩
   ·exact .inr ⟨_,h⟩
 rcases hb with⟨u,e⟩|⟨o,e⟩
 ·rw[f.1] at e;cases e
 ·have e2:=I.mod.Ds a o e;rcases f.2.2.2.1 with q|q
  ·exact I.ok.uN a o e2 q
  ·exact absurd (bw (Heap.lt_size (I.ok.bs a o e2).1) q) (cA _)
end
def LG(K:PySem.W.Frag)(k1 k2:Bool)(a1 a2:ν):It:=
 ⟨λi H=>∃xs ys x y,(jx K k1 H a1 xs/\xs[i]?=some x)/\jx K k2 H a2 ys/\ys[i]?=some y,
  λi H x H'=>∃T u v,x=.ref T/\H T=none/\H'=upd H T (.tup [u,v])/\(∀xs,jx K k1 H a1 xs->xs[i]?=some u)/\∀ys,jx K k2 H a2 ys->ys[i]?=some v,
  λi H=>∃xs ys,jx K k1 H a1 xs/\jx K k2 H a2 ys/\(xs.length≤i∨ys.length≤i)⟩
theorem KQ(h:[zz,ti,ot,j1,j2].Nodup)(h1:∀b∈[zz,ti,ot,j1,j2],a1≠b)(h2:∀b∈[zz,ti,ot,j1,j2],a2≠b):ZipApart zz ti ot j1 j2 a1 a2:=by
 simp only[cc,Ψ,not_or,cz,not_false_eq_true,jo,and_true] at h;obtain⟨⟨n1,n2,n3,n4⟩,⟨n5,n6,n7⟩,⟨n8,n9⟩,n10⟩:=h;exact⟨di n1,di n2,di n3,di n4,n5,n6,n7,n8,n9,n10,h1 _ (by simp),h1 _ (by simp),h1 _ (by simp),h1 _ (by simp),h2 _ (by simp),h2 _ (by simp),h2 _ (by simp),h2 _ (by simp)⟩
theorem Qf{K:PySem.W.Frag}(k1 k2:Bool)(a1 a2 zz ti ot j1 j2:ν)(hd:[zz,ti,ot,j1,j2].Nodup):
  Turn P w K (.Tuple es n0 ps) (LG K k1 k2 a1 a2) [zz,ti,ot,j1,j2] zz (λi h=>oT h zz ti ot .none/\kG h ti (.ref j1) (.ref j2)/\(∃c d,kG h ot c d)/\Ik k1 h j1 a1 i/\Ik k2 h j2 a2 i) where
 mem:=by simp
 obj:=λi h st b hb=>by
  obtain⟨Z,Ti,⟨c,d,To⟩,g1,g2⟩:=st;simp only[Ψ,cz,or_false] at hb;rcases hb with rfl|rfl|rfl|rfl|rfl
  ·exact⟨_,Z,λv z=>by cases (show Data.fields _=tT v from z)⟩
  ·exact⟨_,Ti,λv z=>by cases (show Data.seq _ _=tT v from z)⟩
  ·exact⟨_,To,λv z=>by cases (show Data.seq _ _=tT v from z)⟩
  ·exact g1.obj
  ·exact g2.obj
 keep:=λi h h' st k=>by
  obtain⟨Z,Ti,⟨c,d,To⟩,g1,g2⟩:=st;exact⟨k _ (by simp) _ Z,k _ (by simp) _ Ti,⟨c,d,k _ (by simp) _ To⟩,g1.of λo e=>k _ (by simp) _ e,g2.of λo e=>k _ (by simp) _ e⟩
 item:=by
  intro X hP hw hK hc i pins s σ H E I hf st hg;subst hP hw hK;obtain⟨Z,Ti,⟨c,d,To⟩,g1,g2⟩:=st;obtain⟨xs,ys,x,y,⟨q1,hx⟩,q2,hy⟩:=hg;obtain⟨its1,rv1,p1⟩:=q1.heap I;obtain⟨its2,rv2,p2⟩:=q2.heap I;obtain⟨u,hu,ru⟩:=rv1.get hx;obtain⟨v,hv,rv⟩:=rv2.get hy;have D:=KQ hd (λb hb=>q1.apart I (hf b hb)) (λb hb=>q2.apart I (hf b hb));have hT:s.TypeIs (.ref zz) "zip":=⟨_,Z,rfl⟩;refine γ (fD (bD (name:=dY "__next__") hT F.slot_zip_next (bA F.slot_zip_next hT F.entry_zip_next (LL D Z Ti To g1 g2 p1 p2 (u:=u) (v:=v) (by simpa using hu) (by simpa using hv) λh' Z' To' g1' g2' T' kp=>?_) (F.args_zip_next_1 _))));refine δ ⟨_,rfl,(wpAny_letOwnedTupleGo_zip Z' λh2 Z2 b2=>?_)⟩;have hn:=I.bX.fresh (ρ _);have I1:L2.Inv X pins σ (upd H s.heap.objs.size (.tup [x,y])) { s with heap:=s.heap.push { cls:=.type "tuple",data:=.seq #[u,v]}}:=I.laid (t':=s.toks) (λb o e=>Heap.get?_push_of_some _ e) (ρ _) ⟨by show 2≤aA;decide,[u,v],.cons ru (.cons rv .nil),⟨_,Heap.get?_push_size _ rfl,rfl,⟨_,rfl⟩,rfl⟩⟩;have lt:∀b∈[zz,ti,ot,j1,j2],b<s.heap.objs.size:=λb hb=>by
   simp only[Ψ,cz,or_false] at hb;rcases hb with rfl|rfl|rfl|rfl|rfl
   ·exact Heap.lt_size Z
   ·exact Heap.lt_size Ti
   ·exact Heap.lt_size To
   ·obtain⟨o,e,_⟩:=g1.obj;exact Heap.lt_size e
   ·obtain⟨o,e,_⟩:=g2.obj;exact Heap.lt_size e
  have hf':∀b∈[zz,ti,ot,j1,j2],kv X pins (upd H s.heap.objs.size (.tup [x,y])) b:=λb hb=>⟨by rw[fj (aV (lt b hb))];exact (hf b hb).1,(hf b hb).2⟩;have I2:L2.Inv X pins σ (upd H s.heap.objs.size (.tup [x,y])) { s with heap:=h2 }:=tV (s:={ s with heap:=s.heap.push { cls:=.type "tuple",data:=.seq #[u,v]}}) (t':=s.toks) I1 (λb o hb e=>by
   simp only[Ψ,cz,or_false,not_or] at hb;refine b2.extBut b o hb.1 ?_;rcases Heap.get?_push_cases e with⟨rfl,rfl⟩|e
   ·exact T'
   ·exact kp b o hb.1 hb.2.2.1 hb.2.2.2.1 hb.2.2.2.2 e) hf'
  refine⟨.ref s.heap.objs.size,_,I2,rfl,⟨_,x,y,rfl,hn,rfl,λzs hz=>by rw[hz.inj I q1];exact hx,λzs hz=>by rw[hz.inj I q2];exact hy⟩,⟨Z2,?_,⟨u,v,?_⟩,g1'.of λo e=>b2.extBut _ _ D.i1z e,g2'.of λo e=>b2.extBut _ _ D.i2z e⟩,λb hb=>(hf' b hb).1⟩
  ·exact b2.extBut _ _ D.TIz (kp _ _ D.TIz D.TITO D.TIi1 D.TIi2 Ti)
  ·exact b2.extBut _ _ D.TOz To'
 done:=by
  intro X hP hw hK hc i pins s σ H E I hf st hg;subst hP hw hK;obtain⟨Z,Ti,⟨c,d,To⟩,g1,g2⟩:=st;obtain⟨xs,ys,q1,q2,hl⟩:=hg;obtain⟨its1,rv1,p1⟩:=q1.heap I;obtain⟨its2,rv2,p2⟩:=q2.heap I;have D:=KQ hd (λb hb=>q1.apart I (hf b hb)) (λb hb=>q2.apart I (hf b hb));have hT:s.TypeIs (.ref zz) "zip":=⟨_,Z,rfl⟩;have l1:=rv1.length;have l2:=rv2.length;refine γ (fD (bD (name:=dY "__next__") hT F.slot_zip_next (bA F.slot_zip_next hT F.entry_zip_next (Qg (I.ok.hd hc) D Z Ti To g1 g2 p1 p2 (by
   rcases hl with h|h
   ·exact .inl (by simp;lia)
   ·exact .inr (by simp;lia)) λh' e kp hs=>?_) (F.args_zip_next_1 _))))
  obtain⟨o,ho,hcl⟩:=hs;refine γ (dP (T:="StopIteration") (b:=true) ⟨o,ho,hcl⟩ kO (δ ⟨rfl,tV (t':=s.toks) I (λb o hb e=>?_) hf⟩));simp only[Ψ,cz,or_false,not_or] at hb;exact kp b o hb.1 hb.2.2.1 hb.2.2.2.1 hb.2.2.2.2 e
 self:=λ_ _ _ _ _ st h=>wpAny_pyIter_zip st.1 h
def yJ(k:Bool)(a:ν):bT:=match k with
 |true=>{ cls:=.type "list_iterator",data:=.fields #[.ref a,.int 0 0]}
 |false=>{ cls:=.type "tuple_iterator",data:=.fields #[.ref a,.int 0 0]}
def AB(k1:Bool)(h:Heap)(a1:ν):Heap:=h.push (yJ k1 a1)
def AA(k1 k2:Bool)(h:Heap)(a1 a2:ν):Heap:=(AB k1 h a1).push (yJ k2 a2)
def Az(k1 k2:Bool)(h:Heap)(a1 a2:ν):Heap:=(AA k1 k2 h a1 a2).push { cls:=.type "tuple",data:=.seq #[.ref h.objs.size,.ref (AB k1 h a1).objs.size]}
def yu(k1 k2:Bool)(h:Heap)(a1 a2:ν):Heap:=(Az k1 k2 h a1 a2).push { cls:=.type "tuple",data:=.seq #[.none,.none]}
def ml(k1 k2:Bool)(h:Heap)(a1 a2:ν):Heap:=(yu k1 k2 h a1 a2).push { cls:=.type "zip",data:=.fields #[.none,.bool false,.bool false,.ref (AA k1 k2 h a1 a2).objs.size,.ref (Az k1 k2 h a1 a2).objs.size]}
theorem KY(e:h.get? jt=some (yJ k a)):Ik k h jt a 0:=by
 cases k<;>exact⟨_,e,rfl,rfl⟩
theorem GW:(yJ k a).isFreed=false:=by cases k<;>rfl
theorem Qe(k1 k2:Bool)(a1 a2:ν)(xs ys:Array ζ):Meets (f9.«zip.__new__» ⟨[.type "zip",.ref a1,.ref a2],[]⟩) (λ_ R s=>Sk k1 s.heap a1 xs/\Sk k2 s.heap a2 ys ∧
   R (.ok (.ret (.ref (yu k1 k2 s.heap a1 a2).objs.size))) { s with heap:=ml k1 k2 s.heap a1 a2 }):=
 .of_wp λprog w A R s h=>by
  obtain⟨hp,g,d,tk,os⟩:=s;obtain⟨h1,h2,h⟩:=h;have hsub:=sub_zip;cases k1<;>cases k2
  ·have q1:Heap.IsTuple (hV ⟨hp,g,d,tk,os⟩) a1 xs:=h1;have q2:Heap.IsTuple (hV ⟨hp.push { cls:=.type "tuple_iterator",data:=.fields #[.ref a1,.int 0 0]},g,d,tk,os⟩) a2 ys:=Heap.IsTuple.push h2 _;wp_walk using dI q1,dI q2;exact⟨_,rfl,h⟩
  ·have q1:Heap.IsTuple (hV ⟨hp,g,d,tk,os⟩) a1 xs:=h1;have q2:Heap.IsList (hV ⟨hp.push { cls:=.type "tuple_iterator",data:=.fields #[.ref a1,.int 0 0]},g,d,tk,os⟩) a2 ys:=Heap.IsList.push h2 _;wp_walk using dI q1,fW q2;exact⟨_,rfl,h⟩
  ·have q1:Heap.IsList (hV ⟨hp,g,d,tk,os⟩) a1 xs:=h1;have q2:Heap.IsTuple (hV ⟨hp.push { cls:=.type "list_iterator",data:=.fields #[.ref a1,.int 0 0]},g,d,tk,os⟩) a2 ys:=Heap.IsTuple.push h2 _;wp_walk using fW q1,dI q2;exact⟨_,rfl,h⟩
  ·have q1:Heap.IsList (hV ⟨hp,g,d,tk,os⟩) a1 xs:=h1;have q2:Heap.IsList (hV ⟨hp.push { cls:=.type "list_iterator",data:=.fields #[.ref a1,.int 0 0]},g,d,tk,os⟩) a2 ys:=Heap.IsList.push h2 _;wp_walk using fW q1,fW q2;exact⟨_,rfl,h⟩
theorem GV:oT (ml k1 k2 h a1 a2) (h.objs.size+4) (h.objs.size+2) (h.objs.size+3) .none/\kG (ml k1 k2 h a1 a2) (h.objs.size+2) (.ref h.objs.size) (.ref (h.objs.size+1))/\kG (ml k1 k2 h a1 a2) (h.objs.size+3) .none .none ∧
  Ik k1 (ml k1 k2 h a1 a2) h.objs.size a1 0/\Ik k2 (ml k1 k2 h a1 a2) (h.objs.size+1) a2 0/\(yu k1 k2 h a1 a2).objs.size=h.objs.size+4/\∀c o,h.get? c=some o->(ml k1 k2 h a1 a2).get? c=some o:=by
 have e1:(AB k1 h a1).objs.size=h.objs.size+1:=Heap.size_push ..;have e2:(AA k1 k2 h a1 a2).objs.size=h.objs.size+2:=(Heap.size_push ..).trans (by rw[e1]);have e3:(Az k1 k2 h a1 a2).objs.size=h.objs.size+3:=(Heap.size_push ..).trans (by rw[e2]);have e4:(yu k1 k2 h a1 a2).objs.size=h.objs.size+4:=(Heap.size_push ..).trans (by rw[e3]);have u5:∀c o,(yu k1 k2 h a1 a2).get? c=some o->(ml k1 k2 h a1 a2).get? c=some o:=λc o e=>Heap.get?_push_of_some _ e;have u4:∀c o,(Az k1 k2 h a1 a2).get? c=some o->(ml k1 k2 h a1 a2).get? c=some o:=λc o e=>u5 c o (Heap.get?_push_of_some _ e);have u3:∀c o,(AA k1 k2 h a1 a2).get? c=some o->(ml k1 k2 h a1 a2).get? c=some o:=λc o e=>u4 c o (Heap.get?_push_of_some _ e);have u2:∀c o,(AB k1 h a1).get? c=some o->(ml k1 k2 h a1 a2).get? c=some o:=λc o e=>u3 c o (Heap.get?_push_of_some _ e);have u1:∀c o,h.get? c=some o->(ml k1 k2 h a1 a2).get? c=some o:=λc o e=>u2 c o (Heap.get?_push_of_some _ e);have g5:(ml k1 k2 h a1 a2).get? (yu k1 k2 h a1 a2).objs.size=some _:=Heap.get?_push_size _ rfl;have g4:(ml k1 k2 h a1 a2).get? (Az k1 k2 h a1 a2).objs.size=some _:=u5 _ _ (Heap.get?_push_size _ rfl);have g3:(ml k1 k2 h a1 a2).get? (AA k1 k2 h a1 a2).objs.size=some _:=u4 _ _ (Heap.get?_push_size _ rfl);have g2:(ml k1 k2 h a1 a2).get? (AB k1 h a1).objs.size=some (yJ k2 a2):=u3 _ _ (Heap.get?_push_size _ GW);have g1:(ml k1 k2 h a1 a2).get? h.objs.size=some (yJ k1 a1):=u2 _ _ (Heap.get?_push_size _ GW);rw[e2,e3,e4] at g5;rw[e1,e2] at g3;rw[e3] at g4;rw[e1] at g2;exact⟨g5,g3,g4,KY g1,KY g2,e4,u1⟩
theorem Qd(h1:Sk k1 s.heap a1 xs)(h2:Sk k2 s.heap a2 ys)
  (q:Q (.ref (s.heap.objs.size+4)) { s with heap:=ml k1 k2 s.heap a1 a2 }):χ (model P w) A (call (.type "zip") [.ref a1,.ref a2]) Q E s:=by
 refine callType_new F.called_zip (by decide) (F.typeCall_zip_2 _ _) (F.newCall_zip_2 _ _) (λobj=>F.args_object_init_3 obj _ _) F.entry_zip_new (Qe k1 k2 a1 a2 xs ys) ⟨h1,h2,?_⟩;obtain⟨z1,_,_,_,_,z2,_⟩:=GV (k1:=k1) (k2:=k2) (h:=s.heap) (a1:=a1) (a2:=a2);show _/\_;rw[z2];exact⟨⟨_,z1,rfl⟩,q⟩
section
variable {X:Cx} {es:List aT} {n0:Nat} {ps p pos:d9}
def Zu(K:PySem.W.Frag)(ta:TA):TI:=λσ H R=>ta σ H λvs H1=>∃k1 k2 a1 a2,vs=[.ref a1,.ref a2]/\(∃xs,jx K k1 H1 a1 xs)/\(∃ys,jx K k2 H1 a2 ys)/\R (LG K k1 k2 a1 a2) H1
theorem Qc(hg:Gl X "zip")(hm:X.mg "zip" = none)(ha:PA X [a,b] ta)(hs:bP [a,b] X.env=[(false,eval a X.env),(false,eval b X.env)]:=by rfl)(hs2:bP [b] X.env=[(false,eval b X.env)]:=by rfl):
  PI X (.Tuple es n0 ps) (.Call (.Name "zip" p) [a,b] [] pos) (Zu X.K ta):=by
 intro pins s σ H R I h;refine Call_ (sS I hg hm boot_zip (dJ (bN (ha pos pins s σ H _ I h) λus s1 zz=>?_) (by rw[hs,hs2]) (by rw[hs2];rfl)));obtain⟨vs,H1,I1,r1,q1⟩:=zz;obtain⟨k1,k2,a1,a2,e,⟨xs,q1⟩,⟨ys,q2⟩,q⟩:=q1;subst e;cases r1 with
 |cons r rr=>
  cases rr with
  |cons r' rr=>
   cases rr;cases r;cases r';obtain⟨its1,rv1,p1⟩:=q1.heap I1;obtain⟨its2,rv2,p2⟩:=q2.heap I1;refine Qd p1 p2 ?_;obtain⟨z1,z2,z3,z4,z5,z6,z7⟩:=GV (k1:=k1) (k2:=k2) (h:=s1.heap) (a1:=a1) (a2:=a2);refine wpAny_pyIter_zip (s:={ s1 with heap:=ml k1 k2 s1.heap a1 a2 }) z1 ?_
   refine⟨s1.heap.objs.size+4,[s1.heap.objs.size+4,s1.heap.objs.size+2,s1.heap.objs.size+3,s1.heap.objs.size,s1.heap.objs.size+1],_,_,H1,rfl,I1.kept (t':=s1.toks) z7,Qf k1 k2 a1 a2 _ _ _ _ _ (by simp),⟨z1,z2,⟨_,_,z3⟩,z4,z5⟩,λb hb=>?_,q⟩;have hb:s1.heap.objs.size≤b:=by
    simp only[Ψ,cz,or_false] at hb;rcases hb with rfl|rfl|rfl|rfl|rfl
    ·exact gh _ _
    ·exact gh _ _
    ·exact gh _ _
    ·exact ρ _
    ·exact gh _ _
   exact I1.rT hb (I1.bX.fresh hb)
def uE(G:Gp):D->List D->Prop
 |.obj p,ds=>G p=some (.lst ds)
 |.tup es,ds=>ds=es
 |.gQ es,ds=>ds=es
 |_,_=>False
def qp(xs ys:List D):List D:=List.zipWith (λx y=>.tup [x,y]) xs ys
def JK(ta:jK):qZ:=λτ G R=>ta τ G λds G1=>match ds with
 |[x,y]=>∃xs ys,uE G1 x xs/\uE G1 y ys/\R ⟨qp xs ys,λG=>uE G x xs/\uE G y ys⟩ G1
 |_=>False
theorem B5{K:PySem.W.Frag}(hv:Hv K H x v):∃k,∀H' G' xs,Ext H H'->bh K G' H'->uE G' x xs->∃a vs,v=.ref a/\jx K k H' a vs/\aU K H' xs vs:=by
 cases x with
 |obj p=>
  unfold Hv at hv;subst hv;refine⟨true,λH' G' xs E RG h=>?_⟩;obtain⟨vs,e2,e3⟩:=RG p _ h;exact⟨p,vs,rfl,fw.of e2,e3⟩
 |tup es=>
  unfold Hv at hv;obtain⟨a,vs,rfl,e2,e3⟩:=hv;refine⟨false,λH' G' xs E RG h=>?_⟩;cases (show xs=es from h);exact⟨a,vs,rfl,cR.ext E e2,e3.ext E⟩
 |gQ es=>
  unfold Hv at hv;obtain⟨a,vs,rfl,e2,e3⟩:=hv;refine⟨true,λH' G' xs E RG h=>?_⟩;cases (show xs=es from h);exact⟨a,vs,rfl,(sh.ext E e2).l,e3.ext E⟩
 |aE=>exact⟨true,λ_ _ _ _ _ h=>h.elim⟩
 |bl _=>exact⟨true,λ_ _ _ _ _ h=>h.elim⟩
 |int _=>exact⟨true,λ_ _ _ _ _ h=>h.elim⟩
 |str _=>exact⟨true,λ_ _ _ _ _ h=>h.elim⟩
 |dc _=>exact⟨true,λ_ _ _ _ _ h=>h.elim⟩
theorem GU{i:Nat}(h:(qp xs ys)[i]?=some d):∃x y,xs[i]?=some x/\ys[i]?=some y/\d=.tup [x,y]:=by
 unfold qp at h;rw[List.getElem?_zipWith] at h;cases hx:xs[i]? with
 |none=>rw[hx] at h;cases h
 |some x=>
  cases hy:ys[i]? with
  |none=>rw[hx,hy] at h;cases h
  |some y=>
   rw[hx,hy] at h;cases h;exact⟨x,y,rfl,rfl,rfl⟩
theorem QR(hm:X.mg "zip" = none)(ha:l5 X [a,b] ta)(hg:Gl X "zip":=by rfl)(hs:notStar a=true:=by rfl)(hs2:notStar b=true:=by rfl):
  ur X (.Tuple es n0 ps) (.Call (.Name "zip" p) [a,b] [] pos) (JK ta):=
 xI (Qc hg hm ha (by rw[eU hs,eU hs2];rfl) (eU hs2)) λσ H R zz=>by
  obtain⟨τ,G,R3,RS,RG,h,k⟩:=zz;exact⟨τ,G,_,RS,RG,h,λvs H1 ds G1 h1 S1 R1 q1=>by
  rcases ds with _|⟨d,_|⟨d2,_|⟨d3,ds⟩⟩⟩
  ·exact q1.elim
  ·exact q1.elim
  ·obtain⟨xs,ys,s1,s2,q⟩:=q1;obtain⟨v,r,rfl,z1,z2⟩:=h1.inv;obtain⟨v',r',rfl,z3,z4⟩:=z2.inv;cases z4.kn;obtain⟨k1,f1⟩:=B5 z1;obtain⟨k2,f2⟩:=B5 z3;obtain⟨a1,vs1,rfl,y1,w1⟩:=f1 _ _ _ (Ext.refl _) R1 s1;obtain⟨a2,vs2,rfl,y2,w2⟩:=f2 _ _ _ (Ext.refl _) R1 s2;refine⟨k1,k2,a1,a2,rfl,⟨_,y1⟩,⟨_,y2⟩,k _ _ _ _ ⟨?_,?_⟩ S1 R1 q⟩
   ·intro i d H' G' E' RG' hg hi;obtain⟨x,y,e1,e2,rfl⟩:=GU hi;obtain⟨b1,us1,c1,m1,n1⟩:=f1 _ _ _ E' RG' hg.1;obtain⟨b2,us2,c2,m2,n2⟩:=f2 _ _ _ E' RG' hg.2;cases c1;cases c2;obtain⟨u1,o1,o2⟩:=n1.get e1;obtain⟨u2,o3,o4⟩:=n2.get e2;refine⟨⟨_,_,_,_,⟨m1,o1⟩,m2,o3⟩,λx' H'' hy=>?_⟩;obtain⟨T,u,v,rfl,hn,rfl,t1,t2⟩:=hy;have:=t1 _ m1;rw[o1] at this;cases this;have:=t2 _ m2;rw[o3] at this;cases this;refine⟨?_,.laid hn,RG'.laid hn⟩;unfold Hv;exact⟨T,_,rfl,.of jw,.cons (o2.ext (.laid hn)) (.cons (o4.ext (.laid hn)) .nil)⟩
   ·intro i H' G' E' RG' hg hi;obtain⟨b1,us1,c1,m1,n1⟩:=f1 _ _ _ E' RG' hg.1;obtain⟨b2,us2,c2,m2,n2⟩:=f2 _ _ _ E' RG' hg.2;cases c1;cases c2;refine⟨_,_,m1,m2,?_⟩;have hi:(qp xs ys).length≤i:=hi;unfold qp at hi;rw[sC] at hi;rw[←n1.length,←n2.length];lia
  ·exact q1.elim⟩
end
theorem J6(hh:A.handled=none)(it a:ν)(hne:a≠it)(xs:Array ζ):
  Draws P w A it [it,a] xs.size (λi v=>xs[i]?=some v) (λi h=>Ik k h it a i/\Sk k h a xs) where
 live:=λ_ _ st=>let ⟨o,ho,_⟩:=st.1.obj;⟨o,ho⟩
 frame:=λ_ _ _ st hk=>⟨st.1.of λo e=>hk it (by simp) o e,st.2.of λo e=>hk a (by simp) o e⟩
 item:=λi s Q E hi st hQ=>nextK st.1 st.2 (u:=xs[i]) (by simp[hi]) λh' hit' hs'=>hQ _ h' s.toks (by simp[hi]) ⟨hit',st.2.of λo e=>hs'.extBut a o hne e⟩ hs'
 done:=λs Q E st hE=>zq hh st.1 st.2 (by simp) hE
section
variable {P:ao} {w:aC} {A:aQ} {E:ζ->η->Prop} {s:η}
theorem QQ(hh:A.handled=none)(he:IsEnum s.heap e it i old)(hi:Ik k s.heap it a j)(ha:Sk k s.heap a xs)(hx:xs[j]?=none)
  (hQ:∀h',Heap.ExtBut it s.heap h'->Q none { s with heap:=h' }):χ (model P w) A (pyNext (.ref e)) Q E s:=by
 have hT:s.TypeIs (.ref e) "enumerate":=⟨_,he,rfl⟩;refine γ (fD (bD (name:=dY "__next__") hT F.slot_enumerate_next
  (bA F.slot_enumerate_next hT F.entry_enumerate_next ?_ (F.args_enumerate_next_1 _))))
 show χ _ _ (field (.ref e) 2 >>= _) _ _ _;refine γ (b6 he rfl (x:=.ref it) rfl (γ (zq (by simpa using hh) hi ha hx λh' x he' hx'=>?_)));obtain⟨o,ho,hc⟩:=hx';exact γ (dP (T:="StopIteration") (b:=true) ⟨o,ho,hc⟩ kO (δ (hQ _ he')))
open AutoSeq1 (wpAny_loadPart') in
theorem QP(l:ν)(items:Array ζ)(n:Nat)(mS:Option ν)(sl:Array (Option ζ)):
  Meets (f9.«enumerate.__new__» ⟨[.type "enumerate",.ref l],[]⟩) (λ_ R s=>s.heap.get? l=some { cls:=.type "tuple",dict:=mS,data:=.seq items n,slots:=sl } ∧
   R (.ok (.ret (.ref (s.heap.push { cls:=.type "tuple_iterator",data:=.fields #[.ref l,.int 0 0]}).objs.size)))
    { s with heap:=(s.heap.push { cls:=.type "tuple_iterator",data:=.fields #[.ref l,.int 0 0]}).push { cls:=.type "enumerate",data:=.fields #[.none,.bool false,.ref s.heap.objs.size,rawInt 0,.none,.none]}}):=
 .of_wp λprog w A R s h=>by
  obtain⟨hp,g,d,tk,os⟩:=s;obtain⟨hl,h⟩:=h;have hsub:=sub_enumerate;have hL:Heap.IsTuple (hV ⟨hp,g,d,tk,os⟩) l items:=⟨_,hl,rfl,n,rfl⟩;wp_walk using wpAny_loadPart' hl;refine wpAny_stack_any λst=>δ ?_;split
  ·rename_i c _ _ _ _ _;cases (c==gs "enumerate")
   ·wp_walk using wpAny_loadPart' hl,dI hL;exact⟨_,rfl,h⟩
   ·wp_walk using wpAny_loadPart' hl,dI hL;exact⟨_,rfl,h⟩
  ·wp_walk using wpAny_loadPart' hl,dI hL;exact⟨_,rfl,h⟩
theorem QN(hL:s.heap.IsTuple l items)
  (h:∀h',IsEnum h' (s.heap.objs.size+1) s.heap.objs.size 0 .none->h'.IsTupleIter s.heap.objs.size l 0->h'.objs.size=s.heap.objs.size+2 ->
   (∀b o,s.heap.get? b=some o->h'.get? b=some o)->Q (.ref (s.heap.objs.size+1)) { s with heap:=h' }):
  χ (model P w) A (call (.type "enumerate") [.ref l]) Q E s:=by
 obtain⟨⟨c,mS,dt,sl⟩,hl,hc,n,hd⟩:=hL
 replace hc:c=.type "tuple":=hc
 replace hd:dt=.seq items n:=hd
 subst hc hd;refine callType_new F.called_enumerate (by decide) (F.typeCall_enumerate_1 _) (F.newCall_enumerate_1 _) (λobj=>F.args_object_init_2 obj _) F.entry_enumerate_new
  (QP l items n mS sl) ⟨hl,?_⟩
 have hz:(s.heap.push { cls:=.type "tuple_iterator",data:=.fields #[.ref l,.int 0 0]}).objs.size=s.heap.objs.size+1:=Heap.size_push ..;rw[hz];have he:IsEnum ((s.heap.push { cls:=.type "tuple_iterator",data:=.fields #[.ref l,.int 0 0]}).push
   { cls:=.type "enumerate",data:=.fields #[.none,.bool false,.ref s.heap.objs.size,rawInt 0,.none,.none]}) (s.heap.objs.size+1) s.heap.objs.size 0 .none:=by
  have:=Heap.get?_push_size (s.heap.push { cls:=.type "tuple_iterator",data:=.fields #[.ref l,.int 0 0]})
   (o:={ cls:=.type "enumerate",data:=.fields #[.none,.bool false,.ref s.heap.objs.size,rawInt 0,.none,.none]}) rfl
  rw[hz] at this;exact this
 refine⟨⟨_,he,rfl⟩,h _ he ⟨_,Heap.get?_push_of_some _ (Heap.get?_push_size _ rfl),rfl,rfl⟩ (by rw[Heap.size_push,hz]) λb o x=>Heap.get?_push_of_some _ (Heap.get?_push_of_some _ x)⟩
theorem QM(hL:Sk k s.heap l items)
  (h:∀h',IsEnum h' (s.heap.objs.size+1) s.heap.objs.size 0 .none->Ik k h' s.heap.objs.size l 0->h'.objs.size=s.heap.objs.size+2 ->
   (∀b o,s.heap.get? b=some o->h'.get? b=some o)->Q (.ref (s.heap.objs.size+1)) { s with heap:=h' }):
  χ (model P w) A (call (.type "enumerate") [.ref l]) Q E s:=by
 cases k with
 |true=>exact call_enumerate_list hL h
 |false=>exact QN hL h
end
def LI(K:PySem.W.Frag)(k:Bool)(a:ν):It:=
 ⟨λi H=>∃xs x,jx K k H a xs/\xs[i]?=some x,
  λi H x H'=>∃T u,x=.ref T/\H T=none/\H'=upd H T (.tup [.int i,u])/\∀xs,jx K k H a xs->xs[i]?=some u,
  λi H=>∃xs,jx K k H a xs/\xs.length≤i⟩
theorem QL{K:PySem.W.Frag}(k:Bool)(a en jt:ν)(hne:en≠jt):
  Turn P w K (.Tuple es n0 ps) (LI K k a) [en,jt] en (λi h=>(∃old,IsEnum h en jt i old)/\Ik k h jt a i) where
 mem:=by simp
 obj:=λi h st b hb=>by
  obtain⟨⟨old,Z⟩,g⟩:=st;simp only[Ψ,cz,or_false] at hb;rcases hb with rfl|rfl
  ·exact⟨_,Z,λv z=>by cases (show Data.fields _=tT v from z)⟩
  ·exact g.obj
 keep:=λi h h' st k=>⟨let ⟨old,Z⟩:=st.1;⟨old,k _ (by simp) _ Z⟩,st.2.of λo e=>k _ (by simp) _ e⟩
 item:=by
  intro X hP hw hK hc i pins s σ H E I hf st hg;subst hP hw hK;obtain⟨⟨old,Z⟩,g⟩:=st;obtain⟨xs,x,q1,hx⟩:=hg;obtain⟨its,rv,p⟩:=jx.heap I q1;obtain⟨u,hu,ru⟩:=rv.get hx;have hi:i<its.toArray.size:=by
   have:=(Γ.mp hu).1;simpa using this
  have hja:=jx.apart I q1 (hf jt (by simp));have hea:=jx.apart I q1 (hf en (by simp));refine wpAny_pyNext_enum_itemD (J6 (k:=k) (by have:=I.ok.hd hc;simpa using this) jt a hja its.toArray) Z ⟨g,p⟩ hi hne (by simp[hne,hea.symm]) λx2 h' tk hx2 Z' g' T' sz kp=>⟨_,rfl,?_⟩;have ex:x2=u:=by
   have:its.toArray[i]?=some u:=by simpa using hu
   rw[hx2] at this;exact aL this
  subst ex;refine wpAny_letOwnedTupleGo_enum (s:={ s with heap:=h',toks:=tk+1 }) Z' λh2 Z2 b2=>?_;have hn:=I.bX.fresh (ρ _);have I1:L2.Inv X pins σ (upd H s.heap.objs.size (.tup [.int i,x])) { s with heap:=s.heap.push { cls:=.type "tuple",data:=.seq #[.int i tk,x2]}}:=I.laid (t':=s.toks) (λb o e=>Heap.get?_push_of_some _ e) (ρ _) ⟨by show 2≤aA;decide,[.int i tk,x2],.cons ⟨_,rfl⟩ (.cons ru .nil),⟨_,Heap.get?_push_size _ rfl,rfl,⟨_,rfl⟩,rfl⟩⟩;have lt:∀b∈[en,jt],b<s.heap.objs.size:=λb hb=>by
   simp only[Ψ,cz,or_false] at hb;rcases hb with rfl|rfl
   ·exact Heap.lt_size Z
   ·obtain⟨o,e,_⟩:=g.obj;exact Heap.lt_size e
  have hf':∀b∈[en,jt],kv X pins (upd H s.heap.objs.size (.tup [.int i,x])) b:=λb hb=>⟨by rw[fj (aV (lt b hb))];exact (hf b hb).1,(hf b hb).2⟩;have I2:L2.Inv X pins σ (upd H s.heap.objs.size (.tup [.int i,x])) { s with heap:=h2,toks:=tk+1 }:=tV (s:={ s with heap:=s.heap.push { cls:=.type "tuple",data:=.seq #[.int i tk,x2]}}) (t':=tk+1) I1 (λb o hb e=>by
   simp only[Ψ,cz,or_false,not_or] at hb;refine b2.extBut b o hb.1 ?_;rcases Heap.get?_push_cases e with⟨rfl,rfl⟩|e
   ·exact T'
   ·exact kp b o hb.1 hb.2 e) hf'
  exact⟨.ref s.heap.objs.size,_,I2,rfl,⟨_,x,rfl,hn,rfl,λzs hz=>by rw[jx.inj I hz q1];exact hx⟩,⟨⟨_,Z2⟩,g'.1.of λo e=>b2.extBut jt o hne.symm e⟩,λb hb=>(hf' b hb).1⟩
 done:=by
  intro X hP hw hK hc i pins s σ H E I hf st hg;subst hP hw hK;obtain⟨⟨old,Z⟩,g⟩:=st;obtain⟨xs,q1,hl⟩:=hg;obtain⟨its,rv,p⟩:=jx.heap I q1;have l1:=rv.length;exact QQ (I.ok.hd hc) Z g p (by simp;lia) λh' kp=>⟨rfl,tV (t':=s.toks) I (λb o hb e=>by
   simp only[Ψ,cz,or_false,not_or] at hb;exact kp b o hb.2 e) hf⟩
 self:=λ_ _ _ _ _ st h=>let ⟨⟨_,Z⟩,_⟩:=st;wpAny_pyIter_enum Z h
section
variable {X:Cx} {es:List aT} {n0:Nat} {ps p pos:d9}
def KC(K:PySem.W.Frag)(ta:TA):TI:=λσ H R=>ta σ H λvs H1=>∃k a,vs=[.ref a]/\(∃xs,jx K k H1 a xs)/\R (LI K k a) H1
theorem QK(hg:Gl X "enumerate")(hm:X.mg "enumerate" = none)(ha:PA X [a] ta)(hs:bP [a] X.env=[(false,eval a X.env)]:=by rfl):PI X (.Tuple es n0 ps) (.Call (.Name "enumerate" p) [a] [] pos) (KC X.K ta):=by
 intro pins s σ H R I h;refine Call_ (sS I hg hm boot_enumerate (dJ (bN (ha pos pins s σ H _ I h) λus s1 zz=>?_) hs rfl));obtain⟨vs,H1,I1,r1,q1⟩:=zz;obtain⟨k,a1,e,⟨xs,q1⟩,q⟩:=q1;subst e;cases r1 with
 |cons r rr=>
  cases rr;cases r;obtain⟨its,rv,p⟩:=jx.heap I1 q1;refine QM p λh' z1 z2 z3 z4=>wpAny_pyIter_enum (s:={ s1 with heap:=h' }) z1 (⟨s1.heap.objs.size+1,[s1.heap.objs.size+1,s1.heap.objs.size],_,_,H1,rfl,I1.kept (t':=s1.toks) z4,QL k a1 _ _ (by simp),⟨⟨_,z1⟩,z2⟩,λb hb=>?_,q⟩)
  have hb:s1.heap.objs.size≤b:=by
   simp only[Ψ,cz,or_false] at hb;rcases hb with rfl|rfl
   ·exact gh _ _
   ·exact ρ _
  exact I1.rT hb (I1.bX.fresh hb)
def t7(xs:List D):List D:=qp (kh 0 xs.length) xs
def Aj(ta:jK):qZ:=λτ G R=>ta τ G λds G1=>match ds with
 |[x]=>∃xs,uE G1 x xs/\R ⟨t7 xs,λG=>uE G x xs⟩ G1
 |_=>False
theorem QJ(hm:X.mg "enumerate" = none)(ha:l5 X [a] ta)(hg:Gl X "enumerate":=by rfl)(hs:notStar a=true:=by rfl):
  ur X (.Tuple es n0 ps) (.Call (.Name "enumerate" p) [a] [] pos) (Aj ta):=
 xI (QK hg hm ha (eU hs)) λσ H R zz=>by
  obtain⟨τ,G,R3,RS,RG,h,k⟩:=zz;exact⟨τ,G,_,RS,RG,h,λvs H1 ds G1 h1 S1 R1 q1=>by
  rcases ds with _|⟨d,_|⟨d2,ds⟩⟩
  ·exact q1.elim
  ·obtain⟨xs,s1,q⟩:=q1;obtain⟨v,r,rfl,z1,z2⟩:=h1.inv;cases z2.kn;obtain⟨kk,hsq⟩:=B5 z1;obtain⟨a1,vs1,rfl,y1,w1⟩:=hsq _ _ _ (Ext.refl _) R1 s1;refine⟨kk,a1,rfl,⟨_,y1⟩,k _ _ _ _ ⟨?_,?_⟩ S1 R1 q⟩
   ·intro i d H' G' E' RG' hg hi;obtain⟨x,y,e1,e2,rfl⟩:=GU hi;obtain⟨b1,us1,c1,m1,n1⟩:=hsq _ _ _ E' RG' hg;cases c1;obtain⟨u1,o1,o2⟩:=n1.get e2;obtain⟨_,rfl⟩:=Ip e1;refine⟨⟨_,_,m1,o1⟩,λx' H'' hy=>?_⟩;obtain⟨T,u,rfl,hn,rfl,t1⟩:=hy;have:=t1 _ m1;rw[o1] at this;cases this;exact⟨⟨T,_,rfl,.of jw,.cons (by simp[Hv]) (.cons (o2.ext (.laid hn)) .nil)⟩,.laid hn,RG'.laid hn⟩
   ·intro i H' G' E' RG' hg hi;obtain⟨b1,us1,c1,m1,n1⟩:=hsq _ _ _ E' RG' hg;cases c1;refine⟨_,m1,?_⟩;unfold t7 qp at hi;rw[sC,zX] at hi;rw[←n1.length];lia
  ·exact q1.elim⟩
variable{K:PySem.W.Frag}
def aai:R3:=λx y G Q=>match x,y with
 |.bl b,.bl c=>Q (.bl (b==c)) G
 |_,_=>False
theorem QH:eV X (compareOp .IsNot) (λx y H Q=>∃b c,x=.bl b/\y=.bl c/\Q (.bl (!(b==c))) H):=by
 intro pins s σ H x y v u Q I rx ry h;obtain⟨b,c,rfl,rfl,q⟩:=h;cases rx;cases ry;exact δ (CA I q (by cases b<;>cases c<;>rfl))
def u0:R3:=λx y G Q=>match x,y with
 |.bl b,.bl c=>Q (.bl (!(b==c))) G
 |_,_=>False
theorem QF:eG K u0 (λx y H Q=>∃b c,x=.bl b/\y=.bl c/\Q (.bl (!(b==c))) H):=λx y vx vy G H Q3 Q hx hy RG h k=>by
 cases x with
 |bl b=>
  cases y with
  |bl c=>exact⟨b,c,vP hx,vP hy,k _ H _ G pZ (.refl H G) RG h⟩
  |_=>exact h.elim
 |_=>exact h.elim
end
end L3
namespace L3
open PySem PySem.Spec PyProof.Rows L2
open Classical in
noncomputable def vk (h:Heap) (vs:List Dat.D) (u:Dat.D) (y:ζ):Bool:=if q:∃d,d∈vs/\Dat.Hv h d y then (Classical.choose q).dF u else false
theorem B4(hd:d∈vs)(hy:Dat.Hv h d y):vk h vs u y=d.dF u:=by
 unfold vk;have q:∃d,d∈vs/\Dat.Hv h d y:=⟨d,hd,hy⟩;rw[dif_pos q,Dat.Hv.inj (Classical.choose_spec q).2 hy]
theorem xq:∀{vs:List Dat.D} {us:List ζ},(∀d∈vs,d∈vs0)->Dat.aU h vs us->us.any (vk h vs0 u)=vs.any λv=>v.dF u
 |[],us,_,p=>by
  subst p;rfl
 |d::ds,us,hm,p=>by
  obtain⟨y,r,rfl,p1,p2⟩:=p;rw[List.any_cons,List.any_cons,B4 (hm d ι) p1,xq (λd hd=>hm d (μ _ hd)) p2]
theorem B3:∀{vs:List Dat.D} {us:List ζ},Dat.aU h vs us->y∈us->∃d,d∈vs/\Dat.Hv h d y
 |[],us,p,hy=>by
  subst p;cases hy
 |d::ds,us,p,hy=>by
  obtain⟨x,r,rfl,p1,p2⟩:=p;rcases Ψ.mp hy with rfl|hy
  ·exact⟨d,ι,p1⟩
  ·obtain⟨e,h1,h2⟩:=B3 p2 hy;exact⟨e,μ _ h1,h2⟩
def lJ(neg:Bool):R3:=λx y G Q=>∃u vs,iD G x=some u/\(iD G y=some (.lst vs)∨iD G y=some (.tup vs))/\Dat.jh vs≤50/\Q (.bl (if neg then !(vs.any λv=>v.dF u) else vs.any λv=>v.dF u)) G
section
variable {X:Cx}
theorem inR(hu:X.A.units+64<cLine):wq X (compareOp .In) (lJ false):=by
 intro pins s σ H G x y vx vy u v Q3 I RG hx hy rx ry ⟨p,vs,e1,e2,hd,h⟩;have dx:=uh I RG hx rx e1;have fin:EP X pins σ (λw H'=>∃d G',Hv X.K H' d w/\Step H G H' G'/\bh X.K G' H'/\Q3 d G') (.bool (vs.any λv=>v.dF p)) s:=⟨.bl _,H,I,rfl,.bl _,G,pZ,.refl H G,RG,h⟩;have he:∀(its:List ζ),Dat.aU s.heap vs its->∀y,y∈its.toArray->vG X.A.in1 s y u (vk s.heap vs p y):=λits hv y hy=>by
  obtain⟨d,hd',hv'⟩:=B3 hv (by simpa using hy);rw[B4 hd' hv'];exact Dat.J3 d p y u _ hv' dx (by
   have:=Dat.mU hd';lia)
 rcases e2 with e2|e2
 ·have dy:=uh I RG hy ry e2;obtain⟨a,its,rfl,hl,hv⟩:=dy;refine SeqAt.in_listAt (vk s.heap vs p) hl (he its hv) ?_;rwa [lV,xq (λd hd=>hd) hv]
 ·have dy:=uh I RG hy ry e2;obtain⟨a,its,rfl,hl,hv⟩:=dy;refine SeqAt.in_tupleAt (vk s.heap vs p) hl (he its hv) ?_;rwa [lV,xq (λd hd=>hd) hv]
theorem Zj(hu:X.A.units+64<cLine):wq X (compareOp .NotIn) (lJ true):=by
 intro pins s σ H G x y vx vy u v Q3 I RG hx hy rx ry ⟨p,vs,e1,e2,hd,h⟩;have dx:=uh I RG hx rx e1;have fin:EP X pins σ (λw H'=>∃d G',Hv X.K H' d w/\Step H G H' G'/\bh X.K G' H'/\Q3 d G') (.bool (!(vs.any λv=>v.dF p))) s:=⟨.bl _,H,I,rfl,.bl _,G,pZ,.refl H G,RG,h⟩;have he:∀(its:List ζ),Dat.aU s.heap vs its->∀y,y∈its.toArray->vG X.A.in1 s y u (vk s.heap vs p y):=λits hv y hy=>by
  obtain⟨d,hd',hv'⟩:=B3 hv (by simpa using hy);rw[B4 hd' hv'];exact Dat.J3 d p y u _ hv' dx (by
   have:=Dat.mU hd';lia)
 rcases e2 with e2|e2
 ·have dy:=uh I RG hy ry e2;obtain⟨a,its,rfl,hl,hv⟩:=dy;refine SeqAt.notIn_listAt (vk s.heap vs p) hl (he its hv) ?_;rwa [lV,xq (λd hd=>hd) hv]
 ·have dy:=uh I RG hy ry e2;obtain⟨a,its,rfl,hl,hv⟩:=dy;refine SeqAt.notIn_tupleAt (vk s.heap vs p) hl (he its hv) ?_;rwa [lV,xq (λd hd=>hd) hv]
theorem P0(hu:X.A.units+64<cLine):eV X (compareOp .In) (nj X.K (lJ false)):=(inR hu).op
theorem PZ(hu:X.A.units+64<cLine):eV X (compareOp .NotIn) (nj X.K (lJ true)):=(Zj hu).op
theorem Zp{K:PySem.W.Frag}:eG K (lJ false) (nj K (lJ false)):=zK
theorem PY{K:PySem.W.Frag}:eG K (lJ true) (nj K (lJ true)):=zK
end
end L3
namespace cQ
open PySem lP
section
variable {prog:ao} {w:aC} {A:aQ} {E:ζ->η->Prop} {s:η}
def wH:=@Hy prog w A E s _ _ (kI prog w)
end
end cQ
namespace L3
open PySem PySem.Spec PyProof.Rows L2
section
variable {X:Cx}
theorem PX(hc:X.calm=true)(hu:X.A.units+64<cLine):gG X (.type "set") (λvs H Q=>∃(a:ν) (xs:List V) (nss:List (List Int)),vs=[.ref a]/\cR X.K H a xs/\aU X.K H (nss.map tupI) xs/\nss.length≤60 ∧
  ∀(b:ν) (zs:List (List Int×ν)),H b=none->(∀p∈zs,cR X.K H p.2 (p.1.map V.int))->(∀ns,ns∈zs.map (·.1)↔ns∈nss)->(zs.map (·.1)).Nodup->zs.length≤nss.length->Q (.ref b) (upd H b (.ext (wX X.prog X.w b zs)))):=by
 intro pins s σ H vs us Q I r h;obtain⟨a,xs,nss,rfl,hl,hv,hz,q⟩:=h;obtain⟨u,rfl,ru⟩:=vals1 r;cases ru;obtain⟨its,rv,pl,_⟩:=I.tuple hl;obtain⟨ps,e1,e2,e3,e4⟩:=xw I hv rv;subst e3;have hlen:ps.length=nss.length:=by rw[←e1,ε]
 refine cQ.wH (ps:=ps) (I.ok.hd hc) pl rfl (λp hp=>(e4 p hp).2) (by lia) (by lia) λh' tk zs kk hS hD=>?_;obtain⟨o,es,ep,t,S,T⟩:=hS;refine⟨.ref s.heap.objs.size,_,I.laid (o:=.ext (wX X.prog X.w s.heap.objs.size zs)) kk (ρ _) ?_,rfl,q _ zs (I.bX.fresh (ρ _)) (λp hp=>(e4 p (hD.sub p hp)).1) (λns=>?_) S.nd ?_⟩
 ·refine⟨⟨o,es,ep,t,S.at_,S.ex,S.dat,S.ents,S.nd,S.plain,S.led,T⟩,⟨o,S.at_⟩,λh1 h2 ⟨o',es',ep',t',y1,y⟩ kk2=>⟨o',es',ep',t',kk2 _ y1,y⟩⟩
 ·rw[←e1];constructor
  ·intro hm;obtain⟨p,hp,rfl⟩:=υ.mp hm;exact υ.mpr ⟨p,hD.sub p hp,rfl⟩
  ·intro hm;obtain⟨p,hp,rfl⟩:=υ.mp hm;exact hD.all p hp
 ·rw[←hlen];exact hD.len
variable{K:PySem.W.Frag}{e:aT}{es:List aT}{t:jK}{ta:cu}{pos p p' pos':d9}
def tm(ta:cu):cu:=λτ G Q=>ta τ G λx G1=>match x with
 |.tup ds=>∃nss:List (List Int),ds=nss.map tupI/\nss.length≤60/\(∀ns∈nss,ns≠[])/\∀(p:ν) (mss:List (List Int)) (G':Gp),d8 G1 p (.lst (mss.map tupI)) G'->(∀ns,ns∈mss↔ns∈nss)->mss.Nodup->gX mss->mss.length≤nss.length->Q (.obj p) G'
 |_=>False
theorem PV(hu:X.A.units+64<cLine)(ha:cv X e ta)(hm:X.mg "sorted" = none)(hm2:X.mg "set" = none)(hc:X.calm=true:=by rfl)(hg:Gl X "sorted":=by rfl)(hg2:Gl X "set":=by rfl)(he2:notStar e=true:=by rfl):
  cv X (.Call (.Name "sorted" p) [.Call (.Name "set" p') [e] [] pos'] [] pos) (tm ta):=
 jJ (qT (Qp hc hu) hg hm rfl (sW (vQ (PX hc hu) hg2 hm2 rfl (sW ha uk (eU he2)) (he:=eU he2) (hpl:=k9 rfl)) uk (eU rfl)) (he:=eU rfl) (hpl:=k9 rfl)) λσ H Q zz=>by
  obtain⟨τ,G,Q3,RS,RG,h,k⟩:=zz;refine⟨τ,G,_,RS,RG,h,λv H1 d G1 h1 S1 R1 q1=>?_⟩;cases d with
  |tup ds=>
   obtain⟨nss,rfl,hz,hne,q⟩:=q1;obtain⟨a,xs,rfl,e2,e3⟩:=mQ h1;refine⟨a,xs,nss,rfl,e2,e3,hz,λb zs hb hk hmem hnd hlen=>?_⟩;have E2:Ext H1 (upd H1 b (.ext (wX X.prog X.w b zs))):=.laid hb;refine⟨b,zs,rfl,jw,λp hp=>cR.ext E2 (hk p hp),by lia,λp hp=>hne _ ((hmem _).mp (υ.mpr ⟨p,hp,rfl⟩)),λp mss ys hp hpm hr hv=>?_⟩;have R2:bh X.K G1 (upd H1 b (.ext (wX X.prog X.w b zs))):=R1.laid hb;refine k _ _ (.obj p) _ qS ((S1.trans (.laid hb)).trans (.iq hp)) (R2.nN hp hv) (q p mss _ (.mk' (R2.free hp)) (λns=>?_) ?_ hr ?_)
   ·rw[hpm.mem_iff];exact hmem ns
   ·exact hpm.nodup_iff.mpr hnd
   ·rw[hpm.length_eq,ε];exact hlen
  |_=>exact q1.elim
end
end L3
namespace L2
open PySem PySem.Spec PyProof.Rows
def Aw(lo c:Int)(n:Nat):It:=⟨λi _=>i<n,λi H x H'=>H'=H/\x=.int (lo+i*c),λi _=>n≤i⟩
theorem PU{K:PySem.W.Frag}(it:ν)(lo c:Int)(n:Nat):Turn P w K tg (Aw lo c n) [it] it (λi h=>IsRangeIter h it (lo+(i:Nat)*c) ((n:Int)-(i:Nat)) c) where
 mem:=by simp
 obj:=λi h st b hb=>by
  have e:b=it:=by simpa using hb
  subst e;exact⟨_,st,λv z=>by
   have z':=z;cases z'⟩
 keep:=λi h h' st k=>k it (by simp) _ st
 item:=by
  intro X hP hw hK hc i pins s σ H E I hf st hg;subst hP hw hK;obtain⟨f0,f1,f2,f3,f4,f5⟩:=hf it (by simp);have W:=Walks.range (prog:=X.prog) (w:=X.w) (I.ok.hd hc) it lo c n;refine W.item i s _ _ hg st λv h' tk hv st' kk=>?_;obtain⟨t,rfl⟩:=hv;have I1:Inv X pins σ H { s with heap:=h',toks:=tk }:=I.turned (λb o hb e=>kk b o (by simpa using hb) e) f0 f1 f3 f4 f5;refine⟨_,rfl,Ac (s:={ s with heap:=h',toks:=tk }) (n:="range_iterator") st' rfl rfl (by decide) ⟨.int (lo+i*c),H,I1,⟨t,rfl⟩,⟨rfl,rfl⟩,st',λb hb=>(hf b hb).1⟩⟩
 done:=by
  intro X hP hw hK hc i pins s σ H E I hf st hg;obtain⟨f0,f1,f2,f3,f4,f5⟩:=hf it (by simp);exact wpAny_pyNext_range_end (I.ok.hd hc) st (by have:n≤i:=hg;lia) λh' eb=>⟨rfl,I.turned (t':=s.toks) (λb o hb e=>eb b o hb e) f0 f1 f3 f4 f5⟩
 self:=λ_ _ _ _ _ st h=>wpAny_pyIter_rangeiter st h
def lN(i j c:Int):Nat:=if i<j then ((j-i-1) / c+1).toNat else 0
theorem PQ(hc:0<c):dO i j c=(lN i j c:Int):=by
 unfold dO lN;rw[if_pos hc];split
 ·rename_i h;have:0≤(j-i-1) / c:=kf (by lia) (by lia);lia
 ·rfl
theorem PN(h1:-(2^61)≤i)(h2:i<2^61)(h3:-(2^61)≤j)(h4:j<2^61)(hc:0<c)(hc2:c<2^30):mT i j c=true:=by
 have hs:dO i j c≤2^62/\0≤dO i j c:=by
  unfold dO;rw[if_pos hc];split
  ·rename_i h;have e1:(j-i-1) / c≤j-i-1:=Int.ediv_le_self _ (by lia);have e2:0≤(j-i-1) / c:=kf (by lia) (by lia);lia
  ·lia
 unfold mT;simp only[f9.Range.rangeFitsLong,aM,Bool.or_eq_true,decide_eq_true_eq,beq_iff_eq,hc,gt_iff_lt,if_true];refine ?_;lia
section
variable {X:Cx} {tg:aT}
theorem PM{lo:Int}(I:Inv X pins σ H s)(hs:mT lo hi c=true)(hc:0<c)
  (q:R (Aw lo c (lN lo hi c)) H):χ (model X.prog X.w) X.A (pyIter (.ref s.heap.objs.size)) (DD X pins σ tg R) E { s with heap:=s.heap.push { cls:=.type "range",data:=.fields #[.int lo t,.int hi u,.int c v]},toks:=tk }:=by
 refine wpAny_pyIter_range (IsRange.new ..) hs ?_;have I1:Inv X pins σ H { s with heap:=s.heap.push { cls:=.type "range",data:=.fields #[.int lo t,.int hi u,.int c v]},toks:=tk }:=I.kept λb o e=>Heap.get?_push_of_some _ e;refine⟨(s.heap.push { cls:=.type "range",data:=.fields #[.int lo t,.int hi u,.int c v]}).objs.size,[(s.heap.push { cls:=.type "range",data:=.fields #[.int lo t,.int hi u,.int c v]}).objs.size],_,_,H,rfl,
  I1.kept (t':=tk) λb o e=>Heap.get?_push_of_some _ e,PU _ lo c (lN lo hi c),?_,λb hb=>?_,q⟩
 ·have e1:lo+((0:Nat):Int)*c=lo:=by simp
  have e2:(((lN lo hi c):Nat):Int)-((0:Nat):Int)=dO lo hi c:=by rw[PQ hc];simp
  rw[e1,e2];exact Heap.get?_push_size _ rfl
 ·have e:b=(s.heap.push { cls:=.type "range",data:=.fields #[.int lo t,.int hi u,.int c v]}).objs.size:=by simpa using hb
  subst e;exact I1.rT (ρ _) (I1.bX.fresh (ρ _))
def JL(ta:TA):TI:=λσ H R=>ta σ H λvs H1=>∃i j c:Int,vs=[.int i,.int j,.int c]/\(-(2^61)≤i/\i<2^61/\-(2^61)≤j/\j<2^61/\0<c/\c<2^30)/\R (Aw i c (lN i j c)) H1
theorem PL(hg:Gl X "range")(hm:X.mg "range" = none)(ha:PA X [a,b,d] ta)(hs:bP [a,b,d] X.env=[(false,eval a X.env),(false,eval b X.env),(false,eval d X.env)])(hs2:bP [b,d] X.env=[(false,eval b X.env),(false,eval d X.env)]):
  PI X tg (.Call (.Name "range" p) [a,b,d] [] pos) (JL ta):=by
 intro pins s σ H R I h;refine Call_ (sS I hg hm boot_range (dJ (bN (ha pos pins s σ H _ I h) λus s1 zz=>?_) (by rw[hs,hs2]) (by rw[hs2];rfl)));obtain⟨vs,H1,I1,r1,q1⟩:=zz;obtain⟨i,j,c,e,⟨q1,q2,q3,q4,q5,q6⟩,q⟩:=q1;subst e;cases r1 with
 |cons r rr=>
  cases rr with
  |cons r' rr=>
   cases rr with
   |cons r'' rr=>
    cases rr;obtain⟨t,rfl⟩:=r;obtain⟨t',rfl⟩:=r';obtain⟨t'',rfl⟩:=r'';exact call_range_3 (by lia) (PM I1 (PN q1 q2 q3 q4 q5 q6) q5 q) (.inl (PyProof.noPylong_small (by lia)))
theorem PK:Ka X (Be X.K):=by
 intro pins s σ H x y v u Q I rx ry h;obtain⟨p,xs,i,z,rfl,rfl,hq,he,q⟩:=h;cases rx;obtain⟨t,rfl⟩:=ry;obtain⟨its,r,pl,hz⟩:=I.list hq;obtain⟨j,h1,h2,h3,h4,h5⟩:=z9 he;obtain⟨w,ew,rw'⟩:=r.get h2;have hl:=r.length;have hn:=qX;have fin:EP X pins σ Q w s:=⟨z,H,I,rw',q⟩;by_cases h0:0≤i
 ·have hj:i.toNat=j:=by
   rw[qA h0 h5] at h1;exact aL h1
  exact wpAny_getItem_list pl.isList h0 (by lia) (by rw[hj];simpa using ew) fin
 ·have hj:(i+(its.toArray.size:Int)).toNat=j:=by
   rw[seqIndex_neg (by lia) h4] at h1;rw[Ω,←hl];exact aL h1
  exact wpAny_getItem_list_neg pl.isList (by lia) (by rw[Ω]<;>lia) (by lia) (by rw[hj];simpa using ew) fin
end
end L2
namespace L3
open PySem PySem.Spec PyProof.Rows L2
section
variable {X:Cx} {tg:aT} {p pos:d9}
def sN(lo c:Int)(n:Nat):List D:=(Φ n).map λi:Nat=>.int (lo+(i:Int)*c)
theorem PH{lo:Int}(h:(sN lo c n)[i]?=some d):i<n/\d=.int (lo+(i:Int)*c):=by
 unfold sN at h;rw[ax] at h;by_cases hi:i<n
 ·rw[jU hi] at h;simp at h;exact⟨hi,h.symm⟩
 ·rw[eD.mpr (by simpa using hi)] at h;cases h
theorem PF(lo c:Int)(n:Nat):(sN lo c n).length=n:=by simp[sN]
theorem PD{K:PySem.W.Frag}(lo c:Int)(n:Nat):As K H (Aw lo c n) ⟨sN lo c n,λ_=>True⟩:=⟨by
 intro i d H' G' _ RG _ hi;obtain⟨h1,h2⟩:=PH hi;refine⟨h1,λx H'' hy=>?_⟩;obtain⟨rfl,rfl⟩:=hy;exact⟨by rw[h2];simp[Hv],.refl _ _,RG⟩,by
 intro i H' G' _ RG _ hi;rw[PF] at hi;exact hi⟩
def Ai(ta:jK):qZ:=λτ G R=>ta τ G λds G1=>match ds with
 |[.int i,.int j,.int c]=>(-(2^61)≤i/\i<2^61/\-(2^61)≤j/\j<2^61/\0<c/\c<2^30)/\R ⟨sN i c (lN i j c),λ_=>True⟩ G1
 |_=>False
theorem PC(hm:X.mg "range" = none)(ha:l5 X [a,b,d] ta)(hg:Gl X "range":=by rfl)(hs:notStar a=true:=by rfl)(hs2:notStar b=true:=by rfl)(hs3:notStar d=true:=by rfl):
  ur X tg (.Call (.Name "range" p) [a,b,d] [] pos) (Ai ta):=
 xI (PL hg hm ha (by rw[eU hs,eU hs2,eU hs3];rfl) (by rw[eU hs2,eU hs3];rfl)) λσ H R zz=>by
  obtain⟨τ,G,R3,RS,RG,h,k⟩:=zz;exact⟨τ,G,_,RS,RG,h,λvs H1 ds G1 h1 S1 R1 q1=>by
  rcases ds with _|⟨d,_|⟨d2,_|⟨d3,_|⟨d4,ds⟩⟩⟩⟩
  ·exact q1.elim
  ·cases d<;>exact q1.elim
  ·cases d<;>(try exact q1.elim)<;>cases d2<;>exact q1.elim
  ·cases d with
   |int i=>
    cases d2 with
    |int j=>
     cases d3 with
     |int c=>
      obtain⟨v,r,rfl,z1,z2⟩:=h1.inv;obtain⟨v2,r2,rfl,z3,z4⟩:=z2.inv;obtain⟨v3,r3,rfl,z5,z6⟩:=z4.inv;cases z6.kn;exact⟨i,j,c,by rw[z1,z3,z5],q1.1,k _ _ _ _ (PD i c _) S1 R1 q1.2⟩
     |_=>exact q1.elim
    |_=>cases d3<;>exact q1.elim
   |_=>cases d2<;>(try exact q1.elim)<;>cases d3<;>exact q1.elim
  ·cases d<;>(try exact q1.elim)<;>cases d2<;>(try exact q1.elim)<;>cases d3<;>exact q1.elim⟩
abbrev AI:R3:=yz λi j=>.int (i+j)
theorem PB{K:PySem.W.Frag}:eG K AI (K0 λi j=>i+j):=low_ints λ_ _ _=>mo
theorem Pz(ho:cv X o to)(hi:cv X i ti)(he:cv X e te)
  (ha:∀ov iv new,augStore i ov iv new=(do holding [new,ov,iv] (setItem ov iv new);release [new,ov,iv] [];pure .next):=by intros;rfl):
  pB X (.AugAssign (.Subscript o i tpos) .Add e pos) (C8 to ti te (· + ·)):=
 sf (U3 ho hi PK he Jn set_list ha) λD σ H zz=>by
  obtain⟨τ,G,D3,RS,RG,h,k⟩:=zz;refine⟨τ,G,_,RS,RG,h,λv1 H1 d1 G1 h1 S1 R1 q1=>⟨τ,G1,_,RS.ext (S1.ext RG),R1,q1,λv2 H2 d2 G2 h2 S2 R2 q2=>?_⟩⟩;cases d1 with
  |obj p=>
   cases d2 with
   |int j=>
    obtain⟨ds,x,e1,e2,q⟩:=q2;obtain⟨vs,z1,z2⟩:=R2 p _ e1;obtain⟨v,z3,z4⟩:=zW z2 e2;have hv1:=iY h1;have hv2:=jX h2;refine⟨p,vs,j,v,hv1,hv2,.of z1,z3,⟨τ,G2,_,(RS.ext (S1.ext RG)).ext (S2.ext R1),R2,q,λv5 H5 d5 G5 h5 S5 R5 q5=>?_⟩⟩;cases d5 with
    |int y=>
     have hx:=jX z4;have hy:=jX h5;exact⟨x,y,hx,hy,(Iq (((h1.ext (S2.ext R1)).ext (S5.ext R2))) ((h2.ext (S5.ext R2))) mo R5 q5 λH' G' y1 y2 y3=>k.nx _ _ G' H' ((((RS.ext (S1.ext RG)).ext (S2.ext R1)).ext (S5.ext R2)).ext (y1.ext R5)) (((S1.trans S2).trans S5).trans y1) y2 y3)⟩
    |_=>exact q5.elim
   |_=>exact q2.elim
  |_=>cases d2<;>exact q2.elim
end
structure QE(X:Cx)(e:aT)(t:cu):Prop where
 of:cv X e t
structure QT(X:Cx)(e:aT)(t:jY):Prop where
 of:qf X e t
structure QW(X:Cx)(e:aT)(t:jY):Prop where
 of:wF X e t
structure QA(X:Cx)(es:List aT)(t:jK):Prop where
 of:l5 X es t
structure QS(X:Cx)(st:iz)(t:au):Prop where
 of:pB X st t
structure tF(X:Cx)(st:List iz)(t:au):Prop where
 of:qy X st t
structure QG(X:Cx)(tg:aT)(t:oo):Prop where
 of:vC X tg t
structure DB(X:Cx)(tgs:List aT)(t:uS):Prop where
 of:yj X tgs t
structure QI(X:Cx)(tg iter:aT)(t:qZ):Prop where
 of:ur X tg iter t
structure QO(X:Cx)(e:Option aT)(t:yP):Prop where
 of:A4 X e t
structure QC(X:Cx)(ifs:List aT)(t:jY):Prop where
 of:uu X ifs (rN X.K t)
section
variable {X:Cx} {pos:d9}
theorem Py(h:PE X (.Name x pos) (yS i)):QE X (.Name x pos) (θ i):=⟨UB h⟩
theorem Px:QE X (.Constant (.int i) j pos) (eC (.int i)):=⟨UA⟩
theorem Pw:QE X (.Constant .none j pos) (eC .aE):=⟨Uz⟩
theorem Pu(h:QE X a ta)(he:∀whole,isTrue a X.env whole=(do let v ←whole;standAt a.pos;holding [v] (truthy v)):=by intro _;rfl):QT X a (bz ta):=⟨TH h.of he⟩
theorem Pt:QA X [] ab:=⟨Ts⟩
theorem Pr(h:QE X a ta)(hr:QA X es tr)(hs:notStar a=true:=by rfl):QA X (a::es) (ξ ta tr):=⟨Tr h.of hr.of hs⟩
theorem Pq(h:QA X es t):QE X (.Tuple es x1 pos) (fN t):=⟨Tq h.of⟩
theorem Pp:tF X [] dB:=⟨Td⟩
theorem Po(h:QS X z1 t)(k:tF X z2 u):tF X (z1::z2) (aS t u):=⟨Tc h.of k.of⟩
theorem Qb(h:QS X z1 t):tF X [z1] t:=⟨Tb h.of⟩
theorem Qa(h:QE X e te):QS X (.Return (some e) pos) (bu te):=⟨T4 h.of⟩
theorem P9(h:QT X c tc)(k:tF X a t)(l:tF X b u):QS X (.If c a b pos) (gR tc t u):=⟨LX h.of k.of l.of⟩
theorem P8(h:X.N.Nodup)(hi:X.N[i]?=some x:=by rfl)(hx:Loc X.env.scope x:=by first|exact .inl rfl|exact .inr rfl)(hf:X.fn x=true∨X.env.scope.names.lookup x=some .local:=by first|exact .inl rfl|exact .inr rfl|assumption):QG X (.Name x pos) (hName i):=⟨TY h hi hx hf⟩
theorem P7(hN:X.N.Nodup)(he:QE X e te)(hi:X.N[i]?=some x:=by rfl)(hx:Loc X.env.scope x:=by first|exact .inl rfl|exact .inr rfl)(hs:swapsWith e (some (.Name x pos')) pos.line X.env=pure false:=by rfl)(hf:X.fn x=true∨X.env.scope.names.lookup x=some .local:=by first|exact .inl rfl|exact .inr rfl|assumption):QS X (.Assign [.Name x pos'] e pos) (bK te (hName i)):=⟨TN hN he.of hi hx hs hf⟩
theorem P6(h:QE X l te):QI X tg l (gx te):=⟨SN h.of⟩
theorem P5(hp:qk (model X.prog X.w) X.A X.env X.xe)(hc:X.calm=true)(hi:QI X tg iter ti)(hg:QG X tg g)(hb:tF X body tb)(hs:∀x,foldedSetIterable iter X.env x=pure x:=by intro _;rfl):QS X (.For tg iter body [] pos) (jd ti g tb):=⟨SI hp hc hi.of hg.of hb.of hs⟩
theorem P4(h:QE X a ta)(k:QE X b tb)(hs:wm b:=by intro _ _;rfl):QE X (.Subscript a b pos) (aq cB ta tb):=⟨ZE h.of k.of hs⟩
variable {apos cpos:d9}
theorem B0{id:String}(L:wo X.K r r2)(slot:Slot "list" n1 id)(hty:typeOf (.builtin id)=pure (.type "method_descriptor"))(hm:DF X id r2)(ho:QE X o t1)(ha:QA X (e::es) t)(rR:attributeBase o n1 X.env (eval o X.env)=eval o X.env:=by rfl)(CS:((backTo cpos (bP (e::es) X.env)).all (λx=>!x.1)&&(backToKw cpos (keywordEach [] X.env)).all (λx=>x.1.isSome)&&decide ((e::es).length+([]:List rq).length+(if ([]:List rq).isEmpty then 0 else 1)<30))=true:=by rfl)(rP:(apos.endLine==cpos.line)=true:=by rfl)(he:notStar e=true:=by rfl)(hpl:es.all notStar=true:=by rfl):QE X (.Call (.Attribute o n1 apos) (e::es) [] cpos) (eM r t1 t):=⟨RW L (Ub PySem.F.plainAttrs_list slot hty hm ho.of ha.of rR CS rP (eU he) (k9 hpl))⟩
theorem P2(L:eG X.K r r2)(L':eG X.K r' r2')(ho:eV X (compareOp op) r2)(ho':eV X (compareOp op') r2')(ha:QE X a ta)(hb:QE X b tb)(hc:QE X c tc)(hm:lastMarks [op,op'] [b,c]=false:=by with_unfolding_all rfl):QE X (.Compare a [op,op'] [b,c] pos) (vt r r' ta tb tc):=⟨TC (op:=op) (op':=op') L L' (Vk ho ho' ha.of hb.of hc.of hm)⟩
end
theorem P1{K:PySem.W.Frag}(h:∀ds G Q,¬sp ds G Q):wO P w K mg base k f fd ps sp:=
 ⟨λvs H Q E q=>by obtain⟨ds,G,Q3,_,_,z,_⟩:=q;exact absurd z (h _ _ _),λA outer s H args us vs Q E _ _ _ _ q=>by obtain⟨ds,G,Q3,_,_,z,_⟩:=q;exact absurd z (h _ _ _)⟩
end L3
namespace My
open PySem L2 L3
def Known(G:Gp):D->Prop
 |.obj a=>∃o,G a=some o/\o.plain
 |_=>True
def DR:D->Bool
 |.int _=>true
 |_=>false
theorem bZ(h:Q d G):(aF Q).rt d G:=⟨G,Sub.refl G,h⟩
theorem sO(s:Sub G G')(h:Q d G):(aF Q).rt d G':=⟨G,s,h⟩
theorem jv(h1:-(10^80)<i)(h2:i<10^80):i6 i:=by
 have:i.natAbs<10^80:=by lia
 exact jm this (by decide)
theorem Sub.wQ(s:Sub G G')(h:G a=none):Sub G (fO G' a o):=λb u e=>by
 rw[mR (λz=>by rw[z,h] at e;cases e)];exact s b u e
def BZ:dh:=λds G Q=>match ds with
 |[d]=>Known G d/\Q (.bl (DR d)) G
 |_=>False
def Pc:au:=bu (ni (vq "int" (θ 0)) (Dw (vq "bool" (θ 0))))
theorem Pb:∀ds G Q,BZ ds G Q->Pc (aF Q) (aY [nm] ds) G:=by
 intro ds G Q h;rcases ds with _|⟨d,_|⟨d2,ds⟩⟩
 ·exact h.elim
 ·cases d with
  |int i=>exact⟨λ_=>bZ h.2,nofun⟩
  |bl b=>exact⟨λ_=>bZ h.2,nofun⟩
  |aE=>exact⟨nofun,λ_=>bZ h.2⟩
  |str _=>exact⟨nofun,λ_=>bZ h.2⟩
  |tup _=>exact⟨nofun,λ_=>bZ h.2⟩
  |gQ _=>exact⟨nofun,λ_=>bZ h.2⟩
  |dc _=>exact⟨nofun,λ_=>bZ h.2⟩
  |obj a=>
   obtain⟨o1,h1,hp⟩:∃o,G a=some o/\o.plain:=h.1;show match lF "int" G (.obj a) with
    |some b=>_
    |none=>_
   cases hG:G a with
   |none=>rw[h1] at hG;cases hG
   |some o=>
    cases o with
    |lst _=>simp only[lF,hG];exact⟨nofun,λ_=>bZ h.2⟩
    |qV=>simp only[lF,hG];exact⟨nofun,λ_=>bZ h.2⟩
    |mS=>simp only[lF,hG];exact⟨nofun,λ_=>bZ h.2⟩
    |gen R=>
     rw[h1] at hG;cases hG;exact hp.elim
 ·exact h.elim
abbrev Pa:=@Pb "thing"
def GR:dh:=λds G Q=>∃(ns:List Int) (k:Nat),ds=[.gQ (ns.map .int),.int k]/\∀i:Int,Q (.int i) G
def O9:au:=aS (gR (bz (aq wL (θ 1) (du k8 (ξ (θ 0) (ab))))) (bu (aq cB (θ 0) (θ 1))) (dB)) (bu (eC (.int 0)))
theorem O8:∀ds G Q,GR ds G Q->O9 (aF Q) (aY ["script","k"] ds) G:=by
 rintro ds G Q ⟨ns,k,rfl,q⟩;refine⟨λh=>?_,λh=>bZ (q 0)⟩;have h':=of_decide_eq_true h;rw[ε] at h';have hk:k<ns.length:=by lia
 exact⟨.int ns[k],uM (by rw[ax,Θ hk];rfl),bZ (q _)⟩
def BY:dh:=λds G Q=>∃n:Int,ds=[.int n]/\0≤n/\∀r:Int,0≤r->r<2147483629->Q (.int r) G
def O7:au:=aS (bK (aq gq (aq eu (θ 0) (eC (.int 7919))) (eC (.int 2147483647))) (hName 0)) (bu (aq gq (aq eu (aq eu (aq i8 (θ 0) (θ 0)) (aq i8 (eC (.int 48271)) (θ 0))) (eC (.int 12345))) (eC (.int 2147483629))))
theorem O6:∀ds G Q,BY ds G Q->O7 (aF Q) (aY ["seed"] ds) G:=by
 rintro ds G Q ⟨n,rfl,hn,q⟩;have hb:i6 ((n+7919)%2147483647):=jv (by lia) (by lia);refine⟨(by decide:(0:Int)<2147483647),⟨hb,hb⟩,⟨jv (by decide) (by decide),hb⟩,(by decide:(0:Int)<2147483629),bZ (q _ ?_ ?_)⟩
 ·exact cF _ (by decide)
 ·exact bV _ (by decide)
def GQ:dh:=λds G Q=>∃(p:ν) (m i j k:Int),ds=[.obj p,.int m]/\G p=some (.lst [.int i,.int j,.int k])/\ua i j k/\0<m/\i6 m ∧
 ∀r i' j' k':Int,ua i' j' k'->0≤r->r<m->Q (.int r) (fO G p (.lst [.int i',.int j',.int k']))
def vL:dh:=λds G Q=>∃(p:ν) (m:Int),ds=[.obj p,.int m]/\G p=some .qV/\(0<m/\i6 m)/\∀r:Int,0≤r->r<m->Q (.int r) G
def O5:au:=aS (gR (bz (aq (dS false) (aq cB (θ 0) (eC (.int 1))) (eC (.int 1)))) (aS (bK (aq gq (aq cB (θ 0) (eC (.int 0))) (θ 1)) (hName 2)) (aS (bK (aq lE (aq cB (θ 0) (eC (.int 0))) (θ 1)) (hSub (θ 0) (eC (.int 0)))) (bu (θ 2)))) (dB)) (aS (bK (aN BY (ξ (aq eu (aN BY (ξ (aq cB (θ 0) (eC (.int 2))) (ab))) (eC (.int 7))) (ab))) (hSub (θ 0) (eC (.int 2)))) (bu (aq gq (aq lE (aq cB (θ 0) (eC (.int 2))) (eC (.int 64))) (θ 1))))
theorem O4:∀ds G Q,GQ ds G Q->O5 (aF Q) (aY ["pen","many","found"] ds) G:=by
 rintro ds G Q ⟨p,m,i,j,k,rfl,hp,ok,hm,hb,q⟩;obtain⟨o1,o2,o3⟩:=ok;refine⟨_,_,hp,rfl,_,_,rfl,rfl,ar _,λ_=>?_,λ_=>?_⟩
 ·refine⟨_,_,hp,rfl,hm,_,_,hp,rfl,⟨hm,hb⟩,_,0,hp,rfl,?_⟩;refine bZ (q (i%m) (i / m) j k ⟨?_,o2,o3⟩ ?_ ?_)
  ·exact kf o1 (by lia)
  ·exact cF _ (by lia)
  ·exact bV _ hm
 ·refine⟨_,_,hp,rfl,_,rfl,o2,λr h1 h2=>⟨_,rfl,(by lia),λr' h3 h4=>?_⟩⟩;refine⟨_,2,hp,rfl,_,_,oh,rfl,⟨by decide,jv (by decide) (by decide)⟩,hm,(bZ (q _ i j r' ⟨o1,h3,by lia⟩ ?_ ?_))⟩
  ·exact cF _ (by lia)
  ·exact bV _ hm
theorem O3:∀vs H Q E,mv K vL vs H Q E->mv K GQ vs H Q E:=by
 rintro vs H Q E ⟨ds,G,Q3,hd,RG,⟨p,m,rfl,hp,hm,q⟩,k⟩;obtain⟨i,j,l,e,ok⟩:=RG p _ hp;refine⟨_,fO G p (.lst [.int i,.int j,.int l]),λd G'=>∃i' j' l',ua i' j' l'/\G'=fO G p (.lst [.int i',.int j',.int l'])/\Q3 d G,hd,?_,⟨p,m,i,j,l,rfl,oh,ok,hm.1,hm.2,λr i' j' k' ok' h1 h2=>⟨i',j',k',ok',UE,q r h1 h2⟩⟩,?_⟩
 ·intro a o ea;by_cases z:a=p
  ·subst z;rw[oh] at ea;cases ea;exact⟨_,e,.cons (by simp[Hv]) (.cons (by simp[Hv]) (.cons (by simp[Hv]) .nil))⟩
  ·rw[mR z] at ea;exact RG a o ea
 ·rintro v H' d G' hv S R ⟨i',j',l',ok',rfl,h3⟩;refine k v H' d G hv ⟨λa o ea n=>S.fr a o ea ?_,S.pX,λa n z=>absurd n z⟩ (λa o ea=>?_) h3
  ·have:a≠p:=λz=>by rw[z,hp] at n;cases n
   rwa [mR this]
  ·by_cases z:a=p
   ·subst z;rw[hp] at ea;cases ea;obtain⟨ws,e1,e2⟩:=R a _ oh;have:=ui e2 (ns:=[i',j',l']) rfl;subst this;exact⟨i',j',l',e1,ok'⟩
   ·exact R a o (by rw[mR z];exact ea)
def GP:dh:=λds G Q=>∃c:Int,ds=[.int c]/\∀p i j k G',d8 G p (.lst [.int i,.int j,.int k]) G'->ua i j k->Q (.obj p) G'
def GN:dh:=λds G Q=>∃c:Int,ds=[.int c]/\∀p G',d8 G p .qV G'->Q (.obj p) G'
def O1:au:=aS (bK (du Cq (ξ (θ 0) (ξ (aq rE (eC (.int 0)) (θ 0)) (ab)))) (hName 1)) (bu (kW (ξ (θ 1) (ξ (du zJ (ξ (aq Bg (θ 1) (aq Di (eC (.int 10)) (eC (.int 18)))) (ab))) (ξ (aq gq (θ 1) (eC (.int 1000003))) (ab))))))
theorem O0:∀ds G Q,GP ds G Q->O1 (aF Q) (aY ["cell","left"] ds) G:=by
 rintro ds G Q ⟨c,rfl,q⟩;refine⟨⟨by decide,by decide,by decide⟩,(by decide:(0:Int)<1000003),λp G' hp=>bZ (q p _ _ _ _ hp ⟨?_,?_,?_⟩)⟩
 ·split<;>lia
 ·exact cF _ (by decide)
 ·exact Int.lt_trans (bV _ (by decide)) (by decide)
theorem OZ:∀vs H Q E,mv K GN vs H Q E->mv K GP vs H Q E:=by
 rintro vs H Q E ⟨ds,G,Q3,hd,RG,⟨c,rfl,q⟩,k⟩;refine⟨_,G,λd G'=>∃p i j l,ua i j l/\d8 G p (.lst [.int i,.int j,.int l]) G'/\d=.obj p,hd,RG,⟨c,rfl,λp i j l G' hp ok=>⟨p,i,j,l,ok,hp,rfl⟩⟩,?_⟩;rintro v H' d G' hv S R ⟨p,i,j,l,ok,hp,rfl⟩;refine k v H' _ (fO G' p .qV) hv ⟨S.fr,S.pX,λa n z=>S.new a n ?_⟩ (λa o ea=>?_) (q p _ ⟨hp.aE,Sub.wQ hp.sub hp.aE,oh⟩)
 ·by_cases y:a=p
  ·rw[y,hp.at_];simp
  ·rw[mR y] at z;exact z
 ·by_cases z:a=p
  ·subst z;rw[oh] at ea;cases ea;obtain⟨ws,e1,e2⟩:=R a _ hp.at_;have:=ui e2 (ns:=[i,j,l]) rfl;subst this;exact⟨i,j,l,e1,ok⟩
  ·rw[mR z] at ea;exact R a o ea
abbrev ψ:=Int×Int
def cD(c:ψ):D:=.tup [.int c.1,.int c.2]
def a6(cs:List ψ):D:=.tup (cs.map cD)
def Valid(c:ψ):Prop:=0<c.1/\0≤c.2/\c.2<c.1
def rg(n:Int)(c:ψ):Bool:=n%c.1==c.2
def BX:dh:=λds G Q=>∃(c:ψ) (n:Int),ds=[cD c,.int n]/\0<c.1/\Q (.bl (rg n c)) G
def OY:au:=bu (aq (dS false) (aq gq (θ 1) (aq cB (θ 0) (eC (.int 0)))) (aq cB (θ 0) (eC (.int 1))))
theorem OX:∀ds G Q,BX ds G Q->OY (aF Q) (aY ["clock","number"] ds) G:=by
 rintro ds G Q ⟨⟨s,r⟩,n,rfl,hs,q⟩;exact⟨_,rfl,hs,_,rfl,_,_,rfl,rfl,ar _,bZ q⟩
def GL:dh:=λds G Q=>∃(cs:List ψ) (n:Int),ds=[a6 cs,.int n]/\(∀c∈cs,0<c.1)/\cs.length≤1000/\∀p G',d8 G p (.lst ((cs.filter (rg n)).map cD)) G'->Q (.obj p) G'
def OW:au:=bu (fK ["clock"] [1] (gx (θ 0)) (hName 0) (bz (aN BX (ξ (θ 0) (ξ (θ 1) (ab))))) (θ 0))
theorem cH(h:n≤1000):n≤aA:=aH h (by decide)
theorem ny{α:Type}{guard:Gp->Prop}{g:oo}{tc:jY}{te:cu}{Q:List D->Gp->Prop}(I:S3->Prop)(h:α->D)(pr:α->Bool)(f:α->D){G:Gp}(hg:guard G):∀(xs:List α) (acc:List D) (τ:S3),I τ ->
  (∀x∈xs,∀τ (K1:S3->Gp->Prop) (K2:S3->D->Gp->Prop),I τ->(pr x=true->∀τ2,I τ2->K2 τ2 (f x) G)->(pr x=false->∀τ2,I τ2->K1 τ2 G)->g (h x) τ G λτ2 G2=>tc τ2 G2 λb G3=>Br b (te τ2 G3 λv G4=>K2 τ2 v G4) (K1 τ2 G3)) ->
  Q (acc++(xs.filter pr).map f) G->iE guard g tc te Q (xs.map h) acc τ G
 |[],acc,τ,_,_,q=>⟨hg,by simpa using q⟩
 |d::ds,acc,τ,hI,hs,q=>by
  refine⟨hg,hs d ι τ (λτ2 G3=>iE guard g tc te Q (ds.map h) acc τ2 G3) (λτ2 v G4=>iE guard g tc te Q (ds.map h) (acc++[v]) τ2 G4) hI (λhp τ2 h2=>?_) λhp τ2 h2=>?_⟩
  ·refine ny I h pr f hg ds _ τ2 h2 (λd' hd=>hs d' (μ _ hd)) ?_;rw[fc hp] at q;simpa using q
  ·refine ny I h pr f hg ds _ τ2 h2 (λd' hd=>hs d' (μ _ hd)) ?_;rw[gd (by rw[hp];simp)] at q;exact q
theorem OV:∀ds G Q,GL ds G Q->OW (aF Q) (aY ["clocks","number"] ds) G:=by
 rintro ds G Q ⟨cs,n,rfl,hc,hz,q⟩;refine⟨by rw[ε];exact cH hz,(ny (λτ=>∃x,τ=[x,some (.int n)]) cD (rg n) cD (G:=G) trivial cs [] _ ⟨none,rfl⟩ ?_ ?_)⟩
 ·rintro c hm τ K1 K2 ⟨x,rfl⟩ h1 h2;exact⟨c,n,rfl,hc c hm,λe=>h1 e _ ⟨_,rfl⟩,λe=>h2 e _ ⟨_,rfl⟩⟩
 ·exactλp G' hp=>bZ (q p G' hp)
def cX(c:ψ):Dat.D:=.tup [.int c.1,.int c.2]
theorem qv:∀cs:List ψ,c7 (cs.map cD)=some (cs.map cX)
 |[]=>rfl
 |c::cs=>by
  show (match eZ (cD c) with
   |some x=>match c7 (cs.map cD) with
    |some xs=>some (x::xs)
    |none=>none
   | none=>none)=_
  rw[qv cs];rfl
theorem qQ(h:G a=some (.lst ds))(e:c7 ds=some xs):iD G (.obj a)=some (.lst xs):=by
 unfold iD;simp only[h,e]
theorem xp:∀cs:List ψ,Dat.jh (cs.map cX)≤1
 |[]=>ar _
 |c::cs=>by
  show max (cX c).i4 (Dat.jh (cs.map cX))≤1;have h1:(cX c).i4=1:=rfl;have:=xp cs;lia
theorem BW(cs:List ψ):(Dat.D.lst (cs.map cX)).i4≤50:=by
 show Dat.jh (cs.map cX)+1≤50;have:=xp cs;lia
theorem zp(xs:List Dat.D):(Dat.D.lst xs).dF (.lst [])=xs.isEmpty:=by
 cases xs with
 |nil=>rfl
 |cons x xs=>rfl
theorem BV(a b:ψ):(cX a).dF (cX b)=decide (a=b):=by
 obtain⟨s,r⟩:=a;obtain⟨s',r'⟩:=b;show ((s==s')&&((r==r')&&true))=decide ((s,r)=(s',r'));rw[cV];simp
theorem BU:∀as bs:List ψ,Dat.jA (as.map cX) (bs.map cX)=decide (as=bs)
 |[],[]=>rfl
 |[],b::bs=>rfl
 |a::as,[]=>rfl
 |a::as,b::bs=>by
  show ((cX a).dF (cX b)&&Dat.jA (as.map cX) (bs.map cX))=_;rw[BV,BU as bs,cV];simp
def ck(n:Int)(c:ψ):Bool:=(n-c.2)%c.1==0
theorem qP(h:Valid c)(n:Int):ck n c=rg n c:=by
 obtain⟨h1,h2,h3⟩:=h;unfold rg ck;rw[cV];simp only[beq_iff_eq];constructor
 ·intro e;have:=gm.mpr e;rw[this];exact f7 h2 h3
 ·intro e;refine gm.mp ?_;rw[e];exact (f7 h2 h3).symm
def wj{α:Type}(xs:List α)(lo hi:Option Int):List α:=(xs.drop (HT.cJ xs.length 0 lo)).take (HT.cJ xs.length xs.length hi-HT.cJ xs.length 0 lo)
theorem xo(f:α->D)(xs:List α)(lo hi:Option Int):iy (xs.map f) lo hi=(wj xs lo hi).map f:=by
 unfold iy wj;rw[ε,sr,nW]
theorem GK(xs:List α)(k:Nat):wj xs none (some (k:Int))=xs.take k:=by
 unfold wj;rw[HT.wZ,HT.yy];simp only[m6,tJ];by_cases h:k≤xs.length
 ·rw[iJ h]
 ·rw[Nat.min_eq_right (by lia),lS,cP (by lia)]
theorem BS(xs:List α)(k:Nat):wj xs (some (k:Int)) none=xs.drop k:=by
 unfold wj;rw[HT.wZ,HT.yy];by_cases h:k≤xs.length
 ·rw[iJ h];exact cP (by rw[aX];lia)
 ·rw[Nat.min_eq_right (by lia),List.drop_length,fB (by lia)];simp
def kY(M:Int)(cs:List ψ):Prop:=∀c∈cs,Valid c/\c.1≤M
theorem OU(h:Valid (s,r))(h1:0≤i)(h2:i<k):Valid (s*k,r+s*i):=by
 obtain⟨a,b,c⟩:=h;have q:=bG (show i≤k-1 by lia) (show 0≤s by lia);rw[gv,jR] at q;have q2:=m9 (show 0≤s by lia) h1;refine⟨?_,?_,?_⟩
 ·exact nt a (by lia)
 ·lia
 ·lia
def dG(c:ψ):List Int:=[c.1,c.2]
theorem vZ(cs:List ψ):(cs.map dG).map tupI=cs.map cD:=by
 rw[aJ];rfl
theorem BR{cs:List ψ}:∀{mss:List (List Int)},(∀ns∈mss,ns∈cs.map dG)->∃cs':List ψ,mss=cs'.map dG/\∀c∈cs',c∈cs
 |[],_=>⟨[],rfl,λc hc=>nomatch hc⟩
 |ns::mss,h=>by
  obtain⟨cs',e,hc⟩:=BR (mss:=mss) λn hn=>h n (μ _ hn);obtain⟨c,h1,rfl⟩:=υ.mp (h ns ι);refine⟨c::cs',by simp[e],λd hd=>?_⟩;rcases Ψ.mp hd with rfl|hd
  ·exact h1
  ·exact hc d hd
def vz(a b:ψ):Prop:=a.1<b.1∨(a.1=b.1/\a.2<b.2)
def mB(cs:List ψ):Prop:=cs.Pairwise vz
theorem BQ(h:dG a=dG b):a=b:=by
 obtain⟨s,r⟩:=a;obtain⟨s',r'⟩:=b;simp[dG] at h;simp[h]
theorem BP(h:aR.lx (dG b) (dG a)=false)(hne:a≠b):vz a b:=by
 obtain⟨s,r⟩:=a;obtain⟨s',r'⟩:=b;unfold dG at h;simp only[aR.lx] at h;by_cases e:s'=s
 ·rw[if_pos e] at h;by_cases e2:r'=r
  ·exact absurd (by rw[e,e2]) hne
  ·rw[if_neg e2] at h;exact .inr ⟨e.symm,by simp only;lia⟩
 ·rw[if_neg e] at h;exact .inl (by simp only;lia)
theorem OT(h:gX (cs.map dG))(nd:(cs.map dG).Nodup):mB cs:=by
 have h1:=aO.mp h;have h2:=aO.mp nd;exact (h1.and h2).imp λ{a b} q=>BP q.1 λz=>q.2 (by rw[z])
theorem OS{cs:List ψ}{mss:List (List Int)}(hmem:∀ns,ns∈mss↔ns∈cs.map dG)(nd:mss.Nodup)(hr:gX mss)(hl:mss.length≤(cs.map dG).length):
  ∃cs':List ψ,mss=cs'.map dG/\(∀c,c∈cs'↔c∈cs)/\mB cs'/\cs'.length≤cs.length:=by
 obtain⟨cs',rfl,hc⟩:=BR λns hn=>(hmem ns).mp hn;refine⟨cs',rfl,λc=>⟨λh=>hc c h,λh=>?_⟩,OT hr nd,by simpa using hl⟩;obtain⟨c',h1,h2⟩:=υ.mp ((hmem (dG c)).mpr (υ.mpr ⟨c,h,rfl⟩));rw[←BQ h2];exact h1
theorem BO{cs:List ψ}:∀ns∈cs.map dG,ns≠[]:=λns hn=>by
 obtain⟨c,_,rfl⟩:=υ.mp hn;simp[dG]
theorem OR{G:Gp}{cs:List ψ}(e:G a=some (.lst (cs.map cD))):G a=some (.lst ((cs.map dG).map tupI)):=by rw[vZ];exact e
theorem xn{guard:Gp->Prop}(I:List D->List D->S3->Gp->Prop)(hg:∀ds acc τ G,I ds acc τ G->guard G)
  (step:∀d ds acc τ G (K1:S3->Gp->Prop) (K2:S3->D->Gp->Prop),I (d::ds) acc τ G->(∀τ' v G',I ds (acc++[v]) τ' G'->K2 τ' v G')->(∀τ' G',I ds acc τ' G'->K1 τ' G')->g d τ G λτ2 G2=>tc τ2 G2 λb G3=>Br b (te τ2 G3 λv G4=>K2 τ2 v G4) (K1 τ2 G3))
  (lK:∀acc τ G,I [] acc τ G->Q acc G):∀ds acc τ G,I ds acc τ G->iE guard g tc te Q ds acc τ G
 |[],acc,τ,G,h=>⟨hg _ _ _ _ h,lK _ _ _ h⟩
 |d::ds,acc,τ,G,h=>⟨hg _ _ _ _ h,step d ds acc τ G (λτ2 G3=>iE guard g tc te Q ds acc τ2 G3) (λτ2 v G4=>iE guard g tc te Q ds (acc++[v]) τ2 G4) h
   (λτ' v G' q=>xn I hg step lK ds _ τ' G' q) λτ' G' q=>xn I hg step lK ds _ τ' G' q⟩
def o8(cs:List ψ)(a:Nat):Nat:=cs.foldl (λa c=>c8 a c.1.toNat) a
def cK(cs:List ψ):Nat:=o8 cs 1
theorem BN{M:Nat}:∀{cs:List ψ} {a:Nat},(∀c∈cs,0<c.1/\c.1≤(M:Int))->0<a->0<o8 cs a/\o8 cs a≤a*M^cs.length
 |[],a,_,h=>⟨h,by simp[o8]⟩
 |c::cs,a,hc,h=>by
  obtain⟨h1,h2⟩:=hc c ι;have hp:0<c8 a c.1.toNat:=uA h (by lia);obtain⟨h3,h4⟩:=BN (cs:=cs) (a:=c8 a c.1.toNat) (λd hd=>hc d (μ _ hd)) hp;refine⟨h3,aH h4 ?_⟩;rw[ai,kB,dE (M^cs.length) M,←jL];refine mG _ ?_;have:c8 a c.1.toNat≤a*c.1.toNat:=fE (Nat.mul_pos h (by lia)) (qE (Nat.dvd_mul_right _ _) (Nat.dvd_mul_left _ _));exact aH this (jS _ (by lia))
theorem OQ(h:kY 1000 cs)(hl:cs.length≤12):0<cK cs/\cK cs≤1000^12:=by
 obtain⟨h1,h2⟩:=BN (M:=1000) (cs:=cs) (a:=1) (λc hc=>⟨(h c hc).1.1,(h c hc).2⟩) (by decide);refine⟨h1,aH h2 ?_⟩;rw[Nat.one_mul];exact mF (by decide) hl
theorem GJ{n:Nat}(h:n<10^80):i6 (n:Int):=jm (by simpa using h) (by decide)
def vY:dh:=λds G Q=>∃a b:Nat,ds=[.int a,.int b]/\Q (.int (aW a b:Nat)) G
def OP:au:=bK (θ 2) (hName 1)
def OO:au:=aS (bK (θ 1) (hName 0)) OP
def ON:au:=aS (bK (aq gq (θ 0) (θ 1)) (hName 2)) OO
def OM:au:=bu (θ 0)
def Pn:au:=aS (uZ (bz (aq (dS true) (θ 1) (eC (.int 0)))) (ON)) OM
theorem Pm:∀ds G Q,vY ds G Q->Pn (aF Q) (aY ["one","other","left"] ds) G:=by
 rintro ds G Q ⟨a,b,rfl,q⟩;refine⟨λm τ G'=>G'=G/\∃(a':Nat) (x:Option D),τ=[some (.int a'),some (.int (m:Nat)),x]/\aW a' m=aW a b,⟨b,rfl,a,_,rfl,rfl⟩,?_⟩;rintro m τ G' ⟨rfl,a',x,rfl,hg⟩;refine⟨_,_,rfl,rfl,ar _,λh=>?_,λh=>?_⟩
 ·have h1:(!((m:Int)==0))=true:=h;have h':(0:Int)<(m:Int):=by simp at h1;lia
  refine⟨h',a'%m,by exact_mod_cast fS a' (by lia),rfl,m,some (.int (a'%m:Nat)),?_,?_⟩
  ·show [some (D.int (m:Nat)),some (D.int ((a':Int)%(m:Int))),some (D.int ((a':Int)%(m:Int)))]=_;rw[←lW]
  ·rw[←hg,kC a' m,qF m a',kC]
 ·have h1:(!((m:Int)==0))=false:=h;have:m=0:=by simp at h1;lia
  subst this;rw[Nat.gcd_zero_right] at hg;rw[←hg] at q;exact bZ q
def nD(n:Nat):D:=.int (n:Nat)
def xS(ns:List Nat)(a:Nat):Nat:=ns.foldl c8 a
def GI:dh:=λds G Q=>∃(p:ν) (ns:List Nat),ds=[.obj p]/\G p=some (.lst (ns.map nD))/\(∀n∈ns,0<n/\n≤1000)/\ns.length≤20/\Q (.int (xS ns 1:Nat)) G
def Pl:au:=bK (aq i8 (θ 1) (aq lE (θ 2) (aN vY (ξ (θ 1) (ξ (θ 2) (ab)))))) (hName 1)
def Pk:au:=bu (θ 1)
def Pj:au:=aS (jd (gx (θ 0)) (hName 2) (Pl)) Pk
def Ph:au:=aS (bK (eC (.int 1)) (hName 1)) Pj
theorem Pg:∀ds G Q,GI ds G Q->Ph (aF Q) (aY ["numbers","least","number"] ds) G:=by
 rintro ds G Q ⟨p,ns,rfl,hp,ok,hl,q⟩;refine⟨_,hp,(mq (λds τ G'=>G'=G/\∃(zs:List Nat) (a:Nat) (x2:Option D),ds=zs.map nD/\τ=[some (.obj p),some (.int a),x2]/\(∀n∈zs,0<n/\n≤1000)/\0<a/\a*1000^zs.length≤1000^20/\xS zs a=xS ns 1) (λ_ _ _ h=>by rw[h.1];exact hp) ?_ ?_ _ _ _ ⟨rfl,ns,1,none,rfl,rfl,ok,by decide,?_,rfl⟩)⟩
 ·rintro d ds τ G' N ⟨rfl,zs,a,x2,e,rfl,okz,ha,hb,hr⟩ hN;cases zs with
  |nil=>cases e
  |cons n zs=>
   cases e;obtain⟨hs1,hs2⟩:=okz _ ι;have hg:0<aW a n:=iA _ ha;have hga:aW a n≤a:=fE ha (gi _ _);have ha20:=aH (pU _ (uz (by decide))) hb;have hbig:∀k:Nat,k≤1000^20->i6 (k:Int):=λk hk=>GJ (iK hk (by decide));refine⟨a,n,rfl,⟨by lia,hbig _ (aH hga ha20)⟩,⟨hbig _ ha20,?_⟩,?_⟩
   ·rw[←eO];exact hbig _ (aH (Nat.div_le_self _ _) (aH hs2 (by decide)))
   have el:a*(n / aW a n)=c8 a n:=by
    unfold c8;rw[Nat.mul_div_assoc a (fh a n)]
   refine hN _ _ ⟨rfl,zs,c8 a n,some (nD n),rfl,?_,λc hc=>okz c (μ _ hc),uA ha (by lia),?_,hr⟩
   ·show [some (D.obj p),some (D.int ((a:Int)*((n:Int) / (aW a n:Nat)))),_]=_;rw[←eO,←cU,el]
   ·refine aH ?_ hb;rw[ai,kB,dE (1000^zs.length) 1000,←jL];refine mG _ ?_;have:c8 a n≤a*n:=fE (Nat.mul_pos ha (by lia)) (qE (Nat.dvd_mul_right _ _) (Nat.dvd_mul_left _ _));exact aH this (jS _ (by lia))
 ·rintro τ G' ⟨rfl,zs,a,x2,e,rfl,okz,ha,hb,hr⟩;have:zs=[]:=by cases zs with
   |nil=>rfl
   |cons z zs=>cases e
  subst this;have hr':=hr;rw[←hr'] at q;exact bZ q
 ·rw[Nat.one_mul];exact mF (by decide) hl
theorem Pf(cs:List ψ)(a:Nat):xS (cs.map λc=>c.1.toNat) a=o8 cs a:=by
 unfold xS o8;rw[List.foldl_map]
def xm:dh:=λds G Q=>∃cs:List ψ,ds=[a6 cs]/\kY 1000 cs/\cs.length≤20/\Q (.int (cK cs:Nat)) G
def Pe:au:=bu (aN GI (ξ (fK ["clock"] [] (gx (θ 0)) (hName 0) (dD) (aq cB (θ 0) (eC (.int 0)))) (ab)))
theorem filter_all{α:Type}(xs:List α):xs.filter (λ_=>true)=xs:=iw.mpr λ_ _=>rfl
theorem Pd:∀ds G Q,xm ds G Q->Pe (aF Q) (aY ["clocks"] ds) G:=by
 rintro ds G Q ⟨cs,rfl,ok,hl,q⟩;refine⟨by rw[ε];exact cH (by lia),(ny (λτ=>∃x,τ=[x]) cD (λ_=>true) (λc=>nD c.1.toNat) (G:=G) trivial cs [] _ ⟨none,rfl⟩ ?_ ?_)⟩
 ·rintro⟨s,r⟩ hm τ K1 K2 ⟨x,rfl⟩ h1 h2;refine⟨λ_=>⟨_,rfl,?_⟩,nofun⟩;have hs:=(ok _ hm).1.1;have:=h1 rfl [some (cD (s,r))] ⟨_,rfl⟩;rwa [show D.int s=nD (s,r).1.toNat by show D.int s=D.int ((s.toNat:Nat):Int);rw[bp (by lia)]]
 ·intro p G' n;rw[filter_all,br,show cs.map (λc:ψ=>nD c.1.toNat)=(cs.map λc:ψ=>c.1.toNat).map nD by rw[aJ];rfl] at n;refine⟨p,_,rfl,n.at_,λk hk=>?_,by rw[ε];exact hl,?_⟩
  ·obtain⟨c,hc,rfl⟩:=υ.mp hk;obtain⟨⟨a,_⟩,b⟩:=ok c hc;lia
  ·rw[Pf];exact sO n.sub q
def GH:dh:=λds G Q=>∃t b:Nat,ds=[.int t,.int b]/\0<b/\b<10^80/\Q (.tup [nD (t / aW t b),nD (b / aW t b)]) G
def Oy:au:=bu (fN (ξ (aq lE (θ 0) (θ 2)) (ξ (aq lE (θ 1) (θ 2)) (ab))))
def Ox:au:=aS (bK (aN vY (ξ (θ 0) (ξ (θ 1) (ab)))) (hName 2)) Oy
theorem Ow:∀ds G Q,GH ds G Q->Ox (aF Q) (aY ["top","bottom","shared"] ds) G:=by
 rintro ds G Q ⟨t,b,rfl,hb,hz,q⟩;have hg:0<aW t b:=Nat.gcd_pos_of_pos_right _ hb;have hgb:aW t b≤b:=fE hb (fh _ _);have yO:i6 ((aW t b:Nat):Int):=GJ (by lia);refine⟨t,b,rfl,⟨by lia,yO⟩,⟨by lia,yO⟩,?_⟩;show (aF Q).rt (.tup [.int ((t:Int) / (aW t b:Nat)),.int ((b:Int) / (aW t b:Nat))]) G;rw[←eO,←eO];exact bZ q
def fM(cs:List ψ)(R:Nat):Nat:=(cs.map λc=>R / c.1.toNat).sum
def sJ(cs:List ψ):Nat:=fM cs (cK cs) / aW (fM cs (cK cs)) (cK cs)
def sL(cs:List ψ):Nat:=cK cs / aW (fM cs (cK cs)) (cK cs)
theorem xl:∀ns:List Int,intsOf (ns.map D.int)=some ns
 |[]=>rfl
 |n::ns=>by
  show (intsOf (ns.map D.int)).map (n::·)=_;rw[xl ns];rfl
theorem GG{R:Nat}:∀{cs:List ψ},(∀c∈cs,0<c.1)->(cs.map λc=>(R:Int) / c.1).sum=((fM cs R:Nat):Int)
 |[],_=>rfl
 |c::cs,h=>by
  have h0:=h c ι;have ih:=GG (R:=R) (cs:=cs) λc hc=>h c (μ _ hc);unfold fM at ih ⊢;rw[ay,bQ,ih,ay,bQ,fU,eO,bp (by lia)]
def BM:dh:=λds G Q=>∃cs:List ψ,ds=[a6 cs]/\kY 1000 cs/\cs.length≤12/\Q (.tup [nD (sJ cs),nD (sL cs)]) G
def Ov:au:=bu (aN GH (ξ (du xt (ξ (fK ["clock"] [1] (gx (θ 0)) (hName 0) (dD) (aq lE (θ 1) (aq cB (θ 0) (eC (.int 0))))) (ab))) (ξ (θ 1) (ab))))
def Ou:au:=aS (bK (aN xm (ξ (θ 0) (ab))) (hName 1)) Ov
theorem Ot:∀ds G Q,BM ds G Q->Ou (aF Q) (aY ["clocks","bottom"] ds) G:=by
 rintro ds G Q ⟨cs,rfl,ok,hl,q⟩;obtain⟨r1,r2⟩:=OQ ok hl;refine⟨cs,rfl,ok,by lia,by rw[ε];exact cH (by lia),(ny (λτ=>∃x,τ=[x,some (.int (cK cs:Nat))]) cD (λ_=>true) (λc=>.int ((cK cs:Nat) / c.1)) (G:=G) trivial cs [] _ ⟨none,rfl⟩ ?_ ?_)⟩
 ·rintro⟨s,r⟩ hm τ K1 K2 ⟨x,rfl⟩ h1 h2;have hs:=(ok _ hm).1.1;have hs2:=(ok _ hm).2;exact⟨λ_=>⟨_,rfl,⟨hs,jv (by lia) (by lia)⟩,h1 rfl _ ⟨_,rfl⟩⟩,nofun⟩
 ·intro p G' n;rw[filter_all,br,show cs.map (λc:ψ=>D.int ((cK cs:Nat) / c.1))=(cs.map λc:ψ=>((cK cs:Nat):Int) / c.1).map D.int by rw[aJ];rfl] at n;refine⟨_,_,n.at_,xl _,fM cs (cK cs),cK cs,?_,r1,iK r2 (by decide),sO n.sub q⟩;rw[GG λc hc=>(ok c hc).1.1]
def GF:dh:=λds G Q=>∃n b:Nat,ds=[.int n,.int b]/\0<b/\b<10^70/\aW n b=1/\∀r:Int,0≤r->r<b->((b:Int)∣n*r-1)->Q (.int r) G
def Oq:au:=bK (θ 8) (hName 5)
def Oo:au:=aS (bK (θ 7) (hName 3)) Oq
def Om:au:=aS (bK (θ 5) (hName 4)) Oo
def Ol:au:=aS (bK (θ 3) (hName 2)) Om
def Oj:au:=aS (bK (aq rE (θ 4) (aq i8 (θ 6) (θ 5))) (hName 8)) Ol
def Oi:au:=aS (bK (aq rE (θ 2) (aq i8 (θ 6) (θ 3))) (hName 7)) Oj
def Oh:au:=aS (bK (aq lE (θ 2) (θ 3)) (hName 6)) Oi
def Og:au:=bu (aq gq (θ 4) (θ 1))
def Of:au:=aS (uZ (bz (aq (dS true) (θ 3) (eC (.int 0)))) (Oh)) Og
def Oe:au:=aS (bK (eC (.int 1)) (hName 5)) Of
def Od:au:=aS (bK (eC (.int 0)) (hName 4)) Oe
def Oc:au:=aS (bK (aq gq (θ 0) (θ 1)) (hName 3)) Od
def Ob:au:=aS (bK (θ 1) (hName 2)) Oc
theorem Oa{lo hi le:Nat}(hq:0≤q)(he:(le:Int)=hi-q*lo)(h:hf.natAbs*lo+lf.natAbs*hi≤b):lf.natAbs*le+(hf-q*lf).natAbs*lo≤b:=by
 obtain⟨k,rfl⟩:∃k:Nat,q=(k:Int):=⟨q.toNat,by lia⟩;have h1:(hf-(k:Int)*lf).natAbs≤hf.natAbs+k*lf.natAbs:=by
  have:=Int.natAbs_sub_le hf ((k:Int)*lf);rw[Int.natAbs_mul,gF] at this;exact this
 have h2:hi=le+k*lo:=by
  have:(hi:Int)=((le+k*lo:Nat):Int):=by
   rw[fU,cU];lia
  exact_mod_cast this
 have h3:=mG lo h1;rw[Nat.add_mul] at h3;have h4:lf.natAbs*hi=lf.natAbs*le+k*lf.natAbs*lo:=by
  rw[h2,nq,dE k lf.natAbs,jL]
 lia
theorem N9:∀ds G Q,GF ds G Q->Ob (aF Q) (aY ["number","bound","high","low","high_factor","low_factor","turns","left","left_factor"] ds) G:=by
 rintro ds G Q ⟨n,b,rfl,hb,hz,hg,q⟩;have hb':(0:Int)<(b:Int):=by lia
 refine⟨hb',(⟨λm τ G'=>G'=G/\∃(hi:Nat) (hf lf:Int) (x6 x7 x8:Option D),τ=[some (.int n),some (.int b),some (.int hi),some (.int (m:Nat)),some (.int hf),some (.int lf),x6,x7,x8]/\m<hi/\hi≤b/\aW hi m=1/\((b:Int)∣hi-hf*n)/\((b:Int)∣m-lf*n)/\hf.natAbs*m+lf.natAbs*hi≤b,⟨n%b,rfl,b,0,1,none,none,none,?_,fS _ hb,ρ _,?_,?_,?_,?_⟩,?_⟩)⟩
 ·show [some (D.int n),some (D.int b),some (D.int b),some (D.int ((n:Int)%(b:Int))),_,_,_,_,_]=_;rw[←lW]
 ·rw[←hg,kC b,←qF,kC]
 ·rw[Int.zero_mul,Int.sub_zero];exact Int.dvd_refl _
 ·refine⟨-((n:Int) / b),?_⟩;have:=cE (n:Int) b;rw[lW,Int.mul_neg];lia
 ·simp
 rintro m τ G' ⟨rfl,hi,hf,lf,x6,x7,x8,rfl,h0,h1,hgm,d1,d2,hbd⟩;refine⟨_,_,rfl,rfl,ar _,λh=>?_,λh=>?_⟩
 ·have h2:(!((m:Int)==0))=true:=h;have hm:0<m:=by simp at h2;lia
  have hlf:=aH (pU _ (by lia)) (aH (Nat.le_add_left _ _) hbd);have bigb:∀i:Int,i.natAbs≤b->i6 i:=λi hi'=>jv (by lia) (by lia);have hq:((hi:Int) / (m:Int))=((hi / m:Nat):Int):=(eO _ _).symm;have hqb:i6 ((hi:Int) / (m:Int)):=by
   rw[hq];exact bigb _ (by rw[gF];exact aH (Nat.div_le_self _ _) h1)
  have hmb:i6 (m:Int):=bigb _ (by rw[gF];lia);have hle:((hi%m:Nat):Int)=hi-(hi:Int) / m*m:=by
   have:=cE (hi:Int) m;rw[lW,ij ((hi:Int) / m)];lia
  refine⟨⟨by lia,hmb⟩,⟨hqb,hmb⟩,⟨hqb,bigb _ hlf⟩,hi%m,fS _ hm,rfl,m,lf,hf-(hi:Int) / m*lf,some (.int ((hi:Int) / m)),some (.int ((hi%m:Nat):Int)),some (.int (hf-(hi:Int) / m*lf)),?_,fS _ hm,by lia,?_,d2,?_,?_⟩
  ·show [some (D.int n),some (D.int b),some (D.int m),some (D.int ((hi:Int)-(hi:Int) / m*m)),some (D.int lf),some (D.int (hf-(hi:Int) / m*lf)),some (D.int ((hi:Int) / m)),some (D.int ((hi:Int)-(hi:Int) / m*m)),some (D.int (hf-(hi:Int) / m*lf))]=_;rw[←hle]
  ·rw[←hgm,kC hi m,qF m hi,kC]
  ·rw[hle];have:=fC d1 (d0 d2 (Int.dvd_mul_left ((hi:Int) / m) _));rw[show (hi:Int)-(hi:Int) / m*m-(hf-(hi:Int) / m*lf)*n=hi-hf*n-(hi:Int) / m*(m-lf*n) by
    rw[Int.sub_mul,gv,ba];lia]
   exact this
  ·exact Oa (by rw[hq];exact kH _) hle hbd
 ·have h2:(!((m:Int)==0))=false:=h;have:m=0:=by simp at h2;lia
  subst this;rw[Nat.gcd_zero_right] at hgm;subst hgm;refine⟨hb',bZ (q _ (cF _ (by lia)) (bV _ hb') ?_)⟩;have e:=cE hf b;have h3:(n:Int)*(hf%b)-1 = -((1:Nat)-hf*n)-b*(n*(hf / b)):=by
   have:hf%b=hf-b*(hf / b):=by lia
   rw[this,gv,←ba,←ba,ij (n:Int) hf,ij (n:Int) b];lia
  rw[h3];exact fC (Int.dvd_neg.mpr d1) (bx _ _)
def Meets(a b:ψ)(x:Int):Prop:=0≤x/\x<(c8 a.1.toNat b.1.toNat:Nat)/\a.1∣x-a.2/\b.1∣x-b.2
theorem Meets.one(ha:Valid a)(hb:Valid b)(hx:Meets a b x)(hy:Meets a b y):x=y:=by
 obtain⟨x1,x2,x3,x4⟩:=hx;obtain⟨y1,y2,y3,y4⟩:=hy;have d1:a.1∣x-y:=by
  have:=fC x3 y3;rwa [show x-a.2-(y-a.2)=x-y by lia] at this
 have d2:b.1∣x-y:=by
  have:=fC x4 y4;rwa [show x-b.2-(y-b.2)=x-y by lia] at this
 have e1:a.1.toNat∣(x-y).natAbs:=by
  have:=jr.mpr d1;rwa [show a.1.natAbs=a.1.toNat by have:=ha.1;lia] at this
 have e2:b.1.toNat∣(x-y).natAbs:=by
  have:=jr.mpr d2;rwa [show b.1.natAbs=b.1.toNat by have:=hb.1;lia] at this
 have e3:=qE e1 e2;have:=Nat.eq_zero_of_dvd_of_lt e3 (by lia);lia
def ng(a b:ψ):Option ψ:=((Φ (c8 a.1.toNat b.1.toNat)).find? λx:Nat=>ck x a&&ck x b).map λx:Nat=>(((c8 a.1.toNat b.1.toNat:Nat):Int),(x:Int))
theorem bO:ck n c=true↔c.1∣n-c.2:=by
 unfold ck;rw[beq_iff_eq];exact⟨ff,dg⟩
theorem N8(ha:Valid a)(hb:Valid b)(h:Meets a b x):ng a b=some (((c8 a.1.toNat b.1.toNat:Nat):Int),x):=by
 obtain⟨k,rfl⟩:∃k:Nat,x=(k:Int):=⟨x.toNat,by have:=h.1;lia⟩;unfold ng;cases e:(Φ (c8 a.1.toNat b.1.toNat)).find? λx:Nat=>ck x a&&ck x b with
 |none=>
  have:=eN.mp e k (az.mpr (by have:=h.2.1;lia));exact absurd (by rw[aM,bO,bO];exact h.2.2) this
 |some y=>
  have h1:=iP e;have h2:=az.mp (fL e);rw[aM,bO,bO] at h1;have:=Meets.one ha hb ⟨by lia,by lia,h1.1,h1.2⟩ h;show some ((((c8 a.1.toNat b.1.toNat:Nat):Int),((y:Nat):Int)):ψ)=_;rw[this]
theorem N7(h:∀x,¬Meets a b x):ng a b=none:=by
 unfold ng;rw[eN.mpr]
 ·rfl
 ·intro x hx h1;rw[aM,bO,bO] at h1;exact h x ⟨by lia,by have:=az.mp hx;lia,h1.1,h1.2⟩
theorem N6(h:ng a b=some m):m.1=(c8 a.1.toNat b.1.toNat:Nat)/\Meets a b m.2:=by
 unfold ng at h;cases e:(Φ (c8 a.1.toNat b.1.toNat)).find? λx:Nat=>ck x a&&ck x b with
 |none=>rw[e] at h;cases h
 |some y=>
  rw[e] at h;have h1:=iP e;have h2:=az.mp (fL e);rw[aM,bO,bO] at h1;cases h;exact⟨rfl,kH _,Int.ofNat_lt.mpr h2,h1.1,h1.2⟩
def oD:Option ψ->D
 |none=>.aE
 |some c=>cD c
def GD:dh:=λds G Q=>∃a b:ψ,ds=[cD a,cD b]/\Valid a/\Valid b/\a.1<10^60/\b.1<10^60/\Q (oD (ng a b)) G
def N5:au:=bu (fN (ξ (aq i8 (aq cB (θ 0) (eC (.int 0))) (θ 4)) (ξ (aq eu (aq cB (θ 0) (eC (.int 1))) (aq i8 (aq cB (θ 0) (eC (.int 0))) (θ 5))) (ab))))
def N4:au:=aS (bK (aq gq (aq i8 (aq lE (θ 3) (θ 2)) (aN GF (ξ (aq lE (aq cB (θ 0) (eC (.int 0))) (θ 2)) (ξ (θ 4) (ab))))) (θ 4)) (hName 5)) N5
def OL:au:=aS (bK (aq lE (aq cB (θ 1) (eC (.int 0))) (θ 2)) (hName 4)) N4
def OJ:au:=aS (gR (bz (aq (dS true) (aq gq (θ 3) (θ 2)) (eC (.int 0)))) (bu (eC .aE)) (dB)) OL
def OI:au:=aS (bK (aq rE (aq cB (θ 1) (eC (.int 1))) (aq cB (θ 0) (eC (.int 1)))) (hName 3)) OJ
def OH:au:=aS (bK (aN vY (ξ (aq cB (θ 0) (eC (.int 0))) (ξ (aq cB (θ 1) (eC (.int 0))) (ab)))) (hName 2)) OI
theorem OG(hg:0<g)(hp:0<p)(hq:0<q)(hpq:aW p q=1)(h1:0≤r1)(h2:r1<((g*p:Nat):Int))(e:r2-r1=g*ap)(hi:(q:Int)∣p*inv-1)(ht:t=ap*inv%q):
  Meets (((g*p:Nat):Int),r1) (((g*q:Nat):Int),r2) (r1+((g*p:Nat):Int)*t):=by
 have t1:0≤t:=by rw[ht];exact cF _ (by lia)
 have t2:t<q:=by rw[ht];exact bV _ (by lia)
 have hl:c8 (g*p) (g*q)=g*p*q:=by
  rw[Nat.lcm_mul_left,c8,hpq,Nat.div_one,jL]
 refine⟨?_,?_,?_,?_⟩
 ·exact Int.add_nonneg h1 (m9 (kH _) t1)
 ·rw[a9,a9,hl,cU (g*p) q];have:((g*p:Nat):Int)*t≤((g*p:Nat):Int)*((q:Int)-1):=bG (by lia) (kH _);rw[gv,jR] at this;lia
 ·rw[show r1+((g*p:Nat):Int)*t-r1=((g*p:Nat):Int)*t by lia];exact bx _ _
 ·have d:(q:Int)∣p*t-ap:=by
   have e1:=cE (ap*inv) q;have e2:(p:Int)*t-ap=ap*(p*inv-1)-q*(p*(ap*inv / q)):=by
    have:t=ap*inv-q*(ap*inv / q):=by lia
    rw[this,gv,gv,jR,←ba (p:Int) q,ij (p:Int) q,ba (q:Int),←ba ap (p:Int),ij ap (p:Int),ba (p:Int) ap];lia
   rw[e2];exact fC (d0 hi (Int.dvd_mul_left _ _)) (bx _ _)
  obtain⟨k,hk⟩:=d;refine⟨k,?_⟩;have:r1+((g*p:Nat):Int)*t-r2=g*(p*t-ap):=by
   rw[gv,←e,←ba,cU];lia
  rw[this,hk,cU,ba]
theorem OF:∀ds G Q,GD ds G Q->OH (aF Q) (aY ["one","other","shared","apart","many","turns"] ds) G:=by
 rintro ds G Q ⟨⟨s1,r1⟩,⟨s2,r2⟩,rfl,va,vb,z1,z2,q⟩;have v1:0<s1:=va.1;have v2:0<s2:=vb.1;obtain⟨m1,rfl⟩:∃n:Nat,s1=(n:Int):=⟨s1.toNat,by lia⟩;obtain⟨m2,rfl⟩:∃n:Nat,s2=(n:Int):=⟨s2.toNat,by lia⟩;have hg:0<aW m1 m2:=iA _ (by lia);have hgl:aW m1 m2≤m1:=fE (by lia) (gi _ _);have bg:i6 ((aW m1 m2:Nat):Int):=jv (by lia) (by lia);refine⟨_,rfl,_,rfl,m1,m2,rfl,_,rfl,_,rfl,by lia,_,_,rfl,rfl,ar _,λh=>?_,λh=>?_⟩
 ·have h':(!((r2-r1)%((aW m1 m2:Nat):Int)==0))=true:=h;have hne:(r2-r1)%((aW m1 m2:Nat):Int)≠0:=by simpa using h'
  rw[N7] at q
  ·exact bZ q
  ·rintro x ⟨_,_,d1,d2⟩;have e1:((aW m1 m2:Nat):Int)∣x-r1:=d0 (a8.mpr (gi _ _)) d1;have e2:((aW m1 m2:Nat):Int)∣x-r2:=d0 (a8.mpr (fh _ _)) d2;have:=fC e1 e2;rw[show x-r1-(x-r2)=r2-r1 by lia] at this;exact hne (dg this)
 ·have h':(!((r2-r1)%((aW m1 m2:Nat):Int)==0))=false:=h;obtain⟨p,hp⟩:=gi m1 m2;obtain⟨k,hk⟩:=fh m1 m2;have hpk:aW p k=1:=by
   have:=Nat.gcd_mul_left (aW m1 m2) p k;rw[←hp,←hk] at this;exact oQ hg (by rw[←this,iV])
  have hp0:0<p:=by
   rcases Nat.eq_zero_or_pos p with z|z
   ·rw[z,Nat.mul_zero] at hp;lia
   ·exact z
  have hk0:0<k:=by
   rcases Nat.eq_zero_or_pos k with z|z
   ·rw[z,Nat.mul_zero] at hk;lia
   ·exact z
  have hkm:k≤m2:=by rw[hk];exact Nat.le_mul_of_pos_left _ hg
  have dk:((m2:Int) / ((aW m1 m2:Nat):Int))=(k:Int):=by
   rw[←eO];congr 1;exact jM hg hk
  have dp:((m1:Int) / ((aW m1 m2:Nat):Int))=(p:Int):=by
   rw[←eO];congr 1;exact jM hg hp
  have c0:(0:Int)<((aW m1 m2:Nat):Int):=by lia
  have eap:r2-r1=((aW m1 m2:Nat):Int)*((r2-r1) / ((aW m1 m2:Nat):Int)):=by
   have:=cE (r2-r1) ((aW m1 m2:Nat):Int);lia
  have a1:=va.2.1;have a2:=va.2.2;have b1:=vb.2.1;have b2:=vb.2.2;have bap:i6 ((r2-r1) / ((aW m1 m2:Nat):Int)):=by
   have h3:=Int.natAbs_ediv_le_natAbs (r2-r1) ((aW m1 m2:Nat):Int);exact jv (by lia) (by lia)
  refine⟨_,rfl,⟨c0,bg⟩,⟨c0,bg⟩,_,rfl,⟨c0,bg⟩,?_⟩;dsimp only;rw[dk,dp];refine⟨p,k,rfl,hk0,by lia,hpk,λinv i1 i2 i3=>⟨⟨bap,jv (by lia) (by lia)⟩,by lia,?_⟩⟩;have t1:=cF ((r2-r1) / ((aW m1 m2:Nat):Int)*inv) (show (k:Int)≠0 by lia);have t2:=bV ((r2-r1) / ((aW m1 m2:Nat):Int)*inv) (show (0:Int)<(k:Int) by lia);refine⟨_,rfl,⟨jv (by lia) (by lia),jv (by lia) (by lia)⟩,_,rfl,_,rfl,⟨jv (by lia) (by lia),jv (by lia) (by lia)⟩,?_⟩;have M:=OG (g:=aW m1 m2) (p:=p) (q:=k) (inv:=inv) (r1:=r1) (r2:=r2) hg hp0 hk0 hpk a1 (by rw[←hp];exact a2) eap i3 rfl;rw[←hp,←hk] at M;rw[N8 va vb M] at q;have el:c8 m1 m2=m1*k:=by
   unfold c8;rw[Nat.mul_div_assoc _ (fh _ _)];congr 1;exact jM hg hk
  have q':Q (.tup [.int ((c8 m1 m2:Nat):Int),.int (r1+(m1:Int)*((r2-r1) / ((aW m1 m2:Nat):Int)*inv%k))]) G:=q;rw[el,cU] at q';exact bZ q'
def vc(cs:List ψ)(i j:Nat):Option (Nat×Nat×Int):=match cs[i]?,cs[j]? with
 |some a,some b=>(ng a b).map λm=>(i,j,m.2)
 |_,_=>none
def w6(cs:List ψ)(i:Nat):Option (Nat×Nat×Int):=(Φ (cs.length-(i+1))).findSome? λk=>vc cs i (i+1+k)
def ll(cs:List ψ):Option (Nat×Nat×Int):=(Φ cs.length).findSome? (w6 cs)
def kD:Option (Nat×Nat×Int)->D
 |none=>.aE
 |some (i,j,x)=>.tup [nD i,nD j,.int x]
theorem vK(n:Nat):kh 0 n=(Φ n).map nD:=by
 refine bB λi _=>?_;show D.int (0+(i:Int))=D.int (i:Int);rw[tS]
theorem LY(i n:Nat):kh ((i:Int)+1) n=(Φ n).map λk=>nD (i+1+k):=by
 refine bB λk _=>?_;show D.int ((i:Int)+1+(k:Int))=D.int ((i+1+k:Nat):Int);rw[fU,fU];rfl
theorem Ht{cs:List ψ}{i:Nat}(h:cs[i]?=some a):oj (cs.map cD) (i:Int)=some (cD a):=uM (by rw[ax,h];rfl)
def Hs:dh:=λds G Q=>∃cs:List ψ,ds=[a6 cs]/\kY 1000 cs/\cs.length≤1000/\Q (kD (ll cs)) G
def OE:au:=gR (bz (aq (qt true) (θ 3) (eC .aE))) (bu (fN (ξ (θ 1) (ξ (θ 2) (ξ (aq cB (θ 3) (eC (.int 1))) (ab)))))) (dB)
def OD:au:=aS (bK (aN GD (ξ (aq cB (θ 0) (θ 1)) (ξ (aq cB (θ 0) (θ 2)) (ab)))) (hName 3)) OE
def OB:au:=jd (p8 (ξ (aq eu (θ 1) (eC (.int 1))) (ξ (du k8 (ξ (θ 0) (ab))) (ab)))) (hName 2) (OD)
def Oz:au:=bu (eC .aE)
def NS:au:=aS (jd (p9 (ξ (du k8 (ξ (θ 0) (ab))) (ab))) (hName 1) (OB)) Oz
theorem NR:∀ds G Q,Hs ds G Q->NS (aF Q) (aY ["clocks","place","other","met"] ds) G:=by
 rintro ds G Q ⟨cs,rfl,ok,hl,q⟩;refine⟨by rw[ε];omega,?_⟩;rw[ε,a9,vK];refine mq (λds τ G'=>G'=G/\∃(is:List Nat) (x1 x2 x3:Option D),ds=is.map nD/\(∀i∈is,i<cs.length)/\is.findSome? (w6 cs)=ll cs/\τ=[some (a6 cs),x1,x2,x3]) (λ_ _ _ _=>trivial) ?_ ?_ _ _ _ ⟨rfl,_,_,_,_,rfl,λi hi=>az.mp hi,rfl,rfl⟩
 ·rintro d ds τ G' N ⟨rfl,is,x1,x2,x3,e,hi,hr,rfl⟩ hN;cases is with
  |nil=>cases e
  |cons i is=>
   cases e;have sg:=hi i ι;obtain⟨a,ha⟩:∃a,cs[i]?=some a:=⟨cs[i],Θ sg⟩;have va:=ok a (av ha);refine⟨by rw[ε];omega,?_⟩;rw[ε,show (((cs.length:Nat):Int)-((i:Int)+1)).toNat=cs.length-(i+1) by omega,LY];refine mq (λds τ G''=>G''=G'/\∃(ks:List Nat) (x2 x3:Option D),ds=ks.map (λk=>nD (i+1+k))/\(∀k∈ks,i+1+k<cs.length)/\ks.findSome? (λk=>vc cs i (i+1+k))=w6 cs i/\τ=[some (a6 cs),some (nD i),x2,x3]) (λ_ _ _ _=>trivial) ?_ ?_ _ _ _ ⟨rfl,_,_,_,rfl,λk hk=>by have:=az.mp hk;omega,rfl,rfl⟩
   ·rintro d ds τ G'' N' ⟨rfl,ks,x2,x3,e,hk,hr',rfl⟩ hN';cases ks with
    |nil=>cases e
    |cons k ks=>
     cases e;have hkn:=hk k ι;obtain⟨b,hb⟩:∃b,cs[i+1+k]?=some b:=⟨cs[i+1+k],Θ hkn⟩;have vb:=ok b (av hb);have ep:vc cs i (i+1+k)=(ng a b).map λm=>(i,i+1+k,m.2):=by
      unfold vc;rw[ha,hb]
     refine⟨_,Ht ha,_,Ht hb,a,b,rfl,va.1,vb.1,by have:=va.2;omega,by have:=vb.2;omega,?_⟩;cases em:ng a b with
     |none=>
      refine⟨nofun,λ_=>hN' _ _ ⟨rfl,ks,_,_,rfl,λk' h'=>hk k' (μ _ h'),?_,rfl⟩⟩;rw[←hr',jV,ep,em];rfl
     |some m=>
      refine⟨λ_=>⟨_,rfl,?_⟩,nofun⟩;have e1:w6 cs i=some (i,i+1+k,m.2):=by
       rw[←hr',jV,ep,em];rfl
      have e2:ll cs=some (i,i+1+k,m.2):=by
       rw[←hr,jV,e1]
      rw[e2] at q;exact bZ q
   ·rintro τ G'' ⟨rfl,ks,x2,x3,e,hk,hr',rfl⟩;have:ks=[]:=by cases ks with
     |nil=>rfl
     |cons z zs=>cases e
    subst this;have e1:w6 cs i=none:=hr'.symm;refine hN _ _ ⟨rfl,is,_,_,_,rfl,λi' h'=>hi i' (μ _ h'),?_,rfl⟩;rw[←hr,jV,e1]
 ·rintro τ G' ⟨rfl,is,x1,x2,x3,e,hi,hr,rfl⟩;have:is=[]:=by cases is with
   |nil=>rfl
   |cons z zs=>cases e
  subst this;have e1:=hr.symm;rw[e1] at q;exact bZ q
def yl(G:Gp):D->Prop
 |.tup ds=>∀d∈ds,Known G d
 |.obj a=>∃o,G a=some o/\o.plain
 |_=>True
theorem Known.sub(s:Sub G G')(h:Known G d):Known G' d:=by
 cases d with
 |obj a=>
  obtain⟨o,e,hp⟩:=h;exact⟨o,s a o e,hp⟩
 |_=>trivial
theorem Hr(h:yl G d)(hn:∀ds,d≠.tup ds):lF "tuple" G d=some false:=by
 cases d with
 |obj a=>
  obtain⟨o,hG,hp⟩:∃o,G a=some o/\o.plain:=h;cases o with
  |gen R=>exact hp.elim
  |_=>simp[lF,hG]
 |tup ds=>exact absurd rfl (hn ds)
 |_=>rfl
theorem xk(as bs:List ψ):(Dat.D.lst (as.map cX)).dF (.lst (bs.map cX))=decide (as=bs):=BU as bs
def Kn(G:Gp):Nat->D->Prop
 |0,d=>Known G d
 |n+1,.tup ds=>∀d∈ds,Kn G n d
 |_+1,d=>Known G d
def ix(G:Gp)(d:D):Prop:=∀n,Kn G n d
section
variable {G G':Gp}
theorem ix.tup(h:∀d∈ds,ix G d):ix G (.tup ds):=λn=>match n with
 |0=>trivial
 |n+1=>λd hd=>h d hd n
theorem ix.int(i:Int):ix G (.int i):=λn=>by cases n<;>trivial
theorem ix.aE:ix G .aE:=λn=>by cases n<;>trivial
theorem ix.el(h:ix G (.tup ds))(hd:d∈ds):ix G d:=λn=>h (n+1) d hd
theorem ix.known(h:ix G d):Known G d:=h 0
theorem ix.AR(h:ix G d):yl G d:=by
 cases d with
 |tup ds=>exactλd hd=>(h.el hd).known
 |obj a=>exact h 0
 |_=>trivial
theorem Kn.sub(s:Sub G G'):∀(n:Nat) (d:D),Kn G n d->Kn G' n d
 |0,d,h=>Known.sub s h
 |n+1,.tup ds,h=>λd hd=>Kn.sub s n d (h d hd)
 |n+1,.aE,_=>trivial
 |n+1,.bl _,_=>trivial
 |n+1,.int _,_=>trivial
 |n+1,.str _,_=>trivial
 |n+1,.gQ _,_=>trivial
 |n+1,.dc _,_=>trivial
 |n+1,.obj _,h=>Known.sub s h
theorem ix.sub(s:Sub G G')(h:ix G d):ix G' d:=λn=>Kn.sub s n d (h n)
theorem ix.clk(c:ψ):ix G (cD c):=.tup λd hd=>by
 simp only[Ψ,cz,or_false] at hd;rcases hd with rfl|rfl
 ·exact .int _
 ·exact .int _
theorem ix.two(ha:ix G a)(hb:ix G b):ix G (.tup [a,b]):=.tup λd hd=>by
 simp only[Ψ,cz,or_false] at hd;rcases hd with rfl|rfl
 ·exact ha
 ·exact hb
end
mutual
def gA:D->Nat
 |.tup ds=>jB ds+1
 |.aE=>0
 |.bl _=>0
 |.int _=>0
 |.str _=>0
 |.gQ _=>0
 |.dc _=>0
 |.obj _=>0
def jB:List D->Nat
 |[]=>0
 |d::ds=>max (gA d) (jB ds)
end
theorem rJ(ds:List D):gA (.tup ds)=jB ds+1:=by rw[gA]
theorem rH:∀{ds:List D},d∈ds->gA d≤jB ds
 |[],h=>nomatch h
 |e::ds,h=>by
  rw[jB];rcases Ψ.mp h with rfl|h
  ·exact Nat.le_max_left _ _
  ·exact aH (rH h) (Nat.le_max_right _ _)
theorem Hq:∀{ds:List D},(∀d∈ds,gA d≤n)->jB ds≤n
 |[],_=>by rw[jB];exact ar _
 |d::ds,h=>by
  rw[jB];exact Nat.max_le.mpr ⟨h d ι,Hq λe he=>h e (μ _ he)⟩
theorem zo{α β:Type}(f:α->D)(g:β->D):∀(as:List α) (bs:List β),qp (as.map f) (bs.map g)=(as.zip bs).map λp=>D.tup [f p.1,g p.2]
 |[],_=>rfl
 |a::as,[]=>rfl
 |a::as,b::bs=>by
  show D.tup [f a,g b]::qp (as.map f) (bs.map g)=D.tup [f a,g b]::(as.zip bs).map _;rw[zo f g as bs]
theorem NQ{β:Type}(g:β->D)(as:List D)(bs:List β):qp as (bs.map g)=(as.zip bs).map λp=>D.tup [p.1,g p.2]:=by
 have:=zo (λd:D=>d) g as bs;rw[List.map_id'] at this;exact this
theorem NP{β:Type}(g:β->D)(bs:List β):t7 (bs.map g)=((Φ bs.length).zip bs).map λp=>D.tup [nD p.1,g p.2]:=by
 unfold t7;rw[ε,vK];exact zo nD g _ _
def parts(c:ψ)(k:Nat):List ψ:=(Φ k).map λt:Nat=>(c.1*(k:Int),c.2+c.1*(t:Int))
theorem rG(c:ψ)(k:Nat):(parts c k).length=k:=by simp[parts]
def xj:dh:=λds G Q=>∃(c:ψ) (k:Nat),ds=[cD c,.int k]/\k≤10000/\i6 c.1/\∀p G',d8 G p (.lst ((parts c k).map cD)) G'->Q (.obj p) G'
def ZM(nm:aG):au:=bu (fK [nm] [0,1] (p9 (ξ (θ 1) (ab))) (hName 0) (dD) (fN (ξ (aq i8 (aq cB (θ 1) (eC (.int 0))) (θ 2)) (ξ (aq eu (aq cB (θ 1) (eC (.int 1))) (aq i8 (aq cB (θ 1) (eC (.int 0))) (θ 0))) (ab)))))
theorem NO:∀ds G Q,xj ds G Q->ZM nm (aF Q) (aY ["clock","k"] ds) G:=by
 rintro ds G Q ⟨c,k,rfl,hk,hb,q⟩;obtain⟨s,r⟩:=c;have bk:∀t:Nat,t≤10000->i6 (t:Int):=λt ht=>jv (by lia) (by lia);refine⟨⟨by lia,by lia⟩,?_,?_⟩
 ·rw[zX];exact aH (show ((k:Int)).toNat≤10000 by lia) (by decide)
 rw[a9,vK];refine ny (λτ=>∃x,τ=[x,some (cD (s,r)),some (.int k)]) nD (λ_=>true) (λt:Nat=>cD (s*(k:Int),r+s*(t:Int))) (G:=G) trivial (Φ k) [] _ ⟨none,rfl⟩ ?_ ?_
 ·rintro t hm τ K1 K2 ⟨x,rfl⟩ h1 h2;have ht:t<k:=by simpa using hm
  exact⟨λ_=>⟨_,rfl,⟨hb,bk k hk⟩,_,rfl,_,rfl,⟨hb,bk t (by lia)⟩,h1 rfl _ ⟨_,rfl⟩⟩,nofun⟩
 ·intro p G' n;rw[filter_all,br] at n;refine bZ (q p G' ?_);unfold parts;rwa [aJ]
def NN:au:=bu (fK ["turn"] [0,1] (p9 (ξ (θ 1) (ab))) (hName 0) (dD) (fN (ξ (aq i8 (aq cB (θ 1) (eC (.int 0))) (θ 2)) (ξ (aq eu (aq cB (θ 1) (eC (.int 1))) (aq i8 (aq cB (θ 1) (eC (.int 0))) (θ 0))) (ab)))))
theorem NM:∀ds G Q,xj ds G Q->NN (aF Q) (aY ["clock","k"] ds) G:=NO
def gU:D->D->Bool
 |.int k,.tup ps=>decide (2≤k)&&(((ps.length:Nat):Int)==k)
 |_,_=>false
def Ho:dh:=λds G Q=>∃a b:D,ds=[a,b]/\Known G a/\yl G b/\Q (.bl (gU a b)) G
def NL:au:=bu (ni (aN BZ (ξ (θ 0) (ab))) (ni (aq Bg (θ 0) (eC (.int 2))) (ni (vq "tuple" (θ 1)) (aq (dS false) (du k8 (ξ (θ 1) (ab))) (θ 0)))))
theorem NK(k:Int)(b:D)(h:∀ds,b≠.tup ds):gU (.int k) b=false:=by
 cases b with
 |tup ds=>exact absurd rfl (h ds)
 |_=>rfl
theorem NJ:∀ds G Q,Ho ds G Q->NL (aF Q) (aY ["k","papers"] ds) G:=by
 rintro ds G Q ⟨a,b,rfl,ka,kb,q⟩;refine⟨ka,?_⟩;cases a with
 |int k=>
  refine⟨λ_=>⟨λh=>?_,λh=>?_⟩,nofun⟩
  ·have h':=of_decide_eq_true h;cases b with
   |tup ps=>
    refine⟨λ_=>⟨_,_,rfl,rfl,ar _,?_⟩,nofun⟩;have e:gU (.int k) (.tup ps)=(((ps.length:Nat):Int)==k):=by
     show (decide (2≤k)&&_)=_;rw[decide_eq_true h',lH]
    rw[e] at q;exact bZ q
   |obj a=>
    show match lF "tuple" G (.obj a) with
     |some b=>_
     |none=>False
    rw[Hr kb (λds h=>by cases h)];rw[NK k _ (λds h=>by cases h)] at q;exact⟨nofun,λ_=>bZ q⟩
   |_=>exact⟨nofun,λ_=>bZ q⟩
  ·have h':=of_decide_eq_false h;have e:gU (.int k) b=false:=by
    cases b with
    |tup ps=>
     show (decide (2≤k)&&_)=false;rw[decide_eq_false h',ie]
    |_=>rfl
   rw[e] at q;exact bZ q
 |_=>
  exact⟨nofun,λ_=>(bZ q)⟩
mutual
def mP:D->Nat
 |.tup ds=>mn ds+1
 |.aE=>1
 |.bl _=>1
 |.int _=>1
 |.str _=>1
 |.gQ _=>1
 |.dc _=>1
 |.obj _=>1
def mn:List D->Nat
 |[]=>0
 |d::ds=>mP d+mn ds
end
theorem vX(ds:List D):mP (.tup ds)=mn ds+1:=by rw[mP]
theorem sU(d:D)(ds:List D):mn (d::ds)=mP d+mn ds:=by rw[mn]
theorem zm:mn []=0:=by rw[mn]
theorem Hn(d:D):1≤mP d:=by
 cases d with
 |tup ds=>rw[mP];lia
 |_=>rw[mP];exact ρ 1
theorem Hm:∀ds:List D,ds.length≤mn ds
 |[]=>ar _
 |d::ds=>by
  have:=Hm ds;have:=Hn d;rw[sU,ai];lia
theorem Hl:∀{ds:List D},d∈ds->mP d≤mn ds
 |e::ds,h=>by
  rw[sU];rcases Ψ.mp h with rfl|h
  ·lia
  ·have:=Hl h;lia
theorem NI(h:vz a b)(h':vz b a):False:=by
 rcases h with h|⟨h1,h2⟩<;>rcases h' with h' | ⟨h3,h4⟩<;>lia
theorem NH(h:aR.lx (dG b) (dG a)=false)(h':aR.lx (dG a) (dG b)=false):a=b:=
 aB λhne=>NI (BP h hne) (BP h' λz=>hne z.symm)
theorem BL:∀{as bs:List ψ},as.Perm bs->gX (as.map dG)->gX (bs.map dG)->as=bs
 |[],bs,p,_,_=>(List.nil_perm.mp p).symm
 |a::as,[],p,_,_=>absurd p.length_eq (by simp)
 |a::as,b::bs,p,ha,hb=>by
  have ha':=dm.mp ha;have hb':=dm.mp hb;have hab:a=b:=by
   have m1:=p.mem_iff.mp ι;have m2:=p.mem_iff.mpr ι;rcases Ψ.mp m1 with h|h
   ·exact h
   ·rcases Ψ.mp m2 with h2|h2
    ·exact h2.symm
    ·exact NH (ha'.1 _ (υ.mpr ⟨b,h2,rfl⟩)) (hb'.1 _ (υ.mpr ⟨a,h,rfl⟩))
  subst hab;rw[BL (List.Perm.cons_inv p) ha'.2 hb'.2]
theorem Hk:∀{a:Nat},a∣d->(∀c∈cs,c.1.toNat∣d)->o8 cs a∣d:=by
 induction cs with
 |nil=>exactλh _=>h
 |cons c cs ih=>
  intro a h hc;exact ih (a:=c8 a c.1.toNat) (qE h (hc c ι)) λc' h'=>hc c' (μ _ h')
theorem NG:∀{a:Nat},a∣o8 cs a:=by
 induction cs with
 |nil=>exact Nat.dvd_refl _
 |cons c cs ih=>intro a;exact Nat.dvd_trans (Nat.dvd_lcm_left a c.1.toNat) (ih (a:=c8 a c.1.toNat))
theorem NF:∀{a:Nat},c∈cs->c.1.toNat∣o8 cs a:=by
 induction cs with
 |nil=>exactλh=>nomatch h
 |cons d cs ih=>
  intro a h;rcases Ψ.mp h with rfl|h
  ·exact Nat.dvd_trans (Nat.dvd_lcm_right a c.1.toNat) (NG (cs:=cs) (a:=c8 a c.1.toNat))
  ·exact ih (a:=c8 a d.1.toNat) h
def fu(a b:ψ):Bool:=a.1%b.1==0&&rg a.2 b
def BK:dh:=λds G Q=>∃a b:ψ,ds=[cD a,cD b]/\0<b.1/\Q (.bl (fu a b)) G
def ND:au:=bu (ni (aq (dS false) (aq gq (aq cB (θ 0) (eC (.int 0))) (aq cB (θ 1) (eC (.int 0)))) (eC (.int 0))) (aN BX (ξ (θ 1) (ξ (aq cB (θ 0) (eC (.int 1))) (ab)))))
theorem NC:∀ds G Q,BK ds G Q->ND (aF Q) (aY ["one","other"] ds) G:=by
 rintro ds G Q ⟨⟨s1,r1⟩,⟨s2,r2⟩,rfl,hb,q⟩;refine⟨_,rfl,_,rfl,hb,_,_,rfl,rfl,ar _,λh=>?_,λh=>?_⟩
 ·have h':(s1%s2==0)=true:=h;have e:fu (s1,r1) (s2,r2)=rg r1 (s2,r2):=by
   show (s1%s2==0&&rg r1 (s2,r2))=_;rw[h',lH]
  rw[e] at q;exact⟨_,rfl,(s2,r2),r1,rfl,hb,bZ q⟩
 ·have h':(s1%s2==0)=false:=h;have e:fu (s1,r1) (s2,r2)=false:=by
   show (s1%s2==0&&rg r1 (s2,r2))=_;rw[h',ie]
  rw[e] at q;exact bZ q
def zl:dh:=λds G Q=>∃a b:Int,ds=[.int a,.int b]/\a≤b/\Q .aE G
def NB:au:=gR (bz (aq Bf (θ 0) (θ 1))) (wY) (dB)
theorem NA:∀ds G Q,zl ds G Q->NB (aF Q) (aY ["many","most"] ds) G:=by
 rintro ds G Q ⟨a,b,rfl,h,q⟩;refine⟨λh'=>?_,λ_=>⟨G,Sub.refl _,q⟩⟩;lia
def nums(c:ψ)(n:Nat):List Nat:=(Φ (lN c.2 n c.1)).map λi=>c.2.toNat+i*c.1.toNat
theorem Hj(h:Valid c)(n:Nat):sN c.2 c.1 (lN c.2 n c.1)=(nums c n).map nD:=by
 unfold sN nums;rw[aJ];refine bB λi _=>?_;congr 1;have:=h.1;have:=h.2.1;rw[fU,cU,bp (by lia),bp (by lia)]
theorem zk(h:Valid c):x∈nums c n↔x<n/\rg x c=true:=by
 obtain⟨h1,h2,h3⟩:=h;unfold nums;rw[υ];obtain⟨s,hs⟩:∃s:Nat,c.1=(s:Int):=⟨c.1.toNat,by lia⟩;obtain⟨r,hr⟩:∃r:Nat,c.2=(r:Int):=⟨c.2.toNat,by lia⟩;have hrg:rg x c=true↔x%s=r:=by
  show ((x:Int)%c.1==c.2)=true↔_;rw[beq_iff_eq,hs,hr];constructor
  ·intro e;exact_mod_cast e
  ·intro e;exact_mod_cast e
 rw[hrg];have s0:0<s:=by lia
 have rs:r<s:=by lia
 have hc:∀i,i<lN c.2 n c.1↔r+i*s<n:=λi=>by
  unfold lN;rw[hs,hr];split
  ·rename_i hlt;rw[show ((n:Int)-(r:Int)-1) / (s:Int)+1=(((n-r-1) / s+1:Nat):Int) by
    rw[fU,eO,show ((n-r-1:Nat):Int)=(n:Int)-(r:Int)-1 by lia];rfl,a9,Nat.lt_succ_iff,Nat.le_div_iff_mul_le s0]
   lia
  ·rename_i hlt;constructor
   ·intro z;exact absurd z (gJ _)
   ·intro z;lia
 rw[hs,hr,a9,a9];constructor
 ·rintro⟨i,hi,rfl⟩;have hi:=az.mp hi;rw[←hs,←hr] at hi;refine⟨(hc i).mp hi,?_⟩;rw[Nat.add_mul_mod_self_right,Nat.mod_eq_of_lt rs]
 ·rintro⟨hx,e⟩;have hd:=Nat.div_add_mod x s;refine⟨x / s,?_,?_⟩
  ·rw[az,←hs,←hr,hc,dE];lia
  ·rw[dE];lia
theorem Gq(h:Valid c)(n:Nat):(nums c n).Nodup:=by
 unfold nums;unfold List.Nodup;rw[aO];refine ue ?_ (jG (n:=lN c.2 n c.1));intro a b hab e;have:=h.1;have h0:0<c.1.toNat:=by lia
 exact hab (Nat.eq_of_mul_eq_mul_right h0 (by lia))
def fG(cs:List ψ)(x:Nat):Nat:=(cs.filter (rg x)).length
def jz(f:Nat->Nat)(n:Nat):List D:=(Φ n).map λx=>nD (f x)
theorem xi(f:Nat->Nat)(n:Nat):(jz f n).length=n:=by simp[jz]
theorem Gn(h:x<n):oj (jz f n) (x:Int)=some (nD (f x)):=uM (by
 unfold jz;rw[ax,jU h];rfl)
theorem Nz(h:x<n):(jz f n).set x (nD v)=jz (λy=>if y=x then v else f y) n:=by
 unfold jz;apply k6;intro i;rw[List.getElem?_set];by_cases hi:i<n
 ·by_cases hx:x=i
  ·subst hx;simp[h]
  ·have:¬i=x:=λz=>hx z.symm;simp[hi,hx,this]
 ·have:¬x=i:=λz=>hi (by lia);simp[hi,this]
theorem Gm(h:∀x,x<n->f x=g x):jz f n=jz g n:=by
 refine bB λx hx=>?_;rw[h x (az.mp hx)]
theorem Ny(h:x<n):sZ n (x:Int)=some x:=by
 unfold sZ;simp[h]
def BJ:dh:=λds G Q=>∃(cs:List ψ) (n:Nat),ds=[a6 cs,.int n]/\kY 1000 cs/\cs.length≤1000/\n≤10000/\∀p G',d8 G p (.lst (jz (fG cs) n)) G'->Q (.obj p) G'
def Nx:au:=C8 (θ 2) (θ 5) (eC (.int 1)) (· + ·)
def Nw:au:=jd (Ai (ξ (θ 4) (ξ (θ 1) (ξ (θ 3) (ab))))) (hName 5) (Nx)
def Nv:au:=bu (θ 2)
def Nu:au:=aS (jd (gx (θ 0)) (pk 2 (gr (hName 3) (gr (hName 4) (px)))) (Nw)) Nv
def Nt:au:=aS (bK (aq i8 (kW (ξ (eC (.int 0)) (ab))) (θ 1)) (hName 2)) Nu
def Nr:au:=aS (pY (aN zl (ξ (θ 1) (ξ (eC (.int 10000)) (ab))))) Nt
theorem zeros(n:Nat):(bF n [D.int 0]).flatten=jz (λ_=>0) n:=by
 unfold jz
 induction n with
 |zero=>rfl
 |succ n ih=>
  rw[List.replicate_succ',List.flatten_append,ih,List.range_succ,aP];rfl
theorem Gk(c:ψ)(cs:List ψ)(x:Nat):fG (c::cs) x=(if rg x c=true then 1 else 0)+fG cs x:=by
 unfold fG;rw[List.filter_cons];split
 ·rw[ai];lia
 ·lia
theorem N3:∀ds G Q,BJ ds G Q->Nr (aF Q) (aY ["clocks","many","counts","step","rest","number"] ds) G:=by
 rintro ds G Q ⟨cs,n,rfl,ok,hl,hn,q⟩;refine⟨n,10000,rfl,by lia,?_⟩;intro p0 G0 n0;refine⟨_,n0.at_,⟨by lia,by lia⟩,?_,λp G1 n1=>?_⟩
 ·rw[a9];exact aH (show 1*n≤10000 by lia) (by decide)
 rw[a9,zeros] at n1;have m1:d8 G p (.lst (jz (λ_=>0) n)) G1:=⟨n0.sub.of_none n1.aE,n0.sub.trans n1.sub,n1.at_⟩;refine mq (λds τ G'=>∃(zs:List ψ) (f:Nat->Nat) (x3 x4 x5:Option D),ds=zs.map cD/\τ=[some (a6 cs),some (.int n),some (.obj p),x3,x4,x5]/\d8 G p (.lst (jz f n)) G'/\(∀z∈zs,z∈cs)/\∀x,f x+fG zs x=fG cs x) (λ_ _ _ _=>trivial) ?_ ?_ _ _ _ ⟨cs,λ_=>0,none,none,none,rfl,rfl,m1,λ_ h=>h,λx=>pK _⟩
 ·rintro d ds τ G' N ⟨zs,f,x3,x4,x5,e,rfl,m2,hm,hf⟩ hN;cases zs with
  |nil=>cases e
  |cons c zs=>
   cases e;obtain⟨hv,h1000⟩:=ok c (hm c ι);have v1:=hv.1;have v2:=hv.2.1;have v3:=hv.2.2;refine⟨rfl,⟨by lia,by lia,by lia,by lia,v1,by lia⟩,?_⟩;rw[Hj hv];refine mq (λds τ G'=>∃(ms:List Nat) (g:Nat->Nat) (x5:Option D),ds=ms.map nD/\τ=[some (a6 cs),some (.int n),some (.obj p),some (.int c.1),some (.int c.2),x5]/\d8 G p (.lst (jz g n)) G'/\ms.Nodup/\(∀x∈ms,x<n/\rg x c=true)/\∀x,x<n->g x=f x+(if rg x c=true/\x∉ms then 1 else 0)) (λ_ _ _ _=>trivial) ?_ ?_ _ _ _ ⟨nums c n,f,x5,rfl,rfl,m2,Gq hv n,λx hx=>(zk hv).mp hx,λx hx=>?_⟩
   ·rintro d ds τ G2 N2 ⟨ms,g,x5,e,rfl,m3,nd,hr,hg⟩ hN2;cases ms with
    |nil=>cases e
    |cons x ms=>
     cases e;have nd':=cc.mp nd;obtain⟨hx,hrx⟩:=hr x ι;refine⟨_,_,m3.at_,Gn hx,⟨_,x,m3.at_,?_,?_⟩⟩
     ·rw[xi];exact Ny hx
     ·refine hN2 _ _ ⟨ms,λy=>if y=x then g x+1 else g y,_,rfl,rfl,⟨m3.aE,Sub.wQ m3.sub m3.aE,?_⟩,nd'.2,λy hy=>hr y (μ _ hy),λy hy=>?_⟩
      ·rw[oh,←Nz hx];rfl
      ·have:=hg y hy;by_cases hyx:y=x
       ·subst hyx;rw[if_neg (λz=>z.2 ι)] at this;rw[if_pos (⟨hrx,nd'.1⟩:rg y c=true/\y∉ms)];show (if y=y then g y+1 else g y)=f y+1;rw[if_pos rfl,this]
       ·show (if y=x then g x+1 else g y)=_;rw[if_neg hyx,this];have:y∉x::ms↔y∉ms:=by simp[hyx]
        simp only[this]
   ·rintro τ G2 ⟨ms,g,x5,e,rfl,m3,nd,hr,hg⟩;have e0:ms=[]:=by cases ms with
     |nil=>rfl
     |cons z zs=>cases e
    subst e0;refine hN _ _ ⟨zs,λx=>f x+(if rg x c=true then 1 else 0),_,_,_,rfl,rfl,?_,λz hz=>hm z (μ _ hz),λx=>?_⟩
    ·rw[Gm (g:=g) λx hx=>?_]
     ·exact m3
     ·rw[hg x hx];simp
    ·have:=hf x;rw[Gk] at this;lia
   ·rw[if_neg]
    ·rfl
    ·rintro⟨z1,z2⟩;exact z2 ((zk hv).mpr ⟨hx,z1⟩)
 ·rintro τ G' ⟨zs,f,x3,x4,x5,e,rfl,m2,hm,hf⟩;have e0:zs=[]:=by cases zs with
   |nil=>rfl
   |cons z zs=>cases e
  refine bZ (q p G' ?_);rwa [Gm (g:=f) λx _=>by have:=hf x;have e:fG [] x=0:=rfl;lia]
def oN:Option Nat->D
 |none=>.aE
 |some x=>nD x
def Gj:dh:=λds G Q=>∃(c:ψ) (p:ν) (f:Nat->Nat) (n m:Nat),ds=[cD c,.obj p,.int m]/\G p=some (.lst (jz f n))/\Valid c/\c.1≤1000000/\n≤10000/\Q (oN ((nums c n).find? λx=>f x==m)) G
def N1:au:=gR (bz (aq (dS false) (aq cB (θ 1) (θ 3)) (θ 2))) (bu (θ 3)) (dB)
def N0:au:=bu (eC .aE)
def NZ:au:=aS (jd (Ai (ξ (aq cB (θ 0) (eC (.int 1))) (ξ (du k8 (ξ (θ 1) (ab))) (ξ (aq cB (θ 0) (eC (.int 0))) (ab))))) (hName 3) (N1)) N0
theorem NY:∀ds G Q,Gj ds G Q->NZ (aF Q) (aY ["clock","counts","many","number"] ds) G:=by
 rintro ds G Q ⟨c,p,f,n,m,rfl,hp,hv,hb,hn,q⟩;have v1:=hv.1;have v2:=hv.2.1;have v3:=hv.2.2;refine⟨_,rfl,_,hp,_,rfl,⟨by lia,by lia,by rw[xi];lia,by rw[xi];lia,v1,by lia⟩,?_⟩;rw[xi,Hj hv];refine mq (λds τ G'=>G'=G/\∃(ms:List Nat) (x3:Option D),ds=ms.map nD/\τ=[some (cD c),some (.obj p),some (.int m),x3]/\(∀x∈ms,x<n)/\ms.find? (λx=>f x==m)=(nums c n).find? λx=>f x==m) (λ_ _ _ _=>trivial) ?_ ?_ _ _ _ ⟨rfl,nums c n,none,rfl,rfl,λx hx=>((zk hv).mp hx).1,rfl⟩
 ·rintro d ds τ G' N ⟨eg,ms,x3,e,rfl,hm,hf⟩ hN;cases ms with
  |nil=>cases e
  |cons x ms=>
   cases e;rw[fq] at hf;refine⟨_,_,by rw[eg];exact hp,Gn (hm x ι),_,_,rfl,rfl,ar _,λh=>?_,λh=>?_⟩
   ·have h':(((f x:Nat):Int)==(m:Int))=true:=h;have e2:f x=m:=by
     rw[beq_iff_eq] at h';exact_mod_cast h'
    rw[show (f x==m)=true by rw[e2,beq_self_eq_true]] at hf;rw[←hf] at q;rw[eg];exact bZ q
   ·have h':(((f x:Nat):Int)==(m:Int))=false:=h;have e2:(f x==m)=false:=by
     cases e3:f x==m with
     |false=>rfl
     |true=>
      rw[beq_iff_eq] at e3;rw[e3,beq_self_eq_true] at h';cases h'
    rw[e2] at hf;exact hN _ _ ⟨eg,ms,_,rfl,rfl,λy hy=>hm y (μ _ hy),hf⟩
 ·rintro τ G' ⟨eg,ms,x3,e,rfl,hm,hf⟩;cases ms with
  |cons x ms=>cases e
  |nil=>
   rw[←hf] at q;rw[eg];exact bZ q
def JV(cs:List ψ)(c:ψ):Option Nat:=(nums c (cK (cs++[c]))).find? λx=>fG cs x==0
def lh(cs:List ψ):Option Nat:=(Φ (cK cs)).find? λx=>fG cs x==0
theorem Gi(cs:List ψ):cK (cs++[(1,0)])=cK cs:=by
 unfold cK o8;rw[List.foldl_append];show c8 _ 1=_;rw[Nat.lcm_one_right]
theorem NX(n:Nat):nums (1,0) n=Φ n:=by
 have e:lN 0 (n:Int) 1=n:=by
  unfold lN;split
  ·rw[Int.ediv_one];lia
  ·lia
 unfold nums;rw[e];refine (bB λi _=>?_).trans (qI _);show 0+i*1=i;lia
theorem NW(cs:List ψ):JV cs (1,0)=lh cs:=by
 unfold JV lh;rw[Gi,NX]
theorem NV(ok:kY 1000 cs):kY 1000 (cs++[(1,0)]):=λz hz=>by
 rcases aa.mp hz with h|h
 ·exact ok z h
 ·have:z=(1,0):=by simpa using h
  subst this;exact⟨⟨by decide,by decide,by decide⟩,by decide⟩
def ZK(cs:List ψ):Prop:=kY 1000 cs/\cs.length≤12/\cK cs≤10000
def Kz(cs:List ψ):List Nat:=(Φ (cK cs)).filter λx=>fG cs x==0
def NU:dh:=λds G Q=>∃cs:List ψ,ds=[a6 cs]/\ZK cs/\∀p G',d8 G p (.lst ((Kz cs).map nD)) G'->Q (.obj p) G'
def NT:au:=bu (fK ["number","many"] [] (Aj (ξ (θ 1) (ab))) (pk 2 (gr (hName 0) (gr (hName 1) (px)))) (bz (aq (dS false) (θ 1) (eC (.int 0)))) (θ 0))
def Nf:au:=aS (bK (aN BJ (ξ (θ 0) (ξ (aN xm (ξ (θ 0) (ab))) (ab)))) (hName 1)) NT
theorem Gh(f:Nat->Nat)(n:Nat):t7 (jz f n)=(Φ n).map λx=>D.tup [nD x,nD (f x)]:=by
 unfold t7;rw[xi,vK];unfold jz;have:=zo nD (λx=>nD (f x)) (Φ n) (Φ n);rw[this];have h:∀xs:List Nat,(xs.zip xs).map (λp=>D.tup [nD p.1,nD (f p.2)])=xs.map λx=>D.tup [nD x,nD (f x)]:=λxs=>by
  induction xs with
  |nil=>rfl
  |cons x xs ih=>
   rw[iM,ay,ih];rfl
 exact h _
theorem zj(a b:Nat):((a:Int)==(b:Int))=(a==b):=by
 rw[cV,beq_iff_eq,beq_iff_eq];exact⟨λh=>by exact_mod_cast h,λh=>by rw[h]⟩
theorem aaq:∀ds G Q,NU ds G Q->Nf (aF Q) (aY ["clocks","counts"] ds) G:=by
 rintro ds G Q ⟨cs,rfl,⟨ok,hl,hn⟩,q⟩;refine⟨cs,rfl,ok,by lia,cs,cK cs,rfl,ok,by lia,hn,λp G1 n1=>⟨_,n1.at_,?_,?_⟩⟩
 ·rw[Gh,ε,bo];exact aH hn (by decide)
 rw[Gh];refine ny (guard:=λG=>G p=some (.lst (jz (fG cs) (cK cs)))) (λτ=>∃x y,τ=[x,y]) (λx=>D.tup [nD x,nD (fG cs x)]) (λx=>fG cs x==0) nD (G:=G1) n1.at_ (Φ (cK cs)) [] _ ⟨none,none,rfl⟩ ?_ ?_
 ·rintro x hm τ K1 K2 ⟨y,z,rfl⟩ h1 h2;refine⟨rfl,_,_,rfl,rfl,ar _,λh=>?_,λh=>?_⟩
  ·have h':(((fG cs x:Nat):Int)==((0:Nat):Int))=true:=h;rw[zj] at h';exact h1 h' _ ⟨_,_,rfl⟩
  ·have h':(((fG cs x:Nat):Int)==((0:Nat):Int))=false:=h;rw[zj] at h';exact h2 h' _ ⟨_,_,rfl⟩
 ·intro p2 G2 n2;rw[br] at n2;exact bZ (q p2 G2 ⟨n1.sub.of_none n2.aE,n1.sub.trans n2.sub,n2.at_⟩)
def A0(cs:List ψ):Bool:=(decide (sJ cs=1)&&decide (sL cs=1))&&(ll cs).isNone
def Gg:dh:=λds G Q=>∃cs:List ψ,ds=[a6 cs]/\kY 1000 cs/\cs.length≤12/\Q (.bl (A0 cs)) G
def Nd:au:=bu (ni (aq (dS false) (aN BM (ξ (θ 0) (ab))) (fN (ξ (eC (.int 1)) (ξ (eC (.int 1)) (ab))))) (aq (qt false) (aN Hs (ξ (θ 0) (ab))) (eC .aE)))
theorem Nc:∀ds G Q,Gg ds G Q->Nd (aF Q) (aY ["clocks"] ds) G:=by
 rintro ds G Q ⟨cs,rfl,ok,hl,q⟩;have e1:(Dat.D.tup [.int (sJ cs:Nat),.int (sL cs:Nat)]).dF (.tup [.int 1,.int 1])=(decide (sJ cs=1)&&decide (sL cs=1)):=by
  show ((((sJ cs:Nat):Int)==((1:Nat):Int))&&((((sL cs:Nat):Int)==((1:Nat):Int))&&true))=_;rw[zj,zj,nZ];rfl
 refine⟨cs,rfl,ok,hl,_,_,rfl,rfl,rj rfl,λh=>?_,λh=>?_⟩
 ·have h':(Dat.D.tup [.int (sJ cs:Nat),.int (sL cs:Nat)]).dF (.tup [.int 1,.int 1])=true:=h;rw[e1] at h';refine⟨cs,rfl,ok,by lia,?_⟩;have:ve (kD (ll cs))=(ll cs).isNone:=by cases ll cs<;>rfl
  show (aF Q).rt (.bl (ve (kD (ll cs)))) G;unfold A0 at q;rw[h',lH] at q;rw[this];exact bZ q
 ·have h':(Dat.D.tup [.int (sJ cs:Nat),.int (sL cs:Nat)]).dF (.tup [.int 1,.int 1])=false:=h;rw[e1] at h';unfold A0 at q;rw[h',ie] at q;exact bZ q
def u9(n:Nat):D->Bool
 |.int i=>decide (0≤i)&&decide (i<n)
 |_=>false
def Gf:dh:=λds G Q=>∃(cs:List ψ) (d:D),ds=[a6 cs,d]/\Known G d/\Q (.bl (u9 cs.length d)) G
def Nb:au:=bu (ni (aN BZ (ξ (θ 1) (ab))) (vt Bd wL (eC (.int 0)) (θ 1) (du k8 (ξ (θ 0) (ab)))))
theorem Na:∀ds G Q,Gf ds G Q->Nb (aF Q) (aY ["things","thing"] ds) G:=by
 rintro ds G Q ⟨cs,d,rfl,hk,q⟩;refine⟨hk,?_⟩;cases d with
 |int i=>
  refine⟨λ_=>⟨λh=>?_,λh=>?_⟩,nofun⟩
  ·have h':=h;have e:u9 cs.length (.int i)=decide (i<(cs.length:Nat)):=by
    show (decide (0≤i)&&decide (i<(cs.length:Nat)))=_;rw[h',lH]
   rw[e] at q;show (aF Q).rt (.bl (decide (i<((cs.map cD).length:Nat)))) G;rw[ε];exact bZ q
  ·have h':=h;have e:u9 cs.length (.int i)=false:=by
    show (decide (0≤i)&&decide (i<(cs.length:Nat)))=_;rw[h',ie]
   rw[e] at q;exact bZ q
 |_=>exact⟨nofun,λ_=>bZ q⟩
theorem BI(h:z∈cs):z.1.toNat∣cK cs:=NF h
theorem BH(h:∀z∈cs,0<z.1):0<cK cs:=by
 have:∀(cs:List ψ) (a:Nat),(∀z∈cs,0<z.1)->0<a->0<o8 cs a:=by
  intro cs
  induction cs with
  |nil=>intro a _ h;exact h
  |cons z zs ih=>
   intro a hz ha;refine ih _ (λy hy=>hz y (μ _ hy)) (uA ha ?_);have:=hz z ι;lia
 exact this cs 1 h (by decide)
theorem aap(h:Valid c)(hp:p∈parts c k):Valid p/\p.1=c.1*(k:Int):=by
 obtain⟨t,ht,rfl⟩:=υ.mp hp;have ht:=az.mp ht;exact⟨OU h (by lia) (by lia),rfl⟩
def gp(cs:List ψ)(i:Nat):List ψ:=cs.take i++cs.drop (i+1)
def Gc:dh:=λds G Q=>∃(cs:List ψ),ds=[a6 cs]/\cs.length≤60/\∀cs' G',Sub G G'->(∀z,z∈cs'↔z∈cs)->mB cs'->cs'.length≤cs.length->Q (a6 cs') G'
def M9:au:=bu (du qR (ξ (tm (θ 0)) (ab)))
theorem M8:∀ds G Q,Gc ds G Q->M9 (aF Q) (aY ["things"] ds) G:=by
 rintro ds G Q ⟨cs,rfl,hl,q⟩;refine⟨cs.map dG,?_,?_,BO,λp3 mss G3 n3 hmem nd hr hl3=>?_⟩
 ·rw[vZ]
 ·rw[ε];lia
 obtain⟨cs',rfl,hmem2,hr2,hl2⟩:=OS hmem nd hr hl3;rw[vZ] at n3;exact⟨_,n3.at_,bZ (q cs' G3 n3.sub hmem2 hr2 hl2)⟩
def F9:dh:=λds G Q=>∃(cs:List ψ) (i:Nat),ds=[a6 cs,.int i]/\i<cs.length/\Q .aE G
def M7:au:=gR (wg (bz (aN Gf (ξ (θ 0) (ξ (θ 1) (ab)))))) (wY) (dB)
theorem M6(h:i<n):u9 n (.int i)=true:=by
 show (decide ((0:Int)≤(i:Int))&&decide ((i:Int)<(n:Nat)))=true;rw[decide_eq_true (by lia),decide_eq_true (by lia)];rfl
theorem M5:∀ds G Q,F9 ds G Q->M7 (aF Q) (aY ["things","thing"] ds) G:=by
 rintro ds G Q ⟨cs,i,rfl,hi,q⟩;refine⟨cs,.int i,rfl,trivial,λh=>?_,λh=>⟨G,Sub.refl _,q⟩⟩;rw[M6 hi] at h;cases h
def F8:dh:=λds G Q=>∃(cs:List ψ) (i k:Nat) (c:ψ),ds=[a6 cs,.int i,.int k]/\cs[i]?=some c/\kY 1000 cs/\cs.length+k≤13/\c.1*(k:Int)≤1000/\2≤k ∧
 ∀cs' G',Sub G G'->(∀z,z∈cs'↔z∈gp cs i∨z∈parts c k)->mB cs'->cs'.length≤12->Q (a6 cs') G'
def M4:au:=bu (aN Gc (ξ (aq eu (θ 4) (du qR (ξ (aN xj (ξ (θ 3) (ξ (θ 2) (ab)))) (ab)))) (ab)))
def M3:au:=aS (pY (aN zl (ξ (θ 5) (ξ (eC (.int 1000)) (ab))))) M4
def M1:au:=aS (pY (aN zl (ξ (aq rE (aq eu (du k8 (ξ (θ 4) (ab))) (θ 2)) (du k8 (ξ (θ 6) (ab)))) (ξ (eC (.int 12)) (ab))))) M3
def M0:au:=aS (bK (fK ["other"] [5,3] (gx (θ 4)) (hName 0) (tp (bz (aq (dS false) (aq cB (θ 0) (eC (.int 0))) (θ 1))) (bz (aN BK (ξ (θ 0) (ξ (θ 2) (ab)))))) (θ 0)) (hName 6)) M1
def F7:au:=aS (bK (aq i8 (aq cB (θ 3) (eC (.int 0))) (θ 2)) (hName 5)) M0
def MZ:au:=aS (bK (aq eu (vn (θ 0) (oE) (nc (θ 1))) (vn (θ 0) (nc (aq eu (θ 1) (eC (.int 1)))) (oE))) (hName 4)) F7
def MY:au:=aS (bK (aq cB (θ 0) (θ 1)) (hName 3)) MZ
def MX:au:=aS (pY (aN F9 (ξ (θ 0) (ξ (θ 1) (ab))))) MY
theorem MW:∀ds G Q,F8 ds G Q->MX (aF Q) (aY ["clocks","place","k","clock","others","step","twice"] ds) G:=by
 rintro ds G Q ⟨cs,i,k,c,rfl,hi,ok,hl,hk,k2,q⟩;have hm:=av hi;have hil:=(Γ.mp hi).1;have hv:=(ok c hm).1;have v1:=hv.1;have h1000:=(ok c hm).2;have e1:iy (cs.map cD) none (some (i:Int))=(cs.take i).map cD:=by rw[xo,GK]
 have e2:iy (cs.map cD) (some ((i:Int)+1)) none=(cs.drop (i+1)).map cD:=by
  rw[xo,show ((i:Int)+1)=((i+1:Nat):Int) by lia,BS]
 have hlr:(gp cs i).length=cs.length-1:=by
  unfold gp;rw[π,aZ,aX];lia
 refine⟨cs,i,rfl,hil,cD c,uM (by rw[ax,hi];rfl),?_⟩;show ((iy (cs.map cD) none (some (i:Int))).length+(iy (cs.map cD) (some ((i:Int)+1)) none).length≤aA)/\_;rw[e1,e2,←π,←aP];show ((gp cs i).map cD).length≤aA/\F7 (aF Q) [some (a6 cs),some (.int i),some (.int k),some (cD c),some (.tup ((gp cs i).map cD)),none,none] G;refine⟨by rw[ε];exact cH (by lia),_,rfl,⟨jv (by lia) (by lia),jv (by lia) (by lia)⟩,?_,?_⟩
 ·rw[ε];exact cH (by lia)
 refine ny (λτ=>∃x,τ=[x,some (.int (c.1*(k:Int))),some (cD c)]) cD (λz=>z.1==c.1*(k:Int)&&fu z c) cD (G:=G) trivial (gp cs i) [] _ ⟨none,rfl⟩ ?_ ?_
 ·rintro z hz τ K1 K2 ⟨x,rfl⟩ h1 h2;refine⟨_,rfl,_,_,rfl,rfl,ar _,λh3=>⟨z,c,rfl,v1,λh4=>h1 ?_ _ ⟨_,rfl⟩,λh4=>h2 ?_ _ ⟨_,rfl⟩⟩,λh3=>⟨nofun,λ_=>h2 ?_ _ ⟨_,rfl⟩⟩⟩
  ·have h3':(z.1==c.1*(k:Int))=true:=h3;rw[h3',h4];rfl
  ·rw[h4,rA]
  ·have h3':(z.1==c.1*(k:Int))=false:=h3;rw[h3',ie]
 intro p1 G1 n1;rw[br] at n1;refine⟨_,n1.at_,_,_,rfl,?_,_,_,rfl,hk,?_⟩
 ·rw[ε];lia
 refine⟨c,k,rfl,by lia,jv (by lia) (by lia),λp2 G2 n2=>⟨_,n2.at_,?_⟩⟩;have hpl2:=rG c k;refine⟨?_,gp cs i++parts c k,?_,?_,λcs' G3 s3 hmem hr hl3=>?_⟩
 ·rw[ε,ε];exact cH (by lia)
 ·rw[←aP];rfl
 ·rw[π];lia
 rw[π] at hl3;refine bZ (q cs' G3 ((n1.sub.trans n2.sub).trans s3) (λz=>?_) hr (by lia));rw[hmem,aa]
theorem MV(h:Valid c)(hd:c.1.toNat∣N)(h0:0<N):(nums c N).length=N / c.1.toNat:=by
 obtain⟨h1,h2,h3⟩:=h;obtain⟨s,hs⟩:∃s:Nat,c.1=(s:Int):=⟨c.1.toNat,by lia⟩;obtain⟨r,hr⟩:∃r:Nat,c.2=(r:Int):=⟨c.2.toNat,by lia⟩;unfold nums;rw[ε,bo];rw[hs,a9] at hd ⊢;have s0:0<s:=by lia
 have hle:=fE h0 hd;unfold lN;rw[hr,if_pos (by lia)];obtain⟨q,rfl⟩:=hd;rw[kU q s0];have e:(((s*q:Nat):Int)-(r:Int)-1) / (s:Int)=(q:Int)-1:=by
  have:((s*q:Nat):Int)-(r:Int)-1=((s:Int)-r-1)+(s:Int)*((q:Int)-1):=by
   rw[cU,gv,jR];lia
  rw[this,Int.add_mul_ediv_left _ _ (by lia),Int.ediv_eq_zero_of_lt (by lia) (by lia)];lia
 rw[e];lia
theorem MU(h:Valid c)(hd:c.1.toNat∣N)(h0:0<N):((Φ N).filter λx:Nat=>rg x c).length=N / c.1.toNat:=by
 rw[←MV h hd h0];refine List.Perm.length_eq ((dZ (jG.filter _) (Gq h N)).mpr λx=>?_);rw[zk h,aI,az]
theorem F6:∀xs:List Nat,(xs.map λx=>if p x=true then 1 else 0).sum=(xs.filter p).length
 |[]=>rfl
 |x::xs=>by
  rw[ay,bQ,F6 xs,List.filter_cons];split
  ·rw[ai];lia
  ·lia
theorem F5{g:Nat->Nat}:∀xs:List Nat,(xs.map λx=>f x+g x).sum=(xs.map f).sum+(xs.map g).sum
 |[]=>rfl
 |x::xs=>by
  rw[ay,bQ,F5 xs,ay,bQ,ay,bQ];lia
theorem vW(h0:0<N):∀{cs:List ψ},(∀c∈cs,Valid c/\c.1.toNat∣N)->((Φ N).map (fG cs)).sum=fM cs N
 |[],_=>by
  have:∀xs:List Nat,(xs.map (fG [])).sum=0:=λxs=>by
   induction xs with
   |nil=>rfl
   |cons x xs ih=>rw[ay,bQ,ih];rfl
  rw[this];rfl
 |c::cs,h=>by
  have hc:=h c ι;have e:(Φ N).map (fG (c::cs))=(Φ N).map λx:Nat=>(if rg x c=true then 1 else 0)+fG cs x:=bB λx _=>Gk c cs x;rw[e,F5,F6 (p:=λx:Nat=>rg x c),MU hc.1 hc.2 h0,vW h0 λd hd=>h d (μ _ hd)];unfold fM;rw[ay,bQ]
theorem F4(cs:List ψ):(Dat.D.tup (cs.map cX)).dF (.tup (cs.map cX))=true:=by
 show Dat.jA (cs.map cX) (cs.map cX)=true;rw[BU];simp
theorem MR{α:Type}(xs:List α):xs.filter (λ_=>true)=xs:=iw.mpr λ_ _=>rfl
theorem F3(h:vz a b)(h2:vz b a):False:=by
 rcases h with h|⟨h,h'⟩<;>rcases h2 with g|⟨g,g'⟩<;>lia
def wV(C c:ψ):ψ:=(C.1*c.1,C.2+C.1*c.2)
theorem MQ(hC:0<C.1)(n:Int):ck (C.2+C.1*n) (wV C c)=ck n c:=by
 rw[cV,bO,bO];show C.1*c.1∣C.2+C.1*n-(C.2+C.1*c.2)↔_;rw[show C.2+C.1*n-(C.2+C.1*c.2)=C.1*(n-c.2) by rw[gv];lia];exact Int.mul_dvd_mul_iff_left (by lia)
theorem F2(h:mB cs):cs.Nodup:=h.imp λ{a b} q e=>by
 subst e;exact F3 q q
theorem F1{N:Nat}(hd:c.1.toNat∣N)(hc:0<c.1)(n t:Int):ck (n+(N:Int)*t) c=ck n c:=by
 have d:c.1∣(N:Int)*t:=by
  have:=a8.mpr hd;rw[bp (by lia)] at this;exact d0 this (bx _ _)
 rw[cV,bO,bO,show n+(N:Int)*t-c.2=(n-c.2)+(N:Int)*t by lia];exact⟨λh=>by
  have:=fC h d;rwa [Int.add_sub_cancel] at this,λh=>lC h d⟩
def iS(cs:List ψ):Prop:=∀n:Int,(cs.filter (ck n)).length=1
theorem qu:ck c.2 c=true:=by
 rw[bO,Int.sub_self];exact Int.dvd_zero _
theorem iS.nodup(h:iS cs):cs.Nodup:=by
 rw[rY];intro c;have h1:=h c.2;have:cs.count c≤(cs.filter (ck c.2)).length:=by
  rw[←m8];refine List.countP_mono_left λx _ hx=>?_;rw[eq_of_beq hx];exact qu
 lia
theorem MP{c:ψ}{os:List ψ}(hc:0<c.1)(h:iS os)(n:Int):((os.map (wV c)).filter (ck n)).length=if ck n c=true then 1 else 0:=by
 by_cases q:ck n c=true
 ·rw[if_pos q];obtain⟨m,hm⟩:=bO.mp q;rw[mM,ε,←h m];refine congrArg bM (fi λy _=>?_);show ck n (wV c y)=ck m y;rw[show n=c.2+c.1*m by lia];exact MQ hc m
 ·rw[if_neg q,fb,d7];intro z hz e;obtain⟨y,_,rfl⟩:=υ.mp hz;refine q (bO.mpr ?_);have d:=bO.mp e;have d1:c.1∣n-(c.2+c.1*y.2):=d0 (bx c.1 y.1) d;have:=lC d1 (bx c.1 y.2);rwa [show n-(c.2+c.1*y.2)+c.1*y.2=n-c.2 by lia] at this
theorem zi{c:ψ}(hi:cs[i]?=some c):cs=cs.take i++c::cs.drop (i+1):=by
 obtain⟨hl,e⟩:=Γ.mp hi;rw[←e,fA,a0]
theorem MO{os:List ψ}(hc:0<c.1)(hi:cs[i]?=some c)(ho:iS os)(n:Int):((gp cs i++os.map (wV c)).filter (ck n)).length=(cs.filter (ck n)).length:=by
 have e:(cs.filter (ck n)).length=((cs.take i).filter (ck n)).length+((if ck n c=true then 1 else 0)+((cs.drop (i+1)).filter (ck n)).length):=by
  conv=>lhs;rw[zi hi]
  rw[kF,π];by_cases q:ck n c=true
  ·rw[fc q,ai,if_pos q];lia
  ·rw[gd q,if_neg q];lia
 rw[e,kF,π,MP hc ho];unfold gp;rw[kF,π];lia
theorem MN{α:Type}{p:α->Bool}{l:List α}{j:Nat}{a b:α}(hij:i<j)(ha:l[i]?=some a)(hb:l[j]?=some b)(pa:p a=true)(pb:p b=true):2≤(l.filter p).length:=by
 rw[←a0 j l,kF,π];have h1:=fz (aI.mpr ⟨av (i:=i) (by rw[List.getElem?_take,if_pos hij];exact ha),pa⟩);have h2:=fz (aI.mpr ⟨av (i:=0) (by rw[dM];exact hb),pb⟩);lia
theorem CV(ok:kY 1000 cs)(h:iS cs):A0 cs=true:=by
 have hv:=λc hc=>(ok c hc).1;have hpos:=BH λz hz=>(hv z hz).1;have hone:∀x:Nat,fG cs x=1:=λx=>by
  rw[←h (x:Int)];exact congrArg bM (fi λc hc=>(qP (hv c hc) _).symm)
 have hs:=vW hpos (cs:=cs) λc hc=>⟨hv c hc,BI hc⟩;have ht:fM cs (cK cs)=cK cs:=by
  rw[←hs,show (Φ (cK cs)).map (fG cs)=bF (cK cs) 1 from mi.mpr ⟨by simp,λb hb=>by
   obtain⟨x,_,rfl⟩:=υ.mp hb;exact hone x⟩,lA,iV]
 have hcl:ll cs=none:=by
  cases e:ll cs with
  |none=>rfl
  |some v=>
   exfalso;obtain⟨i,_,e1⟩:=lU e;obtain⟨j,_,e2⟩:=lU e1;unfold vc at e2;cases ha:cs[i]? with
   |none=>rw[ha] at e2;cases e2
   |some a=>
    cases hb:cs[i+1+j]? with
    |none=>rw[ha,hb] at e2;cases e2
    |some b=>
     rw[ha,hb] at e2;obtain⟨m,hm,_⟩:=qD.mp e2;obtain⟨_,m1,_,m3,m4⟩:=N6 hm;have:=MN (p:=ck m.2) (show i<i+1+j by lia) ha hb (bO.mpr m3) (bO.mpr m4);rw[h] at this;lia
 unfold A0 sJ sL;rw[ht,hcl,Nat.gcd_self,tM hpos];rfl
end My
namespace cQ
open PySem lP
section
variable {prog:ao} {w:aC} {A:aQ} {E:ζ->η->Prop} {s:η}
inductive ji(prog:ao)(w:aC)(h:Heap):List (List Int)->List ζ->Prop
 |nil:ji prog w h [] []
 |cons {ks:List Int} {b:ν} {kss:List (List Int)} {vs:List ζ}:iF prog w h ks b->ji prog w h kss vs->ji prog w h (ks::kss) (.ref b::vs)
def gC(prog:ao)(w:aC)(h:Heap)(kss:List (List Int))(a:ν):Prop:=∃o items n,h.get? a=some o/\o.cls=.type "tuple"/\o.data=.seq items n/\ji prog w h kss items.toList
def tf(prog:ao)(w:aC)(kss:List (List Int)):Int:=reduceHash (eE (kss.map (hk prog w)))
def dr(kss:List (List Int)):Nat:=(kss.map λks=>ks.length+1).sum
def Dx(kss:List (List Int)):Nat:=dr kss+1
theorem ji.inj(hx:ji prog w h x vs)(hy:ji prog w h y vs):x=y:=by
 induction hx generalizing y with
 |nil=>cases hy;rfl
 |cons h1 _ ih=>
  cases hy with
  |cons h2 t2=>rw[h1.inj h2,ih t2]
theorem ji.mono(m:∀ks b,iF prog w h ks b->iF prog w h' ks b)(hx:ji prog w h x vs):ji prog w h' x vs:=by
 induction hx with
 |nil=>exact .nil
 |cons h1 _ ih=>exact .cons (m _ _ h1) ih
theorem gC.typeIs(x:gC prog w s.heap kss a):s.TypeIs (.ref a) "tuple":=let ⟨o,_,_,ho,hc,_⟩:=x;⟨o,ho,hc⟩
theorem gC.inj(hx:gC prog w h x a)(hy:gC prog w h y a):x=y:=by
 obtain⟨o,items,n,ho,_,hd,hi⟩:=hx;obtain⟨o',items',n',ho',_,hd',hi'⟩:=hy;obtain rfl:o=o':=aL (ho.symm.trans ho');rw[hd] at hd';injection hd' with h1 _;subst h1;exact hi.inj hi'
theorem MM(hu:A.units+8<cLine)(hk':gC prog w s.heap kss a)(h:Q (tf prog w kss) { s with toks:=s.toks+Dx kss }):
  χ (model prog w) A (pyHash (.ref a)) Q E s:=by
 have hT:=hk'.typeIs;obtain⟨o,items,n,ho,_,hd,hi⟩:=hk'
 first|unfold pyHashByItsType|skip
 first|refine γ (wpAny_cRoomFor_or (.inr (by lia)) ?_)|skip
 refine γ (fo hT F.slot_tuple_hash.lookup ?_);rw[if_neg (by rw[beq_builtin_none];exact af)];refine γ (fo hT F.slot_tuple_hash.lookup (γ (wpAny_callSpecialIfBoundUnlessNone?_slot hT F.slot_tuple_hash (bA F.slot_tuple_hash hT F.entry_tuple_hash ?_ (F.args_tuple_hash_1 _)))));show χ _ _ (jN (.ref a) >>= _) _ _ s;refine γ (nE ho hd (γ ?_));rw[←dN];refine cY _
  (λrest (b:Array Int) s'=>∃done left,kss=done++left/\ji prog w s.heap left rest/\b.toList=done.map (hk prog w)/\s'={ s with toks:=s.toks+dr done })
  _ ?_ ?_ _ _ ⟨[],kss,rfl,hi,rfl,rfl⟩
 ·rintro x rest b s' ⟨done,left,rfl,hl,hb,rfl⟩;cases hl with
  |@cons k _ ks' _ h1 hl'=>
   refine γ (wpAny_pyHash_tuple (s:={ s with toks:=s.toks+dr done }) (by first|lia|(show _+1<cLine;lia)) h1 ?_)
   have ed:s.toks+dr done+(k.length+1)=s.toks+dr (done++[k]):=by
    unfold dr;rw[aP,kc];simp only[ay,tN,bQ,List.sum_nil];lia
   first
    |exact δ ⟨done++[k],ks',by simp,hl',by simp[hb],by rw[ed]⟩
    |exact γ (δ (δ ⟨done++[k],ks',by simp,hl',by simp[hb],by rw[ed]⟩))
 ·rintro b s' ⟨done,left,rfl,hl,hb,rfl⟩;cases hl;rw[bC] at h;show χ _ _ (retInt (eE b.toList)) _ _ _;rw[hb];refine wpAny_ret_mkInt ?_;show χ _ _ (if (decide (-(2:Int)^63≤eE (done.map (hk prog w)))&&decide (eE (done.map (hk prog w))<2^63))=true then _ else _) Q E _;unfold tf reduceHash at h;have ed:s.toks+dr done+1=s.toks+Dx done:=by unfold Dx;lia
  by_cases hr:(decide (-(2:Int)^63≤eE (done.map (hk prog w)))&&decide (eE (done.map (hk prog w))<2^63))=true
  ·rw[if_pos hr];rw[if_pos hr] at h;exact δ (by rw[←ed] at h;exact h)
  ·rw[if_neg hr];rw[if_neg hr] at h;exact γ (eX (δ (by rw[←ed] at h;exact h)))
theorem Nq(hu:A.units+8<cLine)(hx:gC prog w s.heap x a)(hy:gC prog w s.heap y b)(h:P (.done (.ret (.bool (decide (x=y))))) s):
  χ (model prog w) A (f9.«tuple.__eq__» ⟨[.ref a,.ref b],[]⟩) P E s:=by
 have hTb:=hy.typeIs;obtain⟨oa,xs,na,hoa,_,hda,hia⟩:=hx;obtain⟨ob,ys,nb,hob,_,vg,hib⟩:=hy;show χ _ _ (isInstance (.ref b) (.type "tuple") >>= _) _ _ s;refine γ (dP hTb l8 (γ (nE hoa hda (γ (nE hob vg (γ ?_))))));refine cY _
  (λrest r s'=>r.1=none/\s'=s/\∃x' y' xs' ys',rest=List.zip xs' ys'/\ji prog w s.heap x' xs'/\ji prog w s.heap y' ys'/\decide (x'=y')=decide (x=y)/\(xs'.length==ys'.length)=(xs.size==ys.size))
  _ ?_ ?_ _ _ ⟨rfl,rfl,x,y,xs.toList,ys.toList,rfl,hia,hib,rfl,by simp⟩
 ·rintro⟨u,v⟩ rest r s' ⟨hr,rfl,x',y',xs',ys',hz,hx',hy',hdec,hlen⟩;cases hx' with
  |nil=>simp at hz
  |@cons k1 u' x'' xs'' h1 hx''=>
   cases hy' with
   |nil=>simp at hz
   |@cons k2 v' y'' ys'' h2 hy''=>
    simp only[iM,qo,Prod.mk.injEq] at hz;obtain⟨⟨rfl,rfl⟩,rfl⟩:=hz;refine γ (gD (by lia) h1 h2 ?_);by_cases hk:k1=k2
    ·subst hk;rw[decide_eq_true rfl];refine δ ⟨rfl,rfl,x'',y'',xs'',ys'',rfl,hx'',hy'',?_,by simpa using hlen⟩;rw[←hdec];by_cases hxy:x''=y''
     ·simp[hxy]
     ·simp[hxy]
    ·rw[decide_eq_false hk];have hf:decide (x=y)=false:=by rw[←hdec];simp[hk]
     rw[hf] at h;exact γ (δ (δ (δ h)))
 ·rintro⟨r1,r2⟩ s' ⟨hr,rfl,x',y',xs',ys',hz,hx',hy',hdec,hlen⟩;subst hr;refine δ ?_;have hfin:(xs.size==ys.size)=decide (x=y):=by
   rw[←hdec,←hlen];cases hx' with
   |nil=>
    cases hy' with
    |nil=>simp
    |cons _ _=>simp
   |cons _ _=>
    cases hy' with
    |nil=>simp
    |cons _ _=>simp at hz
  show P (.done (.ret (.bool (xs.size==ys.size)))) s';rwa [hfin]
theorem Np(hu:A.units+16<cLine)(hx:gC prog w s.heap x a)(hy:gC prog w s.heap y b)(h:Q (decide (x=y)) s):
  χ (model prog w) A (eqBool (.ref a) (.ref b)) Q E s:=by
 unfold eqBool
 try with_reducible refine bY ?_
 by_cases hab:(aw a==aw b)=true
 ·rw[if_pos hab];have e:a=b:=by have:=eq_of_beq hab;injection this
  subst e;obtain rfl:=hx.inj hy;exact γ (eX (δ (by simpa using h)))
 ·rw[if_neg hab];exact γ (wpAny_richCompare_same_room (op:=.Eq) hx.typeIs hy.typeIs F.slot_tuple_eq
   (bA F.slot_tuple_eq hx.typeIs F.entry_tuple_eq (Nq (by first|lia|(show _+1+8<cLine;lia)) hx hy ⟨_,rfl,(λe=>nomatch e),fV h⟩) (F.args_tuple_eq_2 _ _)) (by lia))
theorem Nn(d:Nat)(hk:iF prog w s.heap ks a)(h:Q true s):χ (model prog w) A (eqIsQuiet (d+1) (.ref a)) Q E s:=by
 have hT:=hk.typeIs;obtain⟨o,items,n,ho,_,hd,hi⟩:=hk;unfold eqIsQuiet;refine γ (fo hT F.slot_tuple_eq.lookup (γ (dP hT l8 (γ (bJ ho hd (γ ?_))))));rw[←dN];refine cY _ (λrest r s'=>r.1=none/\s'=s/\∀v∈rest,carriedByValue v=true) _ ?_ ?_ _ _ ⟨rfl,rfl,hi.byValue⟩
 ·rintro v rest r s' ⟨hr,rfl,hall⟩;rw[eqIsQuiet_byValue _ (hall v ι)];exact γ (δ (δ ⟨rfl,rfl,λu hu'=>hall u (μ _ hu')⟩))
 ·rintro⟨r1,r2⟩ s' ⟨hr,rfl,_⟩;subst hr;exact δ h
theorem Nm(hk:gC prog w s.heap kss a)(h:Q true s):χ (model prog w) A (eqIsQuiet 8 (.ref a)) Q E s:=by
 have hT:=hk.typeIs;obtain⟨o,items,n,ho,_,hd,hi⟩:=hk;unfold eqIsQuiet;refine γ (fo hT F.slot_tuple_eq.lookup (γ (dP hT l8 (γ (bJ ho hd (γ ?_))))));rw[←dN];refine cY _ (λrest r s'=>r.1=none/\s'=s/\∃x',ji prog w s.heap x' rest) _ ?_ ?_ _ _ ⟨rfl,rfl,kss,hi⟩
 ·rintro v rest r s' ⟨hr,rfl,x',hall⟩;cases hall with
  |cons h1 h2=>
   exact γ (Nn 6 h1 (δ ⟨rfl,rfl,_,h2⟩))
 ·rintro⟨r1,r2⟩ s' ⟨hr,rfl,_⟩;subst hr;exact δ h
theorem Nl(d:Nat)(hx:iF prog w s.heap ks a)(h:Q false s):χ (model prog w) A (ofAClassStatement (d+1) (.ref a)) Q E s:=by
 have hT:=hx.typeIs;obtain⟨o,items,n,ho,hc,hd,hi⟩:=hx;unfold ofAClassStatement;refine γ (fx hT ?_);dsimp only;rw[if_pos (by decide)];refine γ (δ ?_);rw[if_neg (by decide)];refine γ (bJ ho hd (γ ?_));rw[←dN];refine cY _ (λrest r s'=>r.1=none/\s'=s/\∀v∈rest,carriedByValue v=true) _ ?_ ?_ _ _ ⟨rfl,rfl,hi.byValue⟩
 ·rintro v rest r s' ⟨hr,rfl,hall⟩;rw[HJ _ (hall v ι)];refine γ (δ ?_);rw[if_neg af];exact δ ⟨rfl,rfl,λu hu'=>hall u (μ _ hu')⟩
 ·rintro⟨r1,r2⟩ s' ⟨hr,rfl,_⟩;subst hr;exact δ h
theorem Nk(hx:gC prog w s.heap kss a)(h:Q false s):χ (model prog w) A (ofAClassStatement 8 (.ref a)) Q E s:=by
 have hT:=hx.typeIs;obtain⟨o,items,n,ho,hc,hd,hi⟩:=hx;unfold ofAClassStatement;refine γ (fx hT ?_);dsimp only;rw[if_pos (by decide)];refine γ (δ ?_);rw[if_neg (by decide)];refine γ (bJ ho hd (γ ?_));rw[←dN];refine cY _ (λrest r s'=>r.1=none/\s'=s/\∃x',ji prog w s.heap x' rest) _ ?_ ?_ _ _ ⟨rfl,rfl,kss,hi⟩
 ·rintro v rest r s' ⟨hr,rfl,x',hall⟩;cases hall with
  |cons h1 h2=>
   refine γ (Nl 6 h1 ?_);rw[if_neg af];exact δ ⟨rfl,rfl,_,h2⟩
 ·rintro⟨r1,r2⟩ s' ⟨hr,rfl,_⟩;subst hr;exact δ h
theorem Nj(d:Nat)(hx:iF prog w s.heap ks a)(h:Q true s):χ (model prog w) A (hashByValue (d+1) (.ref a)) Q E s:=by
 have hT:=hx.typeIs;obtain⟨o,items,n,ho,hc,hd,hi⟩:=hx;refine γ (fo hT F.slot_tuple_hash.lookup (γ (bJ ho hd (γ ?_))));rw[←dN];refine cY _ (λrest r s'=>r.1=none/\s'=s/\∃l,ItemsAre (intKind prog w) l rest) _ ?_ ?_ _ _ ⟨rfl,rfl,ks,hi⟩
 ·rintro v rest r s' ⟨hr,rfl,l,hl⟩;cases hl with
  |@cons k v' _ _ h1 h2=>
   obtain⟨tk,rfl⟩:=fX (k:=k) h1;have e:hashByValue d (.int k tk)=pure true:=by cases d<;>rfl
   rw[e];refine γ (δ ?_);rw[if_neg (by decide)];exact δ ⟨rfl,rfl,_,h2⟩
 ·rintro⟨r1,r2⟩ s' ⟨hr,rfl,_⟩;subst hr;exact δ h
theorem Ni(hx:gC prog w s.heap kss a)(h:Q true s):χ (model prog w) A (hashByValue 8 (.ref a)) Q E s:=by
 have hT:=hx.typeIs;obtain⟨o,items,n,ho,hc,hd,hi⟩:=hx;refine γ (fo hT F.slot_tuple_hash.lookup (γ (bJ ho hd (γ ?_))));rw[←dN];refine cY _ (λrest r s'=>r.1=none/\s'=s/\∃x',ji prog w s.heap x' rest) _ ?_ ?_ _ _ ⟨rfl,rfl,kss,hi⟩
 ·rintro v rest r s' ⟨hr,rfl,l,hl⟩;cases hl with
  |cons h1 h2=>
   refine γ (Nj 6 h1 ?_);rw[if_neg (by decide)];exact δ ⟨rfl,rfl,_,h2⟩
 ·rintro⟨r1,r2⟩ s' ⟨hr,rfl,_⟩;subst hr;exact δ h
end
end cQ
namespace HT
open PySem PyProof.Rows
def pj:List (List Int)->List (List Int)->Bool
 |[],[]=>false
 |[],_::_=>true
 |_::_,[]=>false
 |x::xs,y::ys=>if x=y then pj xs ys else lexLt x y
inductive nQ(h:Heap):List ζ->List (List Int)->Prop
 |nil:nQ h [] []
 |cons {a:ν} {its:Array ζ} {ks:List Int} {vs:List ζ} {kss:List (List Int)}:gK h a its->f6 its.toList ks->nQ h vs kss->nQ h (.ref a::vs) (ks::kss)
theorem nQ.length(t:nQ h vs kss):vs.length=kss.length:=by
 induction t with
 |nil=>rfl
 |cons _ _ _ ih=>simp[ih]
theorem Nh{h:Heap}{prog:ao}{w:aC}{ks:List Int}{vs:List ζ}(i:f6 vs ks):ItemsAre (intKind prog w) ks vs:=by
 induction i with
 |nil=>exact .nil
 |cons a t _ ih=>exact .cons (by simp[intKind,qC]) ih
theorem Ng(i:ItemsAre (intKind prog w) ks vs):f6 vs ks:=by
 induction i with
 |nil=>exact .nil
 |cons h1 _ ih=>
  obtain⟨t,rfl⟩:=fX h1;exact .cons _ _ ih
theorem zh(t:gK h a its)(i:f6 its.toList ks):cQ.iF prog w h ks a:=by
 obtain⟨o,ho,hc,n,hd⟩:=t;exact⟨o,its,n,ho,hc,hd,Nh (h:=h) i⟩
theorem nA(k:cQ.iF prog w h ks a):∃its,gK h a its/\f6 its.toList ks:=by
 obtain⟨o,its,n,ho,hc,hd,i⟩:=k;exact⟨its,⟨o,ho,hc,n,hd⟩,Ng i⟩
theorem rO(t:cQ.ji prog w h kss vs):nQ h vs kss:=by
 induction t with
 |nil=>exact .nil
 |cons k _ ih=>
  obtain⟨its,t,i⟩:=nA k;exact .cons t i ih
def RT(h:Heap)(v:ζ)(ks:List Int):Prop:=∃a its,v=.ref a/\gK h a its/\f6 its.toList ks
theorem nQ.it{h:Heap}{vs:List ζ}{kss:List (List Int)}(t:nQ h vs kss):tH (RT h) vs kss:=by
 induction t with
 |nil=>exact .nil
 |cons t i _ ih=>exact .cons ⟨_,_,rfl,t,i⟩ ih
section
variable {prog:ao} {w:aC} {A:aQ} {E:ζ->η->Prop} {s:η}
theorem Ag(hl:gK s.heap l items)(hb:gK s.heap b items2)(hi:nQ s.heap items.toList ns)(hj:nQ s.heap items2.toList ms)
  (hu:A.units+16<cLine) (h:Q (.bool (pj ns ms)) s):χ (model prog w) A (compareOp .Lt (.ref l) (.ref b)) Q E s:=by
 obtain⟨⟨cls,dd,data,sl⟩,ho,hc,n,hd⟩:=id hl;obtain⟨⟨cls2,dd2,data2,sl2⟩,ho2,hc2,n2,hd2⟩:=id hb;subst hc hd hc2 hd2;exact iU (op:=.Lt) ⟨_,ho,rfl⟩ ⟨_,ho2,rfl⟩ PySem.F.slot_tuple_lt PySem.F.entry_tuple_lt (PySem.F.args_tuple_lt_2 _ _) (Aa false pj lexLt (RT s.heap) l b items items2 n n2 dd dd2 sl sl2 ns ms rfl (λ_ _=>rfl) (λ_ _=>rfl) λ_ _ _ _=>rfl)
  ⟨ho,ho2,⟨hi.it,hj.it,λprog w x y u v ⟨a1,i1,e1,t1,j1⟩ ⟨a2,i2,e2,t2,j2⟩=>by
   subst e1 e2;exact⟨λE Q q=>gD (knd:=intKind prog w) (by first|(show A.units+1<cLine;omega)|(show A.units+1+1<cLine;omega)|(show A.units+2+1<cLine;omega)) (zh t1 j1) (zh t2 j2) q,λE Q q=>oG t1 t2 j1 j2 (by first|(show A.units+1<cLine;omega)|(show A.units+1+1<cLine;omega)|(show A.units+2+1<cLine;omega)) q⟩⟩,show gu (pj ns ms)≠jE/\Q (.bool (pj ns ms)) s from⟨(λx=>nomatch x),h⟩⟩ (by omega)
end
end HT
namespace cQ
open PySem lP
section
variable {prog:ao} {w:aC} {A:aQ} {E:ζ->η->Prop} {s:η}
theorem uP(k:∀c ob,h.get? c=some ob->h'.get? c=some ob)(z:gC prog w h kss b):gC prog w h' kss b:=by
 obtain⟨o,its,n,ho,hc,hd,hi⟩:=z;exact⟨o,its,n,k _ _ ho,hc,hd,hi.mono λks b z=>t6 k z⟩
theorem Mx(ho:h.get? a=some o)(hd:o.data=.set es ep t)(sb:Heap.SameBut a h h')(hy:gC prog w h ks y):gC prog w h' ks y:=by
 obtain⟨oy,items,n,hoy,hc,hdy,hi⟩:=hy;have ne:y≠a:=by
  intro e;subst e;rw[ho] at hoy;cases hoy;rw[hd] at hdy;cases hdy
 exact⟨oy,items,n,(sb.2 y ne).trans hoy,hc,hdy,hi.mono λks b z=>cQ.yK ho hd sb z⟩
abbrev kN(prog:ao)(w:aC):Kd prog w (List (List Int)):=⟨tf prog w,gC prog w,Dx,16,by decide,Nm,Nk,Ni,Np,λhu=>MM (by lia),uP,Mx⟩
abbrev ZA(prog:ao)(w:aC):=(kN prog w).ent
def wI:=@Hy prog w A E s _ _ (kN prog w)
end
end cQ
namespace aR
open PySem PySem.W PyProof.Rows PySem.Calls cQ
theorem zV:∀x y:List Int,lx x y=HT.lexLt x y
 |[],[]=>rfl
 |[],_::_=>rfl
 |_::_,[]=>rfl
 |x::xs,y::ys=>by
  show (if x=y then lx xs ys else _)=(if x=y then HT.lexLt xs ys else _);rw[zV xs ys]
theorem BG:∀{x y:List Int},x≠y->lx x y=false->lx y x=true
 |[],[],h,_=>absurd rfl h
 |[],_::_,_,h=>by cases h
 |_::_,[],_,_=>rfl
 |x::xs,y::ys,h,h2=>by
  have h2':(if x=y then lx xs ys else decide (x<y))=false:=h2;show (if y=x then lx ys xs else decide (y<x))=true;by_cases e:x=y
  ·subst e;rw[if_pos rfl] at h2' ⊢;exact BG (λz=>h (by rw[z])) h2'
  ·rw[if_neg e] at h2';rw[if_neg (di e)];exact decide_eq_true (by lia)
def e8:List (List Int)->List (List Int)->Bool
 |[],[]=>false
 |[],_::_=>true
 |_::_,[]=>false
 |x::xs,y::ys=>if x=y then e8 xs ys else lx x y
theorem yG:∀x y:List (List Int),HT.pj x y=e8 x y
 |[],[]=>rfl
 |[],_::_=>rfl
 |_::_,[]=>rfl
 |x::xs,y::ys=>by
  show (if x=y then HT.pj xs ys else HT.lexLt x y)=(if x=y then e8 xs ys else lx x y);rw[yG xs ys,zV]
theorem oW:∀{x y:List (List Int)},e8 x y=true->e8 y x=false
 |[],[],h=>by cases h
 |[],_::_,_=>rfl
 |_::_,[],h=>by cases h
 |x::xs,y::ys,h=>by
  have h':(if x=y then e8 xs ys else lx x y)=true:=h;show (if y=x then e8 ys xs else lx y x)=false;by_cases e:x=y
  ·rw[if_pos e] at h';rw[if_pos e.symm];exact oW h'
  ·rw[if_neg e] at h';rw[if_neg (di e)];exact sY h'
theorem t5:∀{a b c:List (List Int)},e8 b a=false->e8 c b=false->e8 c a=false
 |[],_,[],_,_=>rfl
 |[],[],_::_,_,_=>rfl
 |[],_::_,_::_,_,_=>rfl
 |_::_,[],_,h,_=>by cases h
 |_::_,_::_,[],_,h=>by cases h
 |a::as,b::bs,c::cs,h1,h2=>by
  have h1':(if b=a then e8 bs as else lx b a)=false:=h1;have h2':(if c=b then e8 cs bs else lx c b)=false:=h2;show (if c=a then e8 cs as else lx c a)=false;by_cases e1:b=a
  ·rw[if_pos e1] at h1';by_cases e2:c=b
   ·rw[if_pos e2] at h2';rw[if_pos (e2.trans e1)];exact t5 h1' h2'
   ·rw[if_neg e2] at h2';rwa [if_neg (λz=>e2 (z.trans e1.symm)),←e1]
  ·rw[if_neg e1] at h1';by_cases e2:c=b
   ·rw[if_neg (λz=>e1 (e2.symm.trans z)),e2];exact h1'
   ·rw[if_neg e2] at h2';by_cases e3:c=a
    ·subst e3;have:=BG (di e1) h2';rw[h1'] at this;cases this
    ·rw[if_neg e3];exact vd h1' h2'
theorem wb:∀{x y:List (List Int)},x≠y->e8 x y=false->e8 y x=true
 |[],[],h,_=>absurd rfl h
 |[],_::_,_,h=>by cases h
 |_::_,[],_,_=>rfl
 |x::xs,y::ys,h,h2=>by
  have h2':(if x=y then e8 xs ys else lx x y)=false:=h2;show (if y=x then e8 ys xs else lx y x)=true;by_cases e:x=y
  ·subst e;rw[if_pos rfl] at h2' ⊢;exact wb (λz=>h (by rw[z])) h2'
  ·rw[if_neg e] at h2';rw[if_neg (di e)];exact BG e h2'
section
variable {prog:ao} {w:aC} {A:aQ} {E:ζ->η->Prop} {s:η}
theorem Mw(hu:A.units+16<cLine):∀(xs ys:List (List Int)) (us vs:List ζ) (i:Nat) (fin:Bool),ji prog w s.heap xs us->ji prog w s.heap ys vs ->
  (∃n,fin=decide (n+us.length<n+vs.length))->Q (e8 xs ys) s->KatLex prog w A false fin Q (us.zip vs) i s:=by
 intro xs
 induction xs with
 |nil=>
  intro ys us vs i fin h1 h2 hf h;cases h1;obtain⟨n,hf⟩:=hf;cases h2 with
  |nil=>
   have:fin=false:=by simp at hf;exact hf
   rw[this];exact oX h
  |cons h3 h4=>
   have:fin=true:=by rw[hf];simp
   rw[this];exact oX h
 |cons x xs ih=>
  intro ys us vs i fin h1 h2 hf h;cases h1 with
  |cons h1 h1'=>
  cases h2 with
  |nil=>
   obtain⟨n,hf⟩:=hf;have:fin=false:=by rw[hf];simp
   rw[this];exact oX h
  |cons h3 h4=>
   refine kat_cons (gD (by lia) h1 h3 ?_);rename_i _ y _ ys _;have h':Q (if x=y then e8 xs ys else lx x y) s:=h;by_cases e:x=y
   ·rw[if_pos e] at h';rw[decide_eq_true e];refine kat_yes (ih ys _ _ (i+1) fin h1' h4 ?_ h');obtain⟨n,hf⟩:=hf;exact⟨n+1,by rw[hf];congr 1;simp only[ai];apply propext;lia⟩
   ·rw[if_neg e] at h';rw[decide_eq_false e];refine kat_no ?_;obtain⟨i1,t1,j1⟩:=HT.nA h1;obtain⟨i2,t2,j2⟩:=HT.nA h3;refine kat_one _ _ (HT.oG t1 t2 j1 j2 (by lia) ?_);rwa [←zV]
theorem wA(hu:A.units+16<cLine)(hx:gC prog w s.heap x a)(hy:gC prog w s.heap y b)(h:Q (e8 x y) s):χ (model prog w) A (keyLt' (tuples' false) (.ref a) (.ref b)) Q E s:=by
 obtain⟨o,its,n,ho,_,hd,hi⟩:=hx;obtain⟨o',its',n',ho',_,hd',hi'⟩:=hy;exact kat_lt ho hd ho' hd' (Mw hu x y its.toList its'.toList 0 _ hi hi' ⟨0,by simp⟩ h)
abbrev Zk(x y:List (List Int)×ν):Bool:=e8 x.1 y.1
abbrev x9(p:List (List Int)×ν):ζ:=.ref p.2
theorem Dn:tG Zk:=⟨λ_ _ h=>oW h,λ_ _ _ h1 h2=>t5 h1 h2⟩
theorem F0:∀{ps:List (List (List Int)×ν)},(∀p∈ps,gC prog w h p.1 p.2/\p.1≠[])->∃fs,KatTups h (ps.map λp=>aw p.2) fs/\fs.length=ps.length/\∀v∈fs,∃ks b,v=.ref b/\iF prog w h ks b
 |[],_=>⟨[],.nil,rfl,λv hv=>nomatch hv⟩
 |p::ps,hk=>by
  obtain⟨fs,h1,h2,h3⟩:=F0 (ps:=ps) λq hq=>hk q (μ _ hq);obtain⟨⟨o,its,n,ho,hc,hd,hi⟩,hne⟩:=hk p ι;obtain⟨ks,a⟩:=p;cases ks with
  |nil=>exact absurd rfl hne
  |cons k ks=>
   obtain⟨its⟩:=its;cases hi with
   |@cons _ b _ vs h4 h5=>
    refine⟨.ref b::fs,tR ho hc hd (by simp) h1,by simp[h2],λu hu=>?_⟩;rcases Ψ.mp hu with q|q
    ·exact⟨k,b,q,h4⟩
    ·exact h3 u q
theorem xT(hne:ps≠[])(hk:∀p∈ps,gC prog w s.heap p.1 p.2/\p.1≠[])(h:Q (tuples' false) s):χ (model prog w) A (keyKind' (ps.map x9).toArray) Q E s:=by
 obtain⟨fs,h1,h2,h3⟩:=F0 hk;have hl:0<fs.length:=by
  rw[h2];exact jT.mpr hne
 refine kat_kind (T:=.type "tuple") h1 hl (λv hv=>?_) rfl h;obtain⟨ks,b,rfl,⟨o,its,n,ho,hc,hd,hi⟩⟩:=h3 v hv;rw[←hc];exact (Looks.ld ho).andThen .now
end
end aR
namespace L3
open PySem PySem.Spec PyProof.Rows L2
section
variable {X:Cx} {e:aT} {te:cu} {p p2 pos kp kp2 cp:d9} {j:Option aG}
theorem FZ{K:PySem.W.Frag}:∀{ds:List D} {vs:List V} {i:Nat} {d:D},aU K H ds vs->ds[i]?=some d->∃v,vs[i]?=some v/\Hv K H d v
 |[],vs,i,d,_,e=>by cases e
 |x::ds,vs,i,d,h,e=>by
  obtain⟨v,r,rfl,h1,h2⟩:=h.inv;cases i with
  |zero=>
   cases e;exact⟨v,rfl,h1⟩
  |succ i=>exact FZ (i:=i) h2 e
end
end L3
namespace My
open PySem L2 L3
theorem Mv:∀ns:List Int,c7 (ns.map D.int)=some (ns.map Dat.D.int):=by
 intro ns
 induction ns with
 |nil=>rfl
 |cons n ns ih=>
  show c7 (D.int n::ns.map D.int)=_;rw[c7,ih];rfl
def tX(ns:List Int):Dat.D:=.tup (ns.map Dat.D.int)
theorem Mu(ns:List Int):iD G (tupI ns)=some (tX ns):=by
 show eZ (.tup (ns.map D.int))=_;rw[eZ,Mv];rfl
theorem Mt(ns:List Int):Dat.jh (ns.map Dat.D.int)=0:=by
 induction ns with
 |nil=>rfl
 |cons n ns ih=>
  show max 0 (Dat.jh (ns.map Dat.D.int))=0;lia
theorem FY(ns:List Int)(n:Int):(ns.map Dat.D.int).any (λv=>v.dF (.int n))=decide (n∈ns):=by
 rw[List.any_map,cV,jH,decide_eq_true_iff];constructor
 ·rintro⟨x,hx,h⟩;have h':=h;rwa [←eq_of_beq h']
 ·intro h;exact⟨n,h,by exact beq_self_eq_true n⟩
end My
namespace My
open PySem PySem.Spec PyProof.Rows L2 L3
section
variable {prog:ao} {w:aC} {A:aQ} {R:Result->η->Prop} {I:ν} {fp wr:List ν} {Gs:Array GenState->Array GenState->Prop} {n:Nat} {P:Nat->ζ->Prop} {St:Nat->η->Prop}
theorem Ms(W:WalksS prog w A.in1 I fp wr Gs n P St)(bt:Nat->Nat->Bool)(S:ν)(hSf:S∉fp)(s0:η)
  (xX:∀(i j:Nat) (v u:ζ) (s':η),P i v->P j u->iL (S::wr) Gs s0 s'->∀(Q:ζ->η->Prop) (E:ζ->η->Prop),Q (.bool (bt i j)) s'->χ (model prog w) A.in1 (jQ .Lt v u) Q E s'):
  ∀(k j:Nat) (s:η) (vb:ζ) (c:Nat),n-(j+1)=k->j+1≤n->St (j+1) s->P (argBest bt j) vb ->
  s.heap.get? S=some { cls:=.type "list",dict:=none,data:=.seq #[vb,vb] c,slots:=#[]}->iL (S::wr) Gs s0 s ->
  (∀v s',P (argBest bt (n-1)) v->iL (S::wr) Gs s s'->R (.ok (.ret v)) s')->gI (model prog w) A (.builtin "min.loop" ⟨[.ref I,.none,.ref S],[]⟩) R s:=by
 have hSw:S∉wr:=λh=>hSf (W.sub _ h);have hsub:∀b∈wr,b∈S::wr:=λb hb=>μ _ hb;have hname:(toString "min" ++ toString ".loop":String)="min.loop":=by decide
 have notS:∀{b:ν},b∉S::wr->S≠b:=λhb h=>hb (by rw[h];exact ι);intro k
 induction k with
 |zero=>
  intro j s vb c hk hj hst hPb hS hM hR;have sg:j+1=n:=by lia
  refine cw F.entry_min_loop ?_;rw[cj F.plain_min_loop _];show χ _ A.in1 (seqItems? (.ref S) >>= _) _ _ s;refine γ (bJ hS rfl ?_);show χ _ A.in1 (tryCatch (pyNext (.ref I)) _ >>= _) _ _ s;refine γ (mW (W.done s _ _ (sg▸hst) λs' hm=>?_));have hS':=hm.heap S _ hSw hS;show χ _ A.in1 (updateSeq S (λ_=>#[]) >>= _) _ _ _;refine γ ?_;refine fm hS' rfl (γ (hJ (δ ?_)));exact hR vb _ (by rw[←sg];exact hPb) ((hm.mono hsub).then_heap (tk:=s'.toks) (ρ _) λb o hb e=>(Heap.get?_update_other _ _ (notS hb)).trans e)
 |succ k ih=>
  intro j s vb c hk hj hst hPb hS hM hR;have hlt:j+1<n:=by lia
  refine cw F.entry_min_loop ?_;rw[cj F.plain_min_loop _];show χ _ A.in1 (seqItems? (.ref S) >>= _) _ _ s;refine γ (bJ hS rfl ?_);show χ _ A.in1 (tryCatch (pyNext (.ref I)) _ >>= _) _ _ s;refine γ (mW (W.item (j+1) s _ _ hlt hst λv s' hP hst' hm=>?_));have hS':=hm.heap S _ hSw hS;have hM':iL (S::wr) Gs s0 s':=nr W.gtrans hM (hm.mono hsub);show χ _ A.in1 (tryCatch (holding [v,v] (jQ .Lt v vb >>= _)) _ >>= _) _ _ _;refine γ (mW (bY (γ (xX (j+1) (argBest bt j) v vb s' hP hPb hM' _ _ ?_))));refine γ (bY (fV ?_));refine γ (hJ (δ ?_));cases hb:bt (j+1) (argBest bt j) with
  |true=>
   simp only[if_true];refine γ ?_;refine fm hS' rfl (γ (hJ ?_));rw[hname];have hM3:iL (S::wr) Gs s { s' with heap:=s'.heap.update S (a7 λ_=>#[v,v])}:=(hm.mono hsub).then_heap (tk:=s'.toks) (ρ _) λb o hb e=>(Heap.get?_update_other _ _ (notS hb)).trans e;refine δ ⟨dX F.plain_min_loop _,ih (j+1) _ v _ (by lia) hlt (W.frame _ s' _ s'.toks hst' (ρ _) λb hbf o e=>?_) (by simp only[argBest,hb,if_true];exact hP) (Heap.get?_update_self _ hS' rfl) (nr W.gtrans hM hM3)
    λv' s'' hP' hm''=>?_⟩
   ·exact (Heap.get?_update_other _ _ (λh:S=b=>hSf (by rw[h];exact hbf))).trans e
   ·exact hR v' s'' hP' (nr W.gtrans hM3 hm'')
  |false=>
   simp only[eQ,if_false];refine γ (hJ ?_);rw[hname];refine δ ⟨dX F.plain_min_loop _,ih (j+1) _ vb c (by lia) hlt hst' (by simp only[argBest,hb,eQ,if_false];exact hPb) hS' hM' λv' s'' hP' hm''=>?_⟩;exact hR v' s'' hP' (nr W.gtrans (hm.mono hsub) hm'')
theorem Mr(W:WalksS prog w A.in1 I fp wr Gs n P St)(bt:Nat->Nat->Bool)(S:ν)(hSf:S∉fp)(hn:0<n)(hst:St 0 s)
  (hS:s.heap.get? S=some { cls:=.type "list",dict:=none,data:=.seq #[] c,slots:=#[]})
  (xX:∀(i j:Nat) (v u:ζ) (s':η),P i v->P j u->iL (S::wr) Gs s s'->∀(Q:ζ->η->Prop) (E:ζ->η->Prop),Q (.bool (bt i j)) s'->χ (model prog w) A.in1 (jQ .Lt v u) Q E s')
  (hR:∀v s',P (argBest bt (n-1)) v->iL (S::wr) Gs s s'->R (.ok (.ret v)) s'):gI (model prog w) A (.builtin "min.loop" ⟨[.ref I,.none,.ref S],[]⟩) R s:=by
 have hSw:S∉wr:=λh=>hSf (W.sub _ h);have hsub:∀b∈wr,b∈S::wr:=λb hb=>μ _ hb;have hname:(toString "min" ++ toString ".loop":String)="min.loop":=by decide
 have notS:∀{b:ν},b∉S::wr->S≠b:=λhb h=>hb (by rw[h];exact ι);refine cw F.entry_min_loop ?_;rw[cj F.plain_min_loop _];show χ _ A.in1 (seqItems? (.ref S) >>= _) _ _ s;refine γ (bJ hS rfl ?_);show χ _ A.in1 (tryCatch (pyNext (.ref I)) _ >>= _) _ _ s;refine γ (mW (W.item 0 s _ _ hn hst λv s' hP hst' hm=>?_));have hS':=hm.heap S _ hSw hS;show χ _ A.in1 (updateSeq S (λ_=>#[v,v]) >>= _) _ _ _;refine γ ?_;refine fm hS' rfl ?_;rw[hname];have hM3:iL (S::wr) Gs s { s' with heap:=s'.heap.update S (a7 λ_=>#[v,v])}:=(hm.mono hsub).then_heap (tk:=s'.toks) (ρ _) λb o hb e=>(Heap.get?_update_other _ _ (notS hb)).trans e;refine δ ⟨dX F.plain_min_loop _,Ms W bt S hSf s xX _ 0 _ v _ rfl hn (W.frame _ s' _ s'.toks hst' (ρ _) λb hbf o e=>?_) hP (Heap.get?_update_self _ hS' rfl) hM3 λv' s'' hP' hm''=>?_⟩
 ·exact (Heap.get?_update_other _ _ (λh:S=b=>hSf (by rw[h];exact hbf))).trans e
 ·exact hR v' s'' hP' (nr W.gtrans hM3 hm'')
theorem Mq
  (h:χ (model prog w) A.in1 (pyIter x) (λit s₂=>∃I fp wr Gs n P St bt,it=.ref I/\WalksS prog w A.in1 I fp wr Gs n P St/\St 0 s₂/\(∀b∈fp,b<s₂.heap.objs.size)/\0<n ∧
   (∀(i j:Nat) (v u:ζ) (s':η),P i v->P j u->iL wr Gs s₂ s'->∀(Q:ζ->η->Prop) (E:ζ->η->Prop),Q (.bool (bt i j)) s'->χ (model prog w) A.in1 (jQ .Lt v u) Q E s') ∧
   ∀v s',P (argBest bt (n-1)) v->iL wr Gs s₂ s'->Q v s') E s):
  χ (model prog w) A (call (.builtin "min") [x]) Q E s:=by
 have hname:(toString "min" ++ toString ".loop":String)="min.loop":=by decide
 refine call_function_tree F.kind_min F.plain_min F.entry_min (F.args_min1 _) ?_;show χ _ A.in1 (nK "min" ["key","default"] 0 ⟨[],[]⟩ >>= _) _ _ s;refine γ (iT (show nK "min" ["key","default"] 0 ⟨[],[]⟩=pure [none,none] from rfl) ?_);refine γ (δ ?_);refine γ (eY h (λit s₂ h₂=>?_) λ_ _ e=>e);obtain⟨I,fp,wr,Gs,n,P,St,bt,rfl,W,hst,hfp,hn,xX,hQ⟩:=h₂;refine γ (bj ?_);have hSf:s₂.heap.objs.size∉fp:=λhm=>cA _ (hfp _ hm);rw[hname];refine δ ⟨dX F.plain_min_loop _,Mr W bt s₂.heap.objs.size hSf hn (W.frame 0 s₂ _ s₂.toks hst (ρ _) λb _ o e=>Heap.get?_push_of_some _ e) (Heap.get?_push_size _ rfl) (λi j v u s' h1 h2 hm=>xX i j v u s' h1 h2 (iL.drop_new (tk:=s₂.toks) hm (ρ _))) λv s' hP hm=>?_⟩;exact hQ v s' hP (iL.drop_new (tk:=s₂.toks) hm (ρ _))
end
theorem FX(tr:∀i j k,bt i j=true->bt j k=true->bt i k=true)(ir:∀i,bt i i=false):∀n,argBest bt n≤n/\∀j,j≤n->bt j (argBest bt n)=false
 |0=>⟨ρ _,λj hj=>by
  have:j=0:=by lia
  rw[this];exact ir 0⟩
 |n+1=>by
  obtain⟨h1,h2⟩:=FX tr ir n;cases hb:bt (n+1) (argBest bt n) with
  |true=>
   have e:argBest bt (n+1)=n+1:=by simp only[argBest,hb,if_true]
   rw[e];refine⟨ρ _,λj hj=>?_⟩;by_cases ej:j=n+1
   ·rw[ej];exact ir _
   ·cases h:bt j (n+1) with
    |false=>rfl
    |true=>
     have:=h2 j (by lia);rw[tr _ _ _ h hb] at this;cases this
  |false=>
   have e:argBest bt (n+1)=argBest bt n:=by simp only[argBest,hb,eQ,if_false]
   rw[e];refine⟨by lia,λj hj=>?_⟩;by_cases ej:j=n+1
   ·rw[ej];exact hb
   ·exact h2 j (by lia)
end My
namespace L2
open PySem PySem.Spec PyProof.Rows
section
variable {X:Cx} {pins:List (ν×bT)} {σ:St} {H:Hp} {s:η} {a:ν} {y v:V} {u r:ζ} {o:Option V} {A:aQ} {E:ζ->η->Prop}
theorem Inv.yO(I:Inv X pins σ H s):sysModules<s.heap.objs.size:=by
 have h:=(I.mod.glob.keeps I.bk).lt;exact jm (by decide) h
theorem Mp{h':Heap}{t':Nat}{ob:HO}(I:Inv X pins σ H s)(mu:A5 (H a))(hs:Heap.SameBut a s.heap h')(he:∃q,h'.get? a=some q)(new:fk X.prog X.w (upd H a ob) h' a ob):
  Inv X pins σ (upd H a ob) { s with heap:=h',toks:=t' }:=
 I.write (x:=a) (e:=a) mu (.inl rfl) (λb q hb z=>(hs.2 b hb).trans z) he new
end
structure M2(X:Cx)(o:aT)(m:aG)(apos:d9)(e f:aT)(cpos:d9):Prop where
 base:attributeBase o m X.env (eval o X.env)=eval o X.env
 AY:((backTo cpos (bP [e,f] X.env)).all (λx=>!x.1)&&(backToKw cpos (keywordEach [] X.env)).all (λx=>x.1.isSome)
  && decide (([e,f]:List aT).length+([]:List rq).length+(if ([]:List rq).isEmpty then 0 else 1)<30))=true
 line:(apos.endLine==cpos.line)=true
 trees:backTo cpos (bP [e,f] X.env)=[(false,eval e X.env),(false,eval f X.env)]
end L2
namespace L3
open PySem PySem.Spec PyProof.Rows L2 My
def eJ(kss:List (List Int)):D:=.tup (kss.map tupI)
def ra(K:PySem.W.Frag)(H:Hp)(kss:List (List Int))(a:ν):Prop:=∃vs,cR K H a vs/\aU K H (kss.map tupI) vs
theorem ra.ext{K:PySem.W.Frag}(E:Ext H H')(h:ra K H kss a):ra K H' kss a:=by
 obtain⟨vs,h1,h2⟩:=h;exact⟨vs,cR.ext E h1,h2.ext E⟩
theorem xh{K:PySem.W.Frag}(h:Hv K H (eJ kss) v):∃a,v=.ref a/\ra K H kss a:=by
 obtain⟨a,ws,rfl,z1,z2⟩:=mQ h;exact⟨a,rfl,ws,z1,z2⟩
theorem Mo{K:PySem.W.Frag}(h:ra K H kss a):Hv K H (eJ kss) (.ref a):=by
 obtain⟨vs,h1,h2⟩:=h;exact uj h1 h2
theorem Cj{K:PySem.W.Frag}:∀{qs:List (List (List Int)×ν)},(∀p∈qs,ra K H p.1 p.2)->aU K H ((qs.map (·.1)).map eJ) (qs.map λp=>.ref p.2)
 |[],_=>.nil
 |q::qs,h=>.cons (Mo (h q ι)) (Cj λp hp=>h p (μ _ hp))
theorem FW:∀(ps:List (List Int×ν)),(∀p∈ps,cQ.iF P w h p.1 p.2)->cQ.ji P w h (ps.map (·.1)) (ps.map λp=>aw p.2)
 |[],_=>.nil
 |p::ps,hk=>.cons (hk p ι) (FW ps λq hq=>hk q (μ _ hq))
section
variable {X:Cx} {pins:List (ν×bT)} {s:η} {σ:L2.St} {H:Hp}
theorem vV(I:Inv X pins σ H s)(h:ra X.K H kss a):cQ.gC X.prog X.w s.heap kss a:=by
 obtain⟨vs,h1,h2⟩:=h;obtain⟨its,rv,⟨o,ho,hc,n,hd⟩,_⟩:=I.tuple h1;obtain⟨ps,e1,e2,e3,e4⟩:=xw I h2 rv;refine⟨o,its.toArray,n,ho,hc,hd,?_⟩;rw[←e1,e3];exact FW ps λp hp=>(e4 p hp).2
theorem Ci(I:Inv X pins σ H s):∀{nss:List (List (List Int))} {vs:List V} {us:List ζ},aU X.K H (nss.map eJ) vs->bq vs us ->
  ∃ps:List (List (List Int)×ν),ps.map (·.1)=nss/\vs=ps.map (λp=>.ref p.2)/\us=ps.map (λp=>aw p.2)/\∀p∈ps,ra X.K H p.1 p.2/\cQ.gC X.prog X.w s.heap p.1 p.2
 |[],vs,us,h,r=>by
  cases h.kn;cases r;exact⟨[],rfl,rfl,rfl,λp hp=>nomatch hp⟩
 |ns::nss,vs,us,h,r=>by
  obtain⟨v,vr,rfl,q1,q2⟩:=aU.inv (show aU X.K H (eJ ns::nss.map eJ) vs from h);cases r with
  |cons r1 r2=>
   obtain⟨ps,e1,e2,e3,e4⟩:=Ci I q2 r2;obtain⟨a,rfl,z⟩:=xh q1;cases r1;refine⟨(ns,a)::ps,by rw[ay,e1],by rw[ay,e2],by rw[ay,e3],λp hp=>?_⟩;rcases Ψ.mp hp with rfl|hp
   ·exact⟨z,vV I z⟩
   ·exact e4 p hp
theorem Cg:∀(qs:List (List (List Int)×ν)),bq (qs.map λp=>V.ref p.2) (qs.map λp=>aw p.2)
 |[]=>.nil
 |q::qs=>.cons rfl (Cg qs)
def jZ(nss:List (List (List Int))):Prop:=nss.Pairwise λx y=>aR.e8 y x=false
end
section
variable {X:Cx}
def tW(P:ao)(w:aC)(b:ν)(zs:List (List (List Int)×ν)):Heap->Prop:=λh=>∃o es ep t,h.get? b=some o/\o.ExactSet/\o.data=.set es ep t/\es.toList=zs.map (cQ.ZA P w)/\(zs.map (·.1)).Nodup/\t.plain=true ∧
 t.led=(!(w.params.followText "set-order"))/\lP.Tab t (es.toList.map (·.1))
theorem FV:∀x:List (List Int),aR.e8 x x=false:=λx=>by
 cases h:aR.e8 x x with
 |false=>rfl
 |true=>
  have:=aR.oW h;rw[h] at this;cases this
theorem Mn(h1:aR.e8 a b=true)(h2:aR.e8 b c=true):aR.e8 a c=true:=by
 cases h:aR.e8 a c with
 |true=>rfl
 |false=>
  have h3:=aR.oW h1;have:=aR.t5 h h3;rw[h2] at this;cases this
theorem Mm(hc:X.calm=true)(hu:X.A.units+64<cLine):gG X (.builtin "min") (λvs H Q=>∃(a:ν) (xs:List V) (nss:List (List (List Int))),vs=[.ref a]/\fw X.K H a xs/\aU X.K H (nss.map eJ) xs/\0<nss.length/\∀m x,m∈nss->Hv X.K H (eJ m) x->(∀r∈nss,aR.e8 r m=false)->Q x H):=by
 intro pins s σ H vs us Q I r h;obtain⟨a,xs,qs,rfl,hl,hx,h0,q⟩:=h;obtain⟨u,rfl,ru⟩:=vals1 r;cases ru;refine Mq (B6 hc I hl λits I' rv W h1 h2 h3 back=>?_);have h4:its.length=qs.length:=by rw[←rv.length,←hx.length,ε]
 have hg:∀i (hi:i<qs.length),qs.getD i []=qs[i]:=λi hi=>by
  rw[gO,Θ hi];rfl
 have hP:∀(i:Nat) (v:ζ),its[i]?=some v->∃x,Hv X.K H (eJ (qs.getD i [])) x/\RelV x v/\qs.getD i []∈qs:=by
  intro i v hv;have hi:i<qs.length:=by
   have:=(Γ.mp hv).1;lia
  obtain⟨x,z1,z2⟩:=FZ (i:=i) (d:=eJ qs[i]) hx (by rw[ax,Θ hi];rfl);obtain⟨u',z3,z4⟩:=rv.get z1;rw[hv] at z3;cases z3;rw[hg i hi];exact⟨x,z2,z4,lT hi⟩
 refine⟨I',_,_,_,_,_,_,λi j=>aR.e8 (qs.getD i []) (qs.getD j []),rfl,W,⟨h1,h2⟩,h3,by lia,λi j v u s' pv pu hm Q E hq=>?_,λv s' hv hm=>?_⟩
 ·obtain⟨x,a1,a2,_⟩:=hP i v pv;obtain⟨y,b1,b2,_⟩:=hP j u pu;have J:=back s' hm;obtain⟨a',rfl,sa⟩:=xh a1;obtain⟨b',rfl,sb⟩:=xh b1;cases a2;cases b2;obtain⟨oa,ia,na,ea,ca,da,ta⟩:=vV J sa;obtain⟨ob,ib,nb,eb,cb,db,tb⟩:=vV J sb;have hq:Q (.bool (aR.e8 (qs.getD i []) (qs.getD j []))) s':=hq;rw[←aR.yG] at hq;exact (HT.Ag (prog:=X.prog) (w:=X.w) (A:=X.A.in1) (s:=s') ⟨oa,ea,ca,na,da⟩ ⟨ob,eb,cb,nb,db⟩ (HT.rO ta) (HT.rO tb) (by lia) hq:χ _ _ (compareOp .Lt (.ref a') (.ref b')) Q E s')
 ·obtain⟨x,a1,a2,a3⟩:=hP _ v hv;refine⟨x,H,back s' hm,a2,q _ x a3 a1 λr hr=>?_⟩;obtain⟨j,hj,ej⟩:=ft hr;have:=(FX (bt:=λi j=>aR.e8 (qs.getD i []) (qs.getD j [])) (λi j k=>Mn) (λi=>FV _) (its.length-1)).2 j (by lia);rw[hg j hj,ej] at this;exact this
variable{K:PySem.W.Frag}{e:aT}{es:List aT}{t:jK}{ta:cu}{pos p p' pos':d9}
def aao:C3:=λds G Q=>match ds with
 |[.obj a]=>∃nss:List (List (List Int)),G a=some (.lst (nss.map eJ))/\nss.length<64/\(∀ns∈nss,ns≠[])/\∀(p:ν) (mss:List (List (List Int))) (G':Gp),d8 G p (.lst (mss.map eJ)) G'->mss.Perm nss->jZ mss->Q (.obj p) G'
 |_=>False
def zU:C3:=λds G Q=>match ds with
 |[.obj a]=>∃nss:List (List (List Int)),G a=some (.lst (nss.map eJ))/\0<nss.length/\∀m,m∈nss->(∀r∈nss,aR.e8 r m=false)->Q (eJ m) G
 |_=>False
theorem Ml:nR K zU (λvs H Q=>∃(a:ν) (xs:List V) (nss:List (List (List Int))),vs=[.ref a]/\fw K H a xs/\aU K H (nss.map eJ) xs/\0<nss.length/\∀m x,m∈nss->Hv K H (eJ m) x->(∀r∈nss,aR.e8 r m=false)->Q x H):=λds vs G H Q3 Q h RG q k=>by
 rcases ds with _|⟨d,_|⟨d2,ds⟩⟩
 ·exact q.elim
 ·obtain⟨v,rfl,hv⟩:=nO h;cases d with
  |obj a=>
   obtain⟨qs,e1,h0,q⟩:=q;obtain⟨xs,e2,e3⟩:=RG a _ e1;rw[iY hv];exact⟨a,xs,qs,rfl,.of e2,e3,h0,λp x hp hx hm=>k x H (eJ p) G hx (.refl H G) RG (q p hp hm)⟩
  |_=>exact q.elim
 ·cases d<;>exact q.elim
theorem Mk(hu:X.A.units+64<cLine)(hm:X.mg "min" = none)(ha:QA X (e::es) t)(hc:X.calm=true:=by rfl)(hg:Gl X "min":=by rfl)(he:notStar e=true:=by rfl)(hpl:es.all notStar=true:=by rfl):
  QE X (.Call (.Name "min" p) (e::es) [] pos) (du zU t):=⟨qx Ml (qT (Mm hc hu) hg hm rfl ha.of (he:=eU he) (hpl:=k9 hpl))⟩
end
end L3
namespace L3
open PySem PySem.Spec PyProof.Rows L2
section
variable {prog:ao} {w:aC} {A:aQ} {E:ζ->η->Prop} {s:η}
theorem Mj(hl:gK s.heap l vs.toArray)(hz:vs.length≤aA)
  (h:Q vs { s with heap:=(s.heap.push (seqObj "list" #[] 0)).update s.heap.objs.size (a7 (· ++ vs.toArray))}):χ (model prog w) A (collect (.ref l)) Q E s:=by
 obtain⟨o,ho,hc,n,hd⟩:=id hl;refine γ (mY (cw entry_proto_collect' (γ (nT (δ ⟨tU _ (by decide +kernel),cw entry_list_iadd' ?_⟩)))));show χ _ _ (de (.ref s.heap.objs.size) (.ref l) (.ref s.heap.objs.size)) _ _ { s with heap:=s.heap.push (seqObj "list" #[] 0)};have ho':(s.heap.push (seqObj "list" #[] 0)).get? l=some o:=Heap.get?_push_of_some _ ho;refine γ (fx (T:="tuple") ⟨o,ho',hc⟩ ?_);rw[if_pos (by simp)];refine γ (pJ ho' hd (γ (pJ (xs:=#[]) (n:=0) (Heap.get?_push_size _ rfl) rfl ?_)));rw[if_neg (by simp)];refine γ (lG (xs:=#[]) (n:=0) (Heap.get?_push_size _ rfl) rfl ?_ (ar _) (by simp only[Array.size_append,Ω,iO];lia));refine δ (γ (oK (j7 (Heap.get?_push_size _ rfl) _) ?_));show χ _ _ (pure ((#[]:Array ζ)++vs.toArray).toList) Q E _;rw[show ((#[]:Array ζ)++vs.toArray).toList=vs by simp];exact δ h
end
section
variable {X:Cx} {e:aT} {ta:cu} {pos p:d9}
theorem Mi(hc:X.calm=true)(hu:X.A.units+64<cLine):gG X (.builtin "sorted") (λvs H Q=>∃(a:ν) (xs:List V) (nss:List (List Int)),vs=[.ref a]/\cR X.K H a xs/\aU X.K H (nss.map tupI) xs/\nss.length<64/\(∀ns∈nss,ns≠[]) ∧
  ∀(p:ν) (mss:List (List Int)) (ys:List V),H p=none->mss.Perm nss->gX mss->aU X.K H (mss.map tupI) ys->Q (.ref p) (upd H p (.lst ys))):=by
 intro pins s σ H vs us Q I r h;obtain⟨a,xs,nss,rfl,hl,hv,hz,hne,q⟩:=h;obtain⟨u,rfl,ru⟩:=vals1 r;cases ru;obtain⟨its,rv,pl,_⟩:=I.tuple hl;obtain⟨ps,e1,e2,e3,e4⟩:=xw I hv rv;subst e3;have hlen:ps.length=nss.length:=by rw[←e1,ε]
 refine aR.sI (ps:=ps) (λp hp=>⟨(e4 p hp).2,hne _ (by rw[←e1];exact υ.mpr ⟨p,hp,rfl⟩)⟩) (by lia) (λR hR=>?_) λqs s' c D' hS hn hD hm=>?_
 ·refine Mj pl (by rw[ε,cG];lia) (hR _ ⟨λb o _ e=>?_,rfl,rfl,rfl,ρ _⟩);have hlt:=Heap.lt_size e;rw[Heap.get?_update_other _ _ (bL hlt)];exact Heap.get?_push_of_some _ e
 ·refine B7 I (by lia) hS hn hD hm λhf=>?_;exact q _ (qs.map (·.1)) _ hf (by rw[←e1];exact hS.perm.map _) (aO.mpr hS.rise) (zt λp hp=>(e4 p (hS.perm.mem_iff.mp hp)).1)
def vm(ta:cu):cu:=λτ G Q=>ta τ G λx G1=>match x with
 |.tup ds=>∃nss:List (List Int),ds=nss.map tupI/\nss.length<64/\(∀ns∈nss,ns≠[])/\∀(p:ν) (mss:List (List Int)) (G':Gp),d8 G1 p (.lst (mss.map tupI)) G'->mss.Perm nss->gX mss->Q (.obj p) G'
 |_=>False
theorem Mh(hu:X.A.units+64<cLine)(ha:cv X e ta)(hm:X.mg "sorted" = none)(hc:X.calm=true:=by rfl)(hg:Gl X "sorted":=by rfl)(he:notStar e=true:=by rfl):
  cv X (.Call (.Name "sorted" p) [e] [] pos) (vm ta):=
 jJ (qT (Mi hc hu) hg hm rfl (sW ha uk (eU he)) (he:=eU he)) λσ H Q zz=>by
  obtain⟨τ,G,Q3,RS,RG,h,k⟩:=zz;exact⟨τ,G,_,RS,RG,h,λv H1 d G1 h1 S1 R1 q1=>by
  cases d with
  |tup ds=>
   obtain⟨nss,rfl,hz,hne,q⟩:=q1;obtain⟨a,xs,rfl,e1,e2⟩:=mQ h1;exact⟨a,xs,nss,rfl,e1,e2,hz,hne,λp mss ys hp h2 h3 h4=>k _ _ (.obj p) _ qS (S1.trans (.iq hp)) (R1.nN hp h4) (q p mss _ (.mk' (R1.free hp)) h2 h3)⟩
  |_=>exact q1.elim⟩
theorem Mg(hu:X.A.units+64<cLine)(ha:QE X e ta)(hm:X.mg "sorted" = none)(hc:X.calm=true:=by rfl)(hg:Gl X "sorted":=by rfl)(he:notStar e=true:=by rfl):
  QE X (.Call (.Name "sorted" p) [e] [] pos) (vm ta):=⟨Mh hu ha.of hm hc hg he⟩
end
end L3
namespace My
open PySem L2 L3
def gT(cs:List ψ):List (List Int):=cs.map dG
theorem zT(cs:List ψ):a6 cs=eJ (gT cs):=by
 unfold a6 eJ gT;rw[aJ];rfl
theorem vU(css:List (List ψ)):css.map a6=(css.map gT).map eJ:=by
 rw[aJ];refine bB λcs _=>zT cs
theorem Cf(h:gT cs=gT ds):cs=ds:=nG (λa b e=>BQ e) |>.mp h
def yH(c d:ψ):Bool:=!(aR.lx (dG d) (dG c))
def e6(cs:List ψ):List ψ:=cs.mergeSort yH
theorem rF(cs:List ψ):(e6 cs).Perm cs:=List.mergeSort_perm cs yH
theorem FU(cs:List ψ):gX ((e6 cs).map dG):=by
 have h:(e6 cs).Pairwise λa b=>yH a b=true:=by
  refine List.pairwise_mergeSort (λa b c h1 h2=>?_) (λa b=>?_) cs
  ·unfold yH at h1 h2 ⊢;rw[gb] at h1 h2 ⊢;exact aR.vd h1 h2
  ·unfold yH;cases h:aR.lx (dG b) (dG a) with
   |false=>rfl
   |true=>
    rw[aR.sY h];rfl
 unfold gX;rw[aO];refine h.imp λh=>?_;unfold yH at h;rwa [gb] at h
theorem Ce(hp:mss.Perm (cs.map dG))(hr:gX mss):mss=(e6 cs).map dG:=by
 obtain⟨zs,p1,e⟩:=lb hp rfl;subst e;rw[BL (p1.trans (rF cs).symm) hr (FU cs)]
def qW(k:Int)(c:ψ):ψ:=(c.1,(c.2+k)%c.1)
def xP(cs:List ψ)(k:Int):List ψ:=e6 (cs.map (qW k))
def CW(G:Gp)(d:D)(cs:List ψ):Prop:=d=a6 cs∨∃q,d=.obj q/\G q=some (.lst (cs.map cD))
def zS:dh:=λds G Q=>∃(d:D) (cs:List ψ) (k:Int),ds=[d,.int k]/\CW G d cs/\(∀c∈cs,0<c.1)/\cs.length≤60/\∀G',Sub G G'->Q (a6 (xP cs k)) G'
def Mf:au:=bu (du qR (ξ (du xu (ξ (fK ["step","rest"] [1] (gx (θ 0)) (pk 2 (gr (hName 0) (gr (hName 1) (px)))) (dD) (fN (ξ (θ 0) (ξ (aq gq (aq eu (θ 1) (θ 2)) (θ 0)) (ab))))) (ab))) (ab)))
theorem GC{cs:List ψ}(hg:g G)(hp:∀c∈cs,0<c.1)(q:Q ((cs.map (qW k)).map cD) G):
  iE g (pk 2 (gr (hName 0) (gr (hName 1) (px)))) dD (fN (ξ (θ 0) (ξ (aq gq (aq eu (θ 1) (θ 2)) (θ 0)) (ab)))) Q (cs.map cD) [] [none,none,some (.int k)] G:=by
 refine ny (λτ=>∃x y,τ=[x,y,some (.int k)]) cD (λ_=>true) (λc=>cD (qW k c)) (G:=G) hg cs [] _ ⟨none,none,rfl⟩ ?_ ?_
 ·rintro c hm τ K1 K2 ⟨_,_,rfl⟩ g1 g2;exact⟨rfl,λ_=>⟨hp c hm,g1 rfl _ ⟨_,_,rfl⟩⟩,nofun⟩
 ·rw[filter_all,br];rw[aJ] at q;exact q
theorem GB(hl:cs.length≤60)(n1:d8 G p1 (.lst ((cs.map (qW k)).map cD)) G1)(q:∀G',Sub G G'->Q (a6 (xP cs k)) G'):
  ∃nss:List (List Int),G1 p1=some (.lst (nss.map tupI))/\nss.length<64/\(∀ns∈nss,ns≠[])/\∀(p:ν) (mss:List (List Int)) (G':Gp),d8 G1 p (.lst (mss.map tupI)) G'->mss.Perm nss->gX mss->qR [.obj p] G' (aF Q).rt:=by
 refine⟨(cs.map (qW k)).map dG,?_,by rw[ε,ε];lia,λns hn=>?_,λp2 mss G2 n2 hp hr=>?_⟩
 ·rw[n1.at_,aJ (f:=dG)];rfl
 ·obtain⟨c,_,rfl⟩:=υ.mp hn;exact nofun
 ·refine⟨_,n2.at_,?_⟩;rw[Ce hp hr,aJ];exact bZ (q G2 (n1.sub.trans n2.sub))
theorem Me:∀ds G Q,zS ds G Q->Mf (aF Q) (aY ["clocks","number"] ds) G:=by
 rintro ds G Q ⟨d,cs,k,rfl,hd,hp,hl,q⟩;have hz:(cs.map cD).length≤aA:=by rw[ε];exact cH (by lia)
 rcases hd with rfl|⟨q0,rfl,hq⟩
 ·exact⟨hz,GC trivial hp λp1 G1 n1=>GB hl n1 q⟩
 ·exact⟨_,hq,hz,GC hq hp λp1 G1 n1=>GB hl n1 q⟩
def xO(cs:List ψ):List (List ψ):=(Φ (cK cs)).map λx:Nat=>xP cs (x:Int)
def l6(cs m:List ψ):Prop:=m∈xO cs/\∀r∈xO cs,aR.e8 (gT r) (gT m)=false
theorem Md(h:l6 cs m)(h':l6 cs m'):m=m':=by
 refine Cf (aB λe=>?_);have:=aR.wb e (h'.2 m h.1);rw[h.2 m' h'.1] at this;cases this
structure DE(cs:List ψ):Prop where
 ok:kY 1000 cs
 len:cs.length≤12
 cK:cK cs≤10000
def xg:dh:=λds G Q=>∃cs:List ψ,ds=[a6 cs]/\DE cs/\∀m G',l6 cs m->Sub G G'->Q (a6 m) G'
def Mc:au:=bu (du zU (ξ (fK ["number"] [0] (p9 (ξ (aN xm (ξ (θ 0) (ab))) (ab))) (hName 0) (dD) (aN zS (ξ (θ 1) (ξ (θ 0) (ab))))) (ab)))
theorem Mb(um:sp=zS)(h:DE cs)(q:∀m G',l6 cs m->Sub G G'->Q (a6 m) G'):
  (-(2^62)≤((cK cs:Nat):Int)/\((cK cs:Nat):Int)<2^62)/\(kh 0 ((cK cs:Nat):Int).toNat).length≤aA/\iE (λ_=>True) (hName 0) dD (aN sp (ξ (θ 1) (ξ (θ 0) (ab)))) (λacc G1=>∀p G2,d8 G1 p (.lst acc) G2->zU [.obj p] G2 (aF Q).rt) (kh 0 ((cK cs:Nat):Int).toNat) [] [none,some (a6 cs)] G:=by
 subst um;have hr:=h.cK;have h0:=(BN (M:=1000) (cs:=cs) (a:=1) (λc hc=>⟨(h.ok c hc).1.1,(h.ok c hc).2⟩) (by decide)).1;refine⟨⟨by lia,by lia⟩,?_,?_⟩
 ·rw[zX,a9];exact aH hr (by decide)
 rw[a9,vK];refine xn (λes acc τ G'=>∃(dn rs:List Nat) (x:Option D),dn++rs=Φ (cK cs)/\es=rs.map nD/\acc=dn.map (λk:Nat=>a6 (xP cs (k:Int)))/\Sub G G'/\τ=[x,some (a6 cs)]) (λ_ _ _ _ _=>trivial) ?_ ?_ _ _ _ _ ⟨[],_,none,rfl,rfl,rfl,Sub.refl _,rfl⟩
 ·rintro d es acc τ G3 K1 K2 ⟨dn,rs,x,e1,e3,rfl,s1,rfl⟩ g1 g2;cases rs with
  |nil=>cases e3
  |cons k rs=>
   cases e3;exact⟨λ_=>⟨_,cs,(k:Int),rfl,.inl rfl,λc hc=>(h.ok c hc).1.1,by have:=h.len;lia,λG4 s4=>(g1 _ _ _ ⟨dn++[k],rs,_,by rw[Δ];exact e1,rfl,by rw[aP];rfl,s1.trans s4,rfl⟩)⟩,nofun⟩
 ·rintro acc τ G3 ⟨dn,rs,x,e1,e3,rfl,s1,rfl⟩;have e0:rs=[]:=by
   cases rs with
   |nil=>rfl
   |cons z zs=>cases e3
  subst e0;rw[bC] at e1;subst e1;intro p4 G4 n4;have em:((Φ (cK cs)).map λk:Nat=>a6 (xP cs (k:Int)))=((xO cs).map gT).map eJ:=by
   rw[←vU];unfold xO;rw[aJ];rfl
  rw[em] at n4;refine⟨_,n4.at_,?_,λm hm hl=>?_⟩
  ·unfold xO;rwa [ε,ε,bo]
  ·obtain⟨m',hm',rfl⟩:=υ.mp hm;rw[←zT];exact bZ (q m' G4 ⟨hm',λr hr=>hl _ (sy hr)⟩ (s1.trans n4.sub))
theorem Ma:∀ds G Q,xg ds G Q->Mc (aF Q) (aY ["clocks"] ds) G:=by
 rintro ds G Q ⟨cs,rfl,h,q⟩;exact⟨cs,rfl,h.ok,by have:=h.len;lia,Mb rfl h q⟩
def GA:dh:=λds G Q=>∃(cs:List ψ) (c:ψ),ds=[a6 cs,cD c]/\kY 1000 (cs++[c])/\cs.length≤16/\cK (cs++[c])≤10000/\Q (oN (JV cs c)) G
def L9:au:=bu (aN Gj (ξ (θ 1) (ξ (aN BJ (ξ (θ 0) (ξ (aN xm (ξ (aq eu (θ 0) (fN (ξ (θ 1) (ab)))) (ab))) (ab)))) (ξ (eC (.int 0)) (ab)))))
theorem L8:∀ds G Q,GA ds G Q->L9 (aF Q) (aY ["clocks","clock"] ds) G:=by
 rintro ds G Q ⟨cs,c,rfl,ok,hl,hn,q⟩;have hc:=ok c (by simp);refine⟨?_,cs++[c],?_,ok,by simp;lia,cs,cK (cs++[c]),rfl,λz hz=>ok z (aD _ hz),by lia,hn,λp G1 n1=>?_⟩
 ·show (cs.map cD).length+1≤aA;rw[ε];exact cH (by lia)
 ·unfold a6;rw[aP];rfl
 ·exact⟨c,p,fG cs,cK (cs++[c]),0,rfl,n1.at_,hc.1,by lia,hn,sO n1.sub q⟩
def Au(cs:List ψ):Prop:=kY 1000 cs/\cs.length≤16/\cK cs≤10000
def Gz:dh:=λds G Q=>∃cs:List ψ,ds=[a6 cs]/\Au cs/\Q (oN (lh cs)) G
def ML:au:=bu (aN GA (ξ (θ 0) (ξ (fN (ξ (eC (.int 1)) (ξ (eC (.int 0)) (ab)))) (ab))))
theorem MK:∀ds G Q,Gz ds G Q->ML (aF Q) (aY ["clocks"] ds) G:=by
 rintro ds G Q ⟨cs,rfl,⟨ok,hl,hn⟩,q⟩;refine⟨cs,(1,0),rfl,NV ok,hl,by rw[Gi];exact hn,?_⟩;rw[NW];exact bZ q
def tx(cs:List ψ)(c:ψ):Bool:=cs.all λd=>!(decide ((d.2-c.2)%((aW d.1.toNat c.1.toNat:Nat):Int)=0))
def zR:dh:=λds G Q=>∃(cs:List ψ) (c:ψ),ds=[a6 cs,cD c]/\(∀d∈cs,0<d.1)/\0<c.1/\Q (.bl (tx cs c)) G
def MG:au:=gR (bz (aq (dS false) (aq gq (aq rE (θ 3) (aq cB (θ 1) (eC (.int 1)))) (aN vY (ξ (θ 2) (ξ (aq cB (θ 1) (eC (.int 0))) (ab))))) (eC (.int 0)))) (bu (eC (.bl false))) (dB)
def MF:au:=bu (eC (.bl true))
def ME:au:=aS (jd (gx (θ 0)) (pk 2 (gr (hName 2) (gr (hName 3) (px)))) (MG)) MF
theorem MD:∀ds G Q,zR ds G Q->ME (aF Q) (aY ["clocks","clock","step","rest"] ds) G:=by
 rintro ds G Q ⟨cs,c,rfl,hd,hc,q⟩;refine mq (λds τ G'=>∃(rs:List ψ) (x2 x3:Option D),ds=rs.map cD/\tx cs c=tx rs c/\(∀d∈rs,0<d.1)/\τ=[some (a6 cs),some (cD c),x2,x3]/\G'=G) (λ_ _ _ _=>trivial) ?_ ?_ _ _ _ ⟨cs,none,none,rfl,rfl,hd,rfl,rfl⟩
 ·rintro d ds τ G' N ⟨rs,x2,x3,e,ec,hp,rfl,rfl⟩ hN;cases rs with
  |nil=>cases e
  |cons d rs=>
   cases e;obtain⟨s,r⟩:=d;obtain⟨s2,r2⟩:=c;have hs:=hp (s,r) ι;have hs2:=hc;obtain⟨a,rfl⟩:=pW (ju hs);obtain⟨b,rfl⟩:=pW (ju hs2);have hg:0<aW a b:=iA _ (by lia);have ec2:tx cs ((b:Int),r2)=(!(decide ((r-r2)%((aW a b:Nat):Int)=0))&&tx rs ((b:Int),r2)):=ec;refine⟨rfl,_,rfl,_,rfl,a,b,rfl,by lia,_,_,rfl,rfl,ar _,λg=>?_,λg=>?_⟩
   ·have g':(((r-r2)%((aW a b:Nat):Int))==0)=true:=g;rw[beq_iff_eq] at g';rw[decide_eq_true g',Bool.not_true,ie] at ec2;rw[ec2] at q;exact bZ q
   ·have g':=g;have g2:¬(r-r2)%((aW a b:Nat):Int)=0:=λz=>by rw[z] at g';cases g'
    rw[decide_eq_false g2,Bool.not_false,lH] at ec2;exact hN _ _ ⟨rs,_,_,rfl,ec2,λd hd=>hp d (μ _ hd),rfl,rfl⟩
 ·rintro τ G' ⟨rs,x2,x3,e,ec,hp,rfl,rfl⟩;have e0:rs=[]:=by
   cases rs with
   |nil=>rfl
   |cons z zs=>cases e
  subst e0;rw[ec] at q;exact bZ q
def grown(ss:List Int)(cs:List ψ)(x:Int):List (List ψ):=((ss.map λs=>((s,x%s):ψ)).filter (tx cs)).map λc=>cs++[c]
def Gy:dh:=λds G Q=>∃(p:ν) (ss:List Int) (cs:List ψ) (x:Int),ds=[.obj p,a6 cs,.int x]/\G p=some (.lst (ss.map D.int))/\(∀s∈ss,0<s)/\ss.length≤60/\(∀c∈cs,0<c.1)/\cs.length≤100/\∀q G',d8 G q (.lst ((grown ss cs x).map a6)) G'->Q (.obj q) G'
def MC:au:=bu (fK ["clock"] [1] (gx (θ 3)) (hName 0) (bz (aN zR (ξ (θ 1) (ξ (θ 0) (ab))))) (aq eu (θ 1) (fN (ξ (θ 0) (ab)))))
def MB:au:=aS (bK (fK ["step"] [2] (gx (θ 0)) (hName 0) (dD) (fN (ξ (θ 0) (ξ (aq gq (θ 1) (θ 0)) (ab))))) (hName 3)) MC
theorem MA:∀ds G Q,Gy ds G Q->MB (aF Q) (aY ["steps","clocks","number","tried"] ds) G:=by
 rintro ds G Q ⟨p,ss,cs,x,rfl,hp,hs,hl,hc,hcl,q⟩;refine⟨_,hp,by rw[ε];exact cH (by lia),(ny (λτ=>∃y,τ=[y,some (.int x)]) D.int (λ_=>true) (λs=>cD ((s,x%s):ψ)) (G:=G) hp ss [] _ ⟨none,rfl⟩ ?_ ?_)⟩
 ·rintro s hm τ K1 K2 ⟨_,rfl⟩ g1 g2;exact⟨λ_=>⟨hs s hm,g1 rfl _ ⟨_,rfl⟩⟩,nofun⟩
 rw[filter_all,br];intro p3 G3 n3;have e3:G3 p3=some (.lst ((ss.map λs=>((s,x%s):ψ)).map cD)):=by
  rw[n3.at_,aJ];rfl
 refine⟨_,e3,by rw[ε,ε];exact cH (by lia),(ny (λτ=>∃y,τ=[y,some (a6 cs)]) cD (tx cs) (λc=>a6 (cs++[c])) (G:=G3) e3 (ss.map λs=>((s,x%s):ψ)) [] _ ⟨none,rfl⟩ ?_ ?_)⟩
 ·rintro c hm τ K1 K2 ⟨_,rfl⟩ g1 g2;obtain⟨s,hs',rfl⟩:=υ.mp hm;refine⟨cs,_,rfl,hc,hs s hs',λg=>⟨?_,?_⟩,λg=>g2 g _ ⟨_,rfl⟩⟩
  ·show (cs.map cD).length+1≤aA;rw[ε];exact cH (by lia)
  ·have e:a6 (cs++[((s,x%s):ψ)])=.tup (cs.map cD++[cD ((s,x%s):ψ)]):=by
    unfold a6;rw[aP];rfl
   rw[e] at g1;exact g1 g _ ⟨_,rfl⟩
 ·intro p4 G4 n4;have e4:G4 p4=some (.lst ((grown ss cs x).map a6)):=by
   rw[n4.at_,br];unfold grown;rw[aJ];rfl
  exact bZ (q p4 G4 ⟨n3.sub.of_none n4.aE,n3.sub.trans n4.sub,e4⟩)
def xM(cs:List ψ):Bool:=cs.all (λc=>decide (0<c.1)&&decide (0≤c.2)&&decide (c.2<c.1)&&decide (c.1≤1000))&&decide (cs.length≤16)&&decide (cK cs≤10000)
def pg(ss:List Int):Nat->List ψ->Bool
 |0,_=>false
 |f+1,cs=>xM cs&&match lh cs with
  |none=>true
  |some x=>(grown ss cs (x:Int)).all (pg ss f)
def lj(ss:List Int):Nat->List ψ->List (List ψ)
 |0,_=>[]
 |f+1,cs=>match lh cs with
  |none=>[cs]
  |some x=>(grown ss cs (x:Int)).flatMap (lj ss f)
theorem Gx(h:xM cs=true):Au cs:=by
 unfold xM at h;simp only[aM,decide_eq_true_eq,cZ] at h;refine⟨λc hc=>?_,h.1.2,h.2⟩;have:=h.1.1 c hc;exact⟨⟨this.1.1.1,this.1.1.2,this.1.2⟩,this.2⟩
def zQ(n:Nat):dh:=λds G Q=>∃(p:ν) (ss:List Int) (cs:List ψ),ds=[.obj p,a6 cs]/\G p=some (.lst (ss.map D.int))/\(∀s∈ss,0<s)/\ss.length≤60/\pg ss n cs=true/\(lj ss n cs).length≤1000/\∀q G',d8 G q (.lst ((lj ss n cs).map a6)) G'->Q (.obj q) G'
theorem Mz:∀ds G Q,¬zQ 0 ds G Q:=by
 rintro ds G Q ⟨_,_,_,_,_,_,_,h,_⟩;cases h
def Y3(n:Nat):au:=pY (eM Cp (θ 3) (ξ (aN (zQ n) (ξ (θ 0) (ξ (θ 4) (ab)))) (ab)))
def Y2(n:Nat):au:=bu (θ 3)
def Y1(n:Nat):au:=aS (jd (gx (aN Gy (ξ (θ 0) (ξ (θ 1) (ξ (θ 2) (ab)))))) (hName 4) ((Y3 n))) (Y2 n)
def Y0(n:Nat):au:=aS (bK (kW (ab)) (hName 3)) (Y1 n)
def YZ(n:Nat):au:=aS (gR (bz (aq (qt false) (θ 2) (eC .aE))) (bu (kW (ξ (θ 1) (ab)))) (dB)) (Y0 n)
def YY(n:Nat):au:=aS (bK (aN Gz (ξ (θ 1) (ab))) (hName 2)) (YZ n)
theorem YX(n:Nat):∀ds G Q,zQ (n+1) ds G Q->YY n (aF Q) (aY ["steps","clocks","number","found","grown"] ds) G:=by
 rintro ds G Q ⟨p,ss,cs,rfl,hp,hs,hl,ho,hx,q⟩;have ho':(xM cs&&match lh cs with
  |none=>true
  | some x=>(grown ss cs (x:Int)).all (pg ss n))=true:=ho
 have hx':(match lh cs with
  |none=>[cs]
  | some x=>(grown ss cs (x:Int)).flatMap (lj ss n)).length≤1000:=hx
 have q':∀q G',d8 G q (.lst ((match lh cs with
  |none=>[cs]
  | some x=>(grown ss cs (x:Int)).flatMap (lj ss n)).map a6)) G'->Q (.obj q) G':=q
 rw[aM] at ho';obtain⟨hc,ho'⟩:=ho';have hR:=Gx hc;refine⟨cs,rfl,hR,?_⟩;cases hm:lh cs with
 |none=>
  rw[hm] at q';exact⟨λ_ p1 G1 n1=>bZ (q' p1 G1 n1),nofun⟩
 |some x=>
  rw[hm] at q' ho' hx';have hx':((grown ss cs (x:Int)).flatMap (lj ss n)).length≤1000:=hx';refine⟨nofun,λ_ p3 G3 n3=>⟨p,ss,cs,(x:Int),rfl,n3.sub _ _ hp,hs,hl,λc hc=>(hR.1 c hc).1.1,by have:=hR.2.1;lia,λp4 G4 n4=>⟨_,n4.at_,?_⟩⟩⟩;have Dv:p4≠p3:=λz=>by
   have:=n4.aE;rw[z,n3.at_] at this;cases this
  rw[cZ] at ho';refine mq (λds τ G'=>∃(dn rs:List (List ψ)) (x4:Option D),dn++rs=grown ss cs (x:Int)/\ds=rs.map a6/\τ=[some (.obj p),some (a6 cs),some (.int (x:Nat)),some (.obj p3),x4]/\d8 G p3 (.lst ((dn.flatMap (lj ss n)).map a6)) G'/\G' p4=some (.lst ((grown ss cs (x:Int)).map a6))) (λ_ _ _ h=>?_) ?_ ?_ _ _ _ ⟨[],grown ss cs (x:Int),none,rfl,rfl,rfl,⟨n3.aE,n3.sub.trans n4.sub,n4.sub _ _ n3.at_⟩,n4.at_⟩
  ·obtain⟨_,_,_,_,_,_,_,h⟩:=h;exact h
  ·rintro d ds τ G5 N ⟨dn,rs,x4,e1,e2,rfl,n5,e5⟩ hN;cases rs with
   |nil=>cases e2
   |cons g rs=>
    cases e2;have hg:g∈grown ss cs (x:Int):=by
     rw[←e1];exact aj _ ι
    have hlen:(dn.flatMap (lj ss n)).length+(lj ss n g).length≤1000:=by
     rw[←e1,sD,List.flatMap_cons,π,π] at hx';lia
    refine⟨⟨p3,_,rfl,n5.at_⟩,p,ss,g,rfl,n5.sub _ _ hp,hs,hl,ho' g hg,by lia,λq6 G6 n6=>?_⟩;have h6:=n6.sub _ _ n5.at_;refine⟨_,_,h6,n6.at_,cH (by rw[ε,ε];lia),hN _ _ ⟨dn++[g],rs,_,by rw[Δ];exact e1,rfl,rfl,⟨n5.aE,Sub.wQ (n5.sub.trans n6.sub) n5.aE,?_⟩,?_⟩⟩
    ·rw[oh,sD,aP];simp
    ·rw[mR Dv];exact n6.sub _ _ e5
  ·rintro τ G5 ⟨dn,rs,x4,e1,e2,rfl,n5,e5⟩;have e0:rs=[]:=by
    cases rs with
    |nil=>rfl
    |cons z zs=>cases e2
   subst e0;rw[bC] at e1;subst e1;exact bZ (q' p3 G5 n5)
def dA(n:Nat):List Int:=((Φ n).map λk:Nat=>((k+1:Nat):Int)).filter λs=>(n:Int)%s==0
def raw(n:Nat):List (List ψ):=lj (dA n) 40 []
def dH:Nat:=9690712164777231700912800
theorem YW:∀s:Fin 61,s.val=0∨dH%s.val=0:=by decide +kernel
theorem Cd(h1:1≤s)(h2:s≤60):s∣dH:=by
 rcases YW ⟨s,by lia⟩ with h|h
 ·lia
 ·exact qG h
theorem uH:0<dH:=by decide +kernel
def pA(cs:List ψ):Prop:=∀c∈cs,Valid c/\c.1≤60
theorem pA.lam(h:pA cs):∀c∈cs,Valid c/\c.1.toNat∣dH:=λc hc=>by
 obtain⟨h1,h2⟩:=h c hc;have:=h1.1;exact⟨h1,Cd (by lia) (by lia)⟩
theorem YV(h:Valid c/\c.1≤60)(n:Int):ck n c=rg (((n%(dH:Nat)).toNat:Nat):Int) c:=by
 have hp:(0:Int)<(dH:Nat):=by have:=uH;lia
 rw[bp (cF _ (by lia)),←qP h.1];have e:=cE n (dH:Nat);conv=>lhs;rw[show n=n%(dH:Nat)+(dH:Nat)*(n / (dH:Nat)) by lia]
 exact F1 (Cd (by have:=h.1.1;lia) (by have:=h.2;lia)) h.1.1 _ _
theorem Cc(h:pA cs)(n:Int):(cs.filter (ck n)).length=fG cs (n%(dH:Nat)).toNat:=congrArg bM (fi λc hc=>YV (h c hc) n)
def Ap(a b:ψ):Prop:=∀n:Int,¬(ck n a=true/\ck n b=true)
theorem Ap.symm(h:Ap a b):Ap b a:=λn z=>h n ⟨z.2,z.1⟩
theorem bez:∀a b:Nat,∃x y:Int,(a:Int)*x+(b:Int)*y=((aW a b:Nat):Int):=by
 intro a b
 induction a,b using aW.induction with
 |H0 n=>exact⟨0,1,by simp⟩
 |H1 m n hm ih=>
  obtain⟨x,y,e⟩:=ih;refine⟨y-((n / m:Nat):Int)*x,x,?_⟩;rw[qF,←e];have e2:((n%m:Nat):Int)=(n:Int)-(m:Int)*((n / m:Nat):Int):=by
   have:=j8 n m;have h3:((n%m+m*(n / m):Nat):Int)=(n:Int):=by rw[this]
   rw[fU,cU] at h3;lia
  rw[e2,gv,Int.sub_mul,ba];lia
theorem Gw(hd:0<d.1)(hc:0<c.1):(¬(d.2-c.2)%((aW d.1.toNat c.1.toNat:Nat):Int)=0)↔Ap d c:=by
 constructor
 ·intro h n ⟨h1,h2⟩;refine h (dg ?_);have g1:((aW d.1.toNat c.1.toNat:Nat):Int)∣d.1:=by
   have:=a8.mpr (gi d.1.toNat c.1.toNat);rwa [bp (ju hd)] at this
  have g2:((aW d.1.toNat c.1.toNat:Nat):Int)∣c.1:=by
   have:=a8.mpr (fh d.1.toNat c.1.toNat);rwa [bp (ju hc)] at this
  have e1:=d0 g1 (bO.mp h1);have e2:=d0 g2 (bO.mp h2);have:=fC e2 e1;rwa [show n-c.2-(n-d.2)=d.2-c.2 by lia] at this
 ·intro h e;obtain⟨k,hk⟩:=ff e;obtain⟨x,y,hb⟩:=bez d.1.toNat c.1.toNat;rw[bp (ju hd),bp (ju hc)] at hb;refine h (d.2-d.1*(x*k)) ⟨bO.mpr ?_,bO.mpr ?_⟩
  ·rw[show d.2-d.1*(x*k)-d.2=d.1*(-(x*k)) by rw[Int.mul_neg];lia];exact bx _ _
  ·rw[←hb,Int.add_mul,ba,ba] at hk;rw[show d.2-d.1*(x*k)-c.2=c.1*(y*k) by lia];exact bx _ _
theorem uG(hd:∀d∈cs,0<d.1)(hc:0<c.1):tx cs c=true↔∀d∈cs,Ap d c:=by
 unfold tx;rw[cZ];constructor
 ·intro h d hm;refine (Gw (hd d hm) hc).mp λe=>?_;have:=h d hm;rw[decide_eq_true e] at this;cases this
 ·intro h d hm;rw[decide_eq_false ((Gw (hd d hm) hc).mpr (h d hm))];rfl
theorem Cb:∀{l:List Nat},(∀v∈l,1≤v)->l.length≤l.sum
 |[],_=>ρ _
 |v::l,h=>by
  have h1:=h v ι;have h2:=Cb λw hw=>h w (μ _ hw);rw[ai,bQ];lia
theorem Gv:∀{l:List Nat},(∀v∈l,v≤1)->l.sum≤l.length
 |[],_=>ρ _
 |v::l,h=>by
  have h1:=h v ι;have h2:=Gv λw hw=>h w (μ _ hw);rw[ai,bQ];lia
theorem Gu:∀{l:List Nat},(∀v∈l,v≤1)->l.length≤l.sum->∀v∈l,v=1
 |[],_,_=>λv hv=>nomatch hv
 |v::l,h,hs=>by
  have h1:=h v ι;have hl:=λw hw=>h w (μ _ hw);have h2:=Gv hl;rw[ai,bQ] at hs;intro w hw;rcases Ψ.mp hw with rfl|hw
  ·lia
  ·exact Gu hl (by lia) w hw
theorem YU{cs:List ψ}(h:pA cs)(ht:fM cs dH<dH):∃x:Nat,x<dH/\∀c∈cs,ck (x:Int) c=false:=by
 have hs:=vW uH h.lam;cases hf:(Φ dH).find? (λx=>fG cs x==0) with
 |some x=>
  have h1:=iP hf;have h2:=fL hf;refine⟨x,az.mp h2,λc hc=>?_⟩;have h3:(cs.filter (rg x)).length=0:=eq_of_beq h1;have h4:=d7.mp (fb.mp h3) c hc;rw[qP (h c hc).1];simpa using h4
 |none=>
  exfalso;have h1:(List.map (fG cs) (Φ dH)).length≤(List.map (fG cs) (Φ dH)).sum:=Cb λv hv=>by
   obtain⟨x,hx,rfl⟩:=υ.mp hv;have:=eN.mp hf x hx;have:fG cs x≠0:=λe=>this (by rw[e];rfl);lia
  rw[hs,ε,bo] at h1;lia
theorem Ca:∀{cs:List ψ} (n:Int),cs.Pairwise Ap->(cs.filter (ck n)).length≤1
 |[],_,_=>ar _
 |c::cs,n,h=>by
  have h':=dm.mp h;have ih:=Ca n h'.2;by_cases hc:ck n c=true
  ·rw[fc hc];have:=d7.mpr λd hd e=>h'.1 d hd n ⟨hc,e⟩;rw[this];exact ρ _
  ·rw[gd hc];exact ih
theorem B9{cs:List ψ}(h:pA cs)(ha:cs.Pairwise Ap)(ht:fM cs dH=dH):iS cs:=λn=>by
 have hs:=vW uH h.lam;rw[Cc h n];have hlt:(n%(dH:Nat)).toNat<dH:=by
  have hp:=uH;have:=bV n (show (0:Int)<(dH:Nat) by lia);lia
 refine Gu (l:=(Φ dH).map (fG cs)) (λv hv=>?_) (by rw[hs,ht,ε,bo];exact ρ _) _ (υ.mpr ⟨_,az.mpr hlt,rfl⟩);obtain⟨x,hx,rfl⟩:=υ.mp hv;have h1:=Ca (x:Int) ha;rw[Cc h] at h1;have e:((x:Int)%(dH:Nat)).toNat=x:=by
  have:=az.mp hx;rw[f7 (by lia) (by lia)];lia
 rwa [e] at h1
theorem Gr:∀{cs:List ψ},(∀n:Int,(cs.filter (ck n)).length≤1)->cs.Pairwise Ap
 |[],_=>.nil
 |c::cs,h=>by
  refine dm.mpr ⟨λd hd n ⟨h1,h2⟩=>?_,Gr λn=>?_⟩
  ·have:=h n;rw[fc h1,ai] at this;have h3:=fz (aI.mpr ⟨hd,h2⟩);lia
  ·have:=h n;by_cases hc:ck n c=true
   ·rw[fc hc,ai] at this;lia
   ·rw[gd hc] at this;exact this
theorem FH(h:pA cs)(ho:iS cs):fM cs dH=dH:=by
 rw[←vW uH h.lam];have e:(Φ dH).map (fG cs)=bF dH 1:=mi.mpr ⟨by rw[ε,bo],λb hb=>by
  obtain⟨x,hx,rfl⟩:=υ.mp hb;have h1:=ho (x:Int);rw[Cc h] at h1;have e:((x:Int)%(dH:Nat)).toNat=x:=by
   have:=az.mp hx;rw[f7 (by lia) (by lia)];lia
  rwa [e] at h1⟩
 rw[e,lA,iV]
def jc(ss:List Int):Nat:=(ss.map λs=>dH / s.toNat).sum
theorem vT(cs:List ψ):fM cs dH=jc (cs.map (·.1)):=by
 unfold fM jc;rw[aJ];rfl
theorem YT(as bs:List Int):jc (as++bs)=jc as+jc bs:=by
 unfold jc;rw[aP,kc]
theorem FG(h:as.Perm bs):jc as=jc bs:=(h.map _).sum_nat
theorem YS(h:∀s∈ss,1≤s/\s≤60)(hne:ss≠[]):0<jc ss:=by
 cases ss with
 |nil=>exact absurd rfl hne
 |cons s ss=>
  obtain⟨h1,h2⟩:=h s ι;have:0<dH / s.toNat:=Nat.div_pos (fE uH (Cd (by lia) (by lia))) (by lia);unfold jc;rw[ay,bQ];lia
def lQ(cs:List ψ)(ss:List Int):Prop:=∃rs:List ψ,(rs.map (·.1)).Perm ss/\(∀c∈rs,Valid c)/\(cs++rs).Pairwise Ap
structure Fl(cs:List ψ)(ss:List Int):Prop where
 ok:pA cs
 st:∀s∈ss,1≤s/\s≤60
 ap:cs.Pairwise Ap
 sum:fM cs dH+jc ss=dH
theorem Fl.miss(h:Fl cs ss)(hne:ss≠[]):∃x:Nat,x<dH/\∀c∈cs,ck (x:Int) c=false:=
 YU h.ok (by have:=YS h.st hne;have:=h.sum;lia)
theorem BF{as:List ψ}(h:as.Perm bs):as.Pairwise Ap↔bs.Pairwise Ap:=h.pairwise_iff λ{a b} z=>z.symm
theorem Fl.once(h:Fl cs ss)(hp:(rs.map (·.1)).Perm ss)(hv:∀c∈rs,Valid c)(ha:(cs++rs).Pairwise Ap):pA (cs++rs)/\iS (cs++rs):=by
 have h60:pA (cs++rs):=λc hc=>by
  rcases aa.mp hc with z|z
  ·exact h.ok c z
  ·exact⟨hv c z,(h.st c.1 (hp.mem_iff.mp (υ.mpr ⟨c,z,rfl⟩))).2⟩
 refine⟨h60,B9 h60 ha ?_⟩;rw[vT,aP,YT,FG hp,←vT];exact h.sum
theorem Fl.step(h:Fl cs ss)(hi:ss[i]?=some c.1)(hv:Valid c)(hc:∀d∈cs,Ap d c):Fl (cs++[c]) (ss.take i++ss.drop (i+1)):=by
 have hp:(c.1::(ss.take i++ss.drop (i+1))).Perm ss:=by
  obtain⟨hl,e⟩:=Γ.mp hi;have:ss=ss.take i++c.1::ss.drop (i+1):=by rw[←e,fA,a0]
  conv=>rhs;rw[this]
  exact (fI).symm
 have hc1:=h.st c.1 (av hi);refine⟨λd hd=>?_,λs hs=>h.st s (hp.mem_iff.mp (μ _ hs)),?_,?_⟩
 ·rcases aa.mp hd with z|z
  ·exact h.ok d z
  ·rw[ah.mp z];exact⟨hv,hc1.2⟩
 ·refine Ξ.mpr ⟨h.ap,bE _ _,λa ha b hb=>?_⟩;rw[ah.mp hb];exact hc a ha
 ·have e1:=FG hp;have e2:jc (c.1::(ss.take i++ss.drop (i+1)))=dH / c.1.toNat+jc (ss.take i++ss.drop (i+1)):=by
   unfold jc;rw[ay,bQ]
  have e3:fM (cs++[c]) dH=fM cs dH+dH / c.1.toNat:=by
   unfold fM;rw[aP,kc];simp
  have:=h.sum;lia
theorem zP(h:1≤s):Valid (s,x%s):=⟨by show 0<s;lia,cF _ (by lia),bV _ (by lia)⟩
theorem FF(s:Int):∀ss:List Int,s∉ss.take (ss.idxOf s)
 |[]=>by simp
 |a::ss=>by
  by_cases h:a=s
  ·subst h;rw[List.idxOf_cons_self];simp
  ·rw[List.idxOf_cons,show (a==s)=false by simpa using h,cond_false,List.take_succ_cons,Ψ];rintro (e|e)
   ·exact h e.symm
   ·exact FF s ss e
theorem FE{cs:List ψ}{ss:List Int}(h:Fl cs ss)(hne:ss≠[]){x:Int}(hx:∀c∈cs,ck x c=false):
  lQ cs ss↔∃(i:Nat) (s:Int),ss[i]?=some s/\s∉ss.take i/\(∀d∈cs,Ap d (s,x%s))/\lQ (cs++[(s,x%s)]) (ss.take i++ss.drop (i+1)):=by
 constructor
 ·rintro⟨rs,hp,hv,ha⟩;obtain⟨h60,ho⟩:=h.once hp hv ha;obtain⟨c,hc⟩:=i7 (show 0<((cs++rs).filter (ck x)).length by rw[ho x];decide);obtain⟨hm,hr⟩:=aI.mp hc;have hcr:c∈rs:=by
   rcases aa.mp hm with z|z
   ·rw[hx c z] at hr;cases hr
   ·exact z
  have hcv:=hv c hcr;have ec:c=(c.1,x%c.1):=by
   rw[qP hcv] at hr;have:x%c.1=c.2:=eq_of_beq hr;rw[this]
  have hms:c.1∈ss:=hp.mem_iff.mp (υ.mpr ⟨c,hcr,rfl⟩);refine⟨ss.idxOf c.1,c.1,?_,?_,?_,?_⟩
  ·rw[Θ (pP.mpr hms),tP]
  ·exact FF _ _
  ·rw[←ec];intro d hd;exact (Ξ.mp ha).2.2 d hd c hcr
  ·rw[←ec];have h1:rs.Perm (c::rs.erase c):=jF hcr;refine⟨rs.erase c,?_,λd hd=>hv d (md hd),?_⟩
   ·have hi:ss[ss.idxOf c.1]?=some c.1:=by rw[Θ (pP.mpr hms),tP]
    obtain⟨hl,e⟩:=Γ.mp hi;have e2:ss=ss.take (ss.idxOf c.1)++c.1::ss.drop (ss.idxOf c.1+1):=by
     conv=>lhs;rw[←a0 (ss.idxOf c.1) ss,←fA hl,e]
    have h2:(c.1::(rs.erase c).map (·.1)).Perm (c.1::(ss.take (ss.idxOf c.1)++ss.drop (ss.idxOf c.1+1))):=by
     refine ((h1.map (·.1)).symm.trans hp).trans ?_;conv=>lhs;rw[e2]
     exact fI
    exact h2.cons_inv
   ·refine (BF ?_).mp ha;rw[Δ];exact h1.append_left cs
 ·rintro⟨i,s,hi,_,hc,rs,hp,hv,ha⟩;refine⟨(s,x%s)::rs,?_,λd hd=>?_,?_⟩
  ·rw[ay];obtain⟨hl,e⟩:=Γ.mp hi;have e2:ss=ss.take i++s::ss.drop (i+1):=by rw[←e,fA,a0]
   conv=>rhs;rw[e2]
   exact (hp.cons s).trans fI.symm
  ·rcases Ψ.mp hd with rfl|hd
   ·exact zP (h.st s (av hi)).1
   ·exact hv d hd
  ·rw[Δ] at ha;exact ha
theorem YR(cs:List ψ)(h:cs.Pairwise Ap):lQ cs []:=⟨[],.nil,λc hc=>(nomatch hc),by rw[bC];exact h⟩
def Ad(p:Nat):Nat->Nat->Nat
 |0,_=>1
 |k+1,n=>if n%p=0 then p*Ad p k (n / p) else 1
def xV(N:Nat):List Nat:=(([2,3,5,7,11,13,17,19,23,29,31,37,41,43,47,53,59]:List Nat).filter λp=>N%p==0).map λp=>dH / Ad p 10 dH*(Ad p 10 N / p)
def Ar:List Nat->List Nat
 |[]=>[0]
 |h::hs=>Ar hs++(Ar hs).map (h+·)
def yU:List Nat->List Nat
 |[]=>[]
 |h::hs=>yU hs++(Ar hs).map (h+·)
def CY(N:Nat):Bool:=!(xV N).isEmpty&&((Φ N).all λs=>s==0||(xV N).any λh=>h%s==0)&&(yU (xV N)).all λz=>!(z%N==0)
theorem YQ:∀N:Fin 61,N.val<2∨CY N.val=true:=by decide +kernel
def dl:List Nat->(Int->Int)->Int->Int
 |[],f,x=>f x
 |h::hs,f,x=>dl hs f x-dl hs f (x+(h:Int))
theorem zO(f g:Int->Int):∀(hs:List Nat) (x:Int),dl hs (λy=>f y+g y) x=dl hs f x+dl hs g x
 |[],_=>rfl
 |h::hs,x=>by
  show dl hs _ x-dl hs _ (x+h)=_;rw[zO f g hs,zO f g hs];show _=dl hs f x-dl hs f (x+h)+(dl hs g x-dl hs g (x+h));lia
theorem BE(hf:∀x,f (x+k)=f x):∀(hs:List Nat) (x:Int),dl hs f (x+k)=dl hs f x
 |[],x=>hf x
 |h::hs,x=>by
  show dl hs f (x+k)-dl hs f (x+k+h)=dl hs f x-dl hs f (x+h);rw[BE hf hs,show x+k+(h:Int)=x+h+k by lia,BE hf hs]
theorem zN:∀{hs:List Nat} {h:Nat},h∈hs->(∀x,f (x+(h:Int))=f x)->∀x,dl hs f x=0
 |h::hs,k,hm,hf,x=>by
  show dl hs f x-dl hs f (x+h)=0;rcases Ψ.mp hm with rfl|hm
  ·rw[BE hf];lia
  ·rw[zN hm hf,zN hm hf];rfl
theorem zM:∀{hs:List Nat} {x:Int},(∀z∈Ar hs,f (x+(z:Int))=0)->dl hs f x=0
 |[],x,h=>by
  have:=h 0 ι;rwa [show x+((0:Nat):Int)=x by lia] at this
 |k::hs,x,h=>by
  show dl hs f x-dl hs f (x+k)=0;rw[zM λz hz=>h z (aD _ hz),zM (x:=x+k) λz hz=>?_]
  ·rfl
  ·have:=h (k+z) (aj _ (υ.mpr ⟨z,hz,rfl⟩));rwa [show x+((k+z:Nat):Int)=x+k+z by lia] at this
theorem FD:∀{hs:List Nat} {x:Int},(∀z∈yU hs,f (x+(z:Int))=0)->dl hs f x=f x
 |[],x,h=>rfl
 |k::hs,x,h=>by
  show dl hs f x-dl hs f (x+k)=f x;rw[FD λz hz=>h z (aD _ hz),zM (x:=x+k) λz hz=>?_]
  ·lia
  ·have:=h (k+z) (aj _ (υ.mpr ⟨z,hz,rfl⟩));rwa [show x+((k+z:Nat):Int)=x+k+z by lia] at this
def rI(c:ψ)(x:Int):Int:=if ck x c=true then 1 else 0
def cI(cs:List ψ)(x:Int):Int:=((cs.filter (ck x)).length:Nat)
theorem FC(c:ψ)(cs:List ψ):cI (c::cs)=λx=>rI c x+cI cs x:=by
 funext x;unfold cI rI;by_cases h:ck x c=true
 ·rw[fc h,if_pos h,ai];lia
 ·rw[gd h,if_neg h];lia
theorem FA:∀{cs:List ψ},(∀c∈cs,∀x,dl hs (rI c) x=0)->∀x,dl hs (cI cs) x=0
 |[],_,x=>zM λ_ _=>rfl
 |c::cs,h,x=>by
  rw[FC,zO,h c ι,FA (λd hd=>h d (μ _ hd))];rfl
theorem YO(hd:c.1∣h)(x:Int):rI c (x+h)=rI c x:=by
 unfold rI;have:ck (x+h) c=ck x c:=by
  rw[cV,bO,bO];constructor
  ·intro z;have:=fC z hd;rwa [show x+h-c.2-h=x-c.2 by lia] at this
  ·intro z;have:=lC z hd;rwa [show x-c.2+h=x+h-c.2 by lia] at this
 rw[this]
theorem Jw(h60:pA (c::cs))(ho:iS (c::cs))(h1:1<c.1)(hlt:∀d∈cs,d.1<c.1):False:=by
 obtain⟨hv,h6⟩:=h60 c ι;have hk:CY c.1.toNat=true:=by
  rcases YQ ⟨c.1.toNat,by lia⟩ with h|h
  ·lia
  ·exact h
 unfold CY at hk;rw[aM,aM] at hk;obtain⟨⟨k1,k2⟩,k3⟩:=hk;have e1:dl (xV c.1.toNat) (cI (c::cs)) c.2=0:=by
  have:cI (c::cs)=λ_=>1:=by
   funext x;unfold cI;rw[ho x];rfl
  rw[this];cases hh:xV c.1.toNat with
  |nil=>rw[hh] at k1;cases k1
  |cons h hs=>exact zN (h:=h) ι (λ_=>rfl) _
 rw[FC,zO] at e1;have e2:dl (xV c.1.toNat) (rI c) c.2=1:=by
  rw[FD λz hz=>?_]
  ·unfold rI;rw[if_pos qu]
  ·have hz':=cZ.mp k3 z hz;unfold rI;rw[if_neg λe=>?_];have d:=bO.mp e;rw[show c.2+(z:Int)-c.2=(z:Int) by lia] at d;have d':c.1.toNat∣z:=by
    have:((c.1.toNat:Nat):Int)∣(z:Int):=by rw[bp (by lia)];exact d
    exact a8.mp this
   rw[Nat.mod_eq_zero_of_dvd d'] at hz';cases hz'
 have e3:dl (xV c.1.toNat) (cI cs) c.2=0:=FA (λd hd x=>by
  obtain⟨dv,d6⟩:=h60 d (μ _ hd);have dl':=hlt d hd;have dp:=dv.1;have:=cZ.mp k2 d.1.toNat (az.mpr (by lia));rw[Bool.or_eq_true] at this;rcases this with h|h
  ·lia
  ·obtain⟨k,hk,hm⟩:=jH.mp h;refine zN hk (λy=>YO ?_ y) x;have:=qG (eq_of_beq hm);have:=a8.mpr this;rwa [bp (by lia)] at this) _
 lia
def uy(ss:List Int)(vs:List ψ):Prop:=vs.map (·.1)=ss/\(∀c∈vs,Valid c)/\vs.Pairwise Ap
def DH(ws vs:List ψ):Prop:=∃(as:List ψ) (s a b:Int) (bs cs:List ψ),ws=as++(s,a)::bs/\vs=as++(s,b)::cs/\a<b
theorem Fz(h:DH ws vs):aR.e8 (gT ws) (gT vs)=true:=by
 obtain⟨as,s,a,b,bs,cs,rfl,rfl,hab⟩:=h;unfold gT;rw[aP,aP]
 induction as with
 |nil=>
  show (if ([s,a]:List Int)=[s,b] then _ else aR.lx [s,a] [s,b])=true;rw[if_neg (by intro e;injection e with _ e;injection e with e _;lia)];show (if s=s then (if a=b then _ else decide (a<b)) else _)=true;rw[if_pos rfl,if_neg (by lia),decide_eq_true hab]
 |cons c as ih=>
  show (if dG c=dG c then _ else _)=true;rwa [if_pos rfl]
structure yk(ss:List Int)(j:Nat)(ws:List ψ):Prop where
 st:ws.map (·.1)=ss.take j
 fl:Fl ws (ss.drop j)
 fill:lQ ws (ss.drop j)
 least:∀vs,uy ss vs->vs.take j=ws∨DH ws vs
theorem YN(h:uy ss vs)(j:Nat):lQ (vs.take j) (ss.drop j):=by
 obtain⟨h1,h2,h3⟩:=h;refine⟨vs.drop j,?_,λc hc=>h2 c (cg hc),by rw[a0];exact h3⟩;rw[←h1,nW]
theorem yk.next(L:yk ss j ws)(hs:ss[j]?=some s)(hv:Valid (s,r))(hc:∀d∈ws,Ap d (s,r))(hf:lQ (ws++[(s,r)]) (ss.drop (j+1)))
  (hl:∀r':Int,0≤r'->r' < r->¬((∀d∈ws,Ap d (s,r'))/\lQ (ws++[(s,r')]) (ss.drop (j+1)))):yk ss (j+1) (ws++[(s,r)]):=by
 have hj:=(Γ.mp hs).1;have hd0:(ss.drop j)[0]?=some (s,r).1:=by rw[dM];exact hs
 refine⟨?_,?_,hf,λvs ha=>?_⟩
 ·rw[aP,L.st,oC,hs];rfl
 ·have:=L.fl.step hd0 hv hc;rwa [kQ,br,kR] at this
 ·rcases L.least vs ha with h|⟨as,t,a,b,bs,cs,e1,e2,hab⟩
  ·have hvj:j<vs.length:=by
    have:=congrArg bM ha.1;rw[ε] at this;lia
   have hvs:=Θ hvj;obtain⟨t,b,e⟩:∃t b,vs[j]=(t,b):=⟨_,_,rfl⟩;rw[e] at hvs;have et:t=s:=by
    have h2:(vs.map (·.1))[j]?=some t:=by rw[ax,hvs];rfl
    rw[ha.1,hs] at h2;exact (aL h2).symm
   subst et;have htk:vs.take (j+1)=ws++[(t,b)]:=by rw[oC,h,hvs];rfl
   have hb:=ha.2.1 (t,b) (av hvs);have hfb:=YN ha (j+1);rw[htk] at hfb;have hap:=λd hd=>by
    have h3:(vs.take (j+1)).Pairwise Ap:=ha.2.2.sublist (ee _ _);rw[htk] at h3;exact (Ξ.mp h3).2.2 d hd _ ι
   have hrb:=λz=>hl b hb.2.1 z ⟨hap,hfb⟩;by_cases e2:r=b
   ·subst e2;exact .inl htk
   ·refine .inr ⟨ws,t,r,b,[],vs.drop (j+1),rfl,?_,by lia⟩;conv=>lhs;rw[←a0 (j+1) vs,htk]
    rw[Δ];rfl
  ·exact .inr ⟨as,t,a,b,bs++[(s,r)],cs,by rw[e1,Δ];rfl,e2,hab⟩
structure vE(ss:List Int)(ws:List ψ):Prop where
 yf:uy ss ws
 once:iS ws
 D5:pA ws
 least:∀vs,uy ss vs->vs=ws∨DH ws vs
theorem yk.done(L:yk ss ss.length ws):vE ss ws:=by
 have e:=L.st;rw[lS] at e;have hf:=L.fl;rw[List.drop_length] at hf;have hv:=λc hc=>(hf.ok c hc).1;refine⟨⟨e,hv,hf.ap⟩,B9 hf.ok hf.ap (by have:=hf.sum;simpa [jc] using this),hf.ok,λvs ha=>?_⟩;have:=L.least vs ha;have hl:vs.take ss.length=vs:=cP (by rw[←ha.1,ε];exact ρ _);rwa [hl] at this
theorem Fy(h:vE ss ws)(ha:uy ss vs):aR.e8 (gT vs) (gT ws)=false:=by
 rcases h.least vs ha with rfl|hb
 ·exact FV _
 ·exact aR.oW (Fz hb)
theorem YM{s:Int}{ss:List Int}{vs:List ψ}(h:uy (s::ss) vs):lQ [(s,0)] ss:=by
 obtain⟨h1,h2,h3⟩:=h;cases vs with
 |nil=>cases h1
 |cons c vs=>
  obtain⟨t,r⟩:=c;have e1:t=s:=(nX h1).1;have e2:vs.map (·.1)=ss:=(nX h1).2;subst e1;have hm:∀d:ψ,0<d.1->∀n:Int,ck n (qW (-r) d)=ck (n+r) d:=λd hd n=>by
   rw[cV,bO,bO];show d.1∣n-(d.2 + -r)%d.1↔d.1∣n+r-d.2;have e:=cE (d.2 + -r) d.1;have z:d.1∣d.1*((d.2 + -r) / d.1):=bx _ _;constructor
   ·intro h;have:=fC h z;rwa [show n-(d.2 + -r)%d.1-d.1*((d.2 + -r) / d.1)=n+r-d.2 by lia] at this
   ·intro h;have:=lC h z;rwa [show n+r-d.2+d.1*((d.2 + -r) / d.1)=n-(d.2 + -r)%d.1 by lia] at this
  have hpos:∀d∈(t,r)::vs,0<d.1:=λd hd=>(h2 d hd).1;have hc0:qW (-r) (t,r)=(t,0):=by
   show (t,(r + -r)%t)=(t,0);rw[show r + -r=0 by lia,Int.zero_emod]
  refine⟨vs.map (qW (-r)),?_,λd hd=>?_,?_⟩
  ·rw[aJ,←e2];exact .refl _
  ·obtain⟨d,hd',rfl⟩:=υ.mp hd;have hp:=hpos d (μ _ hd');exact⟨hp,cF _ (by lia),bV _ hp⟩
  ·have:([(t,0)]:List ψ)++vs.map (qW (-r))=((t,r)::vs).map (qW (-r)):=by
    rw[ay,hc0];rfl
   rw[this,aO];refine c5 (λ{a b} ha hb hap n hn=>?_) h3;rw[hm a (hpos a ha),hm b (hpos b hb)] at hn;exact hap _ hn
def Fx:dh:=λds G Q=>∃cs:List ψ,ds=[a6 cs]/\(∀c∈cs,Valid c)/\cs.length≤1000/\(∃x:Nat,∀c∈cs,ck (x:Int) c=false)/\∀(x:Nat) G',Sub G G'->(∀c∈cs,ck (x:Int) c=false)->Q (.int (x:Nat)) G'
def YL:au:=Bc 1 (eC (.int 1)) AI
def YK:au:=bu (θ 1)
def YJ:au:=aS (uZ (bz (aq (dS true) (aN GL (ξ (θ 0) (ξ (θ 1) (ab)))) (kW (ab)))) (YL)) YK
def YI:au:=aS (bK (eC (.int 0)) (hName 1)) YJ
theorem YH:∀ds G Q,Fx ds G Q->YI (aF Q) (aY ["clocks","number"] ds) G:=by
 rintro ds G Q ⟨cs,rfl,hv,hl,⟨x,hx⟩,q⟩;refine⟨λm τ G'=>Sub G G'/\∃k:Nat,k+m=x/\τ=[some (a6 cs),some (.int (k:Nat))],⟨x,Sub.refl _,0,by lia,rfl⟩,?_⟩;rintro m τ G' ⟨s1,k,hk,rfl⟩;refine⟨cs,(k:Int),rfl,λc hc=>(hv c hc).1,hl,λp1 G1 n1=>?_⟩;intro p2 G2 n2;refine⟨_,_,qQ (n2.sub _ _ n1.at_) (qv _),qQ n2.at_ (qv []),BW _,λh=>?_,λh=>?_⟩
 ·have h':=h;rw[xk] at h';have hne:cs.filter (rg (k:Int))≠[]:=by simpa using h'
  refine⟨m-1,?_,s1.trans (n1.sub.trans n2.sub),k+1,?_,rfl⟩
  ·have:m≠0:=λz=>hne (d7.mpr λc hc e=>by
    rw[←qP (hv c hc),show (k:Int)=(x:Int) by lia,hx c hc] at e;cases e)
   lia
  ·have:m≠0:=λz=>hne (d7.mpr λc hc e=>by
    rw[←qP (hv c hc),show (k:Int)=(x:Int) by lia,hx c hc] at e;cases e)
   lia
 ·have h':=h;rw[xk] at h';have he:cs.filter (rg (k:Int))=[]:=by simpa using h'
  refine bZ (q k _ (s1.trans (n1.sub.trans n2.sub)) λc hc=>?_);rw[qP (hv c hc)];simpa using d7.mp he c hc
def xf(n:Nat):dh:=λds G Q=>∃(cs:List ψ) (ss:List Int),ds=[a6 cs,tupI ss]/\Fl cs ss/\cs.length+ss.length≤12/\ss.length<n/\∀(b:Bool) G',Sub G G'->(b=true↔lQ cs ss)->Q (.bl b) G'
theorem YG:∀ds G Q,¬xf 0 ds G Q:=by
 rintro ds G Q ⟨cs,ss,_,_,_,h,_⟩;lia
def Fw(n:Nat):au:=gR (tp (bz (aq (lJ true) (θ 4) (vn (θ 1) (oE) (nc (θ 3))))) (bz (aN zR (ξ (θ 0) (ξ (θ 5) (ab)))))) (gR (bz (aN (xf n) (ξ (aq eu (θ 0) (fN (ξ (θ 5) (ab)))) (ξ (aq eu (vn (θ 1) (oE) (nc (θ 3))) (vn (θ 1) (nc (aq eu (θ 3) (eC (.int 1)))) (oE))) (ab))))) (bu (eC (.bl true))) (dB)) (dB)
def YF(n:Nat):au:=aS (bK (fN (ξ (θ 4) (ξ (aq gq (θ 2) (θ 4)) (ab)))) (hName 5)) (Fw n)
def YE(n:Nat):au:=bu (eC (.bl false))
def YD(n:Nat):au:=aS (jd (Aj (ξ (θ 1) (ab))) (pk 2 (gr (hName 3) (gr (hName 4) (px)))) ((YF n))) (YE n)
def Zd(n:Nat):au:=aS (bK (aN Fx (ξ (θ 0) (ab))) (hName 2)) (YD n)
def Zc(n:Nat):au:=aS (gR (bz (aq (dS false) (du k8 (ξ (θ 1) (ab))) (eC (.int 0)))) (bu (eC (.bl true))) (dB)) (Zd n)
theorem Zb{α:Type}:∀{ss:List α} {k:Nat} {z:Nat×α} {zs:List (Nat×α)},((Φ ss.length).zip ss).drop k=z::zs->z.1=k/\ss[k]?=some z.2/\((Φ ss.length).zip ss).drop (k+1)=zs:=by
 intro ss k z zs h;have h0:((Φ ss.length).zip ss)[k]?=some z:=by
  have:=dM (xs:=(Φ ss.length).zip ss) (i:=k) (j:=0);rw[h] at this;exact this.symm
 have h1:((Φ ss.length).zip ss).drop (k+1)=zs:=by
  rw[←kR,h];rfl
 obtain⟨ha,hb⟩:=gZ.mp h0;have hk:=(Γ.mp hb).1;rw[jU hk] at ha;exact⟨(aL ha).symm,hb,h1⟩
theorem Fv(ss:List Int)(k:Nat):iy (ss.map D.int) none (some (k:Int))=(ss.take k).map D.int:=by rw[xo,GK]
theorem Fu(ss:List Int)(k:Nat):iy (ss.map D.int) (some ((k:Int)+1)) none=(ss.drop (k+1)).map D.int:=by
 rw[xo,show ((k:Int)+1)=((k+1:Nat):Int) by lia,BS]
theorem Za{n:Nat}{Q:V3}{D3:rU}{G:Gp}{cs:List ψ}{ss:List Int}{x:Nat}{k:Nat}{s:Int}(h:Fl cs ss)(hl:cs.length+ss.length≤12)(hn:ss.length<n+1)(hx:∀c∈cs,ck (x:Int) c=false)(hk:ss[k]?=some s)
  (CQ:∀G',Sub G G'->s∉ss.take k->(∀d∈cs,Ap d (s,(x:Int)%s))->lQ (cs++[(s,(x:Int)%s)]) (ss.take k++ss.drop (k+1))->D3.rt (.bl true) G')
  (ko:∀G',Sub G G'->¬(s∉ss.take k/\(∀d∈cs,Ap d (s,(x:Int)%s))/\lQ (cs++[(s,(x:Int)%s)]) (ss.take k++ss.drop (k+1)))->D3.nx [some (a6 cs),some (tupI ss),some (.int (x:Nat)),some (nD k),some (.int s),some (cD (s,(x:Int)%s))] G'):
  Fw n D3 [some (a6 cs),some (tupI ss),some (.int (x:Nat)),some (nD k),some (.int s),some (cD (s,(x:Int)%s))] G:=by
 have hs:=h.st s (av hk);have hpos:∀d∈cs,0<d.1:=λd hd=>(h.ok d hd).1.1;have hkl:=(Γ.mp hk).1;have hlen:(ss.take k++ss.drop (k+1)).length+1=ss.length:=by
  rw[π,aZ,aX];lia
 refine⟨.int s,(ss.take k).map Dat.D.int,rfl,.inr ?_,by rw[Mt];decide,?_⟩
 ·show iD G (.tup (iy (ss.map D.int) none (some (k:Int))))=_;rw[Fv];exact Mu _
 rw[FY];refine⟨λh1=>?_,λh1=>⟨nofun,λ_=>ko G (Sub.refl _) λz=>?_⟩⟩
 rotate_left
 ·have h1':(!decide (s∈ss.take k))=false:=h1;rw[decide_eq_false z.1] at h1';cases h1'
 have h1':s∉ss.take k:=by
  have:(!decide (s∈ss.take k))=true:=h1;simpa using this
 refine⟨cs,(s,(x:Int)%s),rfl,hpos,by show 0<s;lia,λh2=>?_,λh2=>ko G (Sub.refl _) λz=>?_⟩
 rotate_left
 ·rw[(uG hpos (by show 0<s;lia)).mpr z.2.1] at h2;cases h2
 have hap:=(uG hpos (by show 0<s;lia)).mp h2;have hv:Valid (s,(x:Int)%s):=zP hs.1;show ((cs.map cD).length+[cD (s,(x:Int)%s)].length≤aA)/\_;refine⟨by rw[ε];exact cH (by simp;lia),?_⟩;show ((iy (ss.map D.int) none (some (k:Int))).length+(iy (ss.map D.int) (some ((k:Int)+1)) none).length≤aA)/\_;rw[Fv,Fu,←π,←aP];refine⟨by rw[ε];exact cH (by lia),cs++[(s,(x:Int)%s)],ss.take k++ss.drop (k+1),?_,h.step hk hv hap,?_,by lia,λb G1 s1 hb=>⟨λe=>?_,λe=>?_⟩⟩
 ·show [D.tup (cs.map cD++[cD (s,(x:Int)%s)]),D.tup ((ss.take k++ss.drop (k+1)).map D.int)]=[D.tup ((cs++[(s,(x:Int)%s)]).map cD),_];rw[aP (f:=cD)];rfl
 ·rw[π,c9];lia
 ·exact CQ G1 s1 h1' hap (hb.mp e)
 ·refine ko G1 s1 λz=>?_;rw[hb.mpr z.2.2] at e;cases e
theorem Y9(n:Nat):∀ds G Q,xf (n+1) ds G Q->Zc n (aF Q) (aY ["clocks","steps","number","place","step","clock"] ds) G:=by
 rintro ds G Q ⟨cs,ss,rfl,h,hl,hn,q⟩;refine⟨_,_,rfl,rfl,ar _,λh0=>?_,λh0=>?_⟩
 ·have h0':=h0;have:ss=[]:=by
   have:=eq_of_beq h0';rw[ε] at this;exact fb.mp (by lia)
  subst this;exact bZ (q true G (Sub.refl _) ⟨λ_=>YR cs h.ap,λ_=>rfl⟩)
 have h0':=h0;have hne:ss≠[]:=λz=>by
  subst z;exact absurd h0' (by decide)
 obtain⟨x0,_,hx0⟩:=h.miss hne;refine⟨cs,rfl,λc hc=>(h.ok c hc).1,by lia,⟨x0,hx0⟩,λx G1 s1 hx=>⟨ss.map D.int,rfl,?_⟩⟩;rw[NP D.int ss];refine mq (λds τ G'=>∃k,ds=(((Φ ss.length).zip ss).drop k).map (λp=>D.tup [nD p.1,D.int p.2])/\Sub G1 G'/\(∀(i:Nat) (s:Int),i<k->ss[i]?=some s->¬(s∉ss.take i/\(∀d∈cs,Ap d (s,(x:Int)%s))/\lQ (cs++[(s,(x:Int)%s)]) (ss.take i++ss.drop (i+1)))) ∧
  ∃x3 x4 x5,τ=[some (a6 cs),some (tupI ss),some (.int (x:Nat)),x3,x4,x5]) (λ_ _ _ _=>rfl) ?_ ?_ _ _ _ ⟨0,rfl,Sub.refl _,λi s hi=>absurd hi (gJ _),none,none,none,rfl⟩
 ·rintro d ds τ G2 N ⟨k,e,s2,ko,x3,x4,x5,rfl⟩ hN;cases hz:((Φ ss.length).zip ss).drop k with
  |nil=>rw[hz] at e;cases e
  |cons z zs=>
   rw[hz] at e;cases e;obtain⟨z1,z2,z3⟩:=Zb hz;obtain⟨j,s⟩:=z;subst z1;have hs:=h.st s (av z2);refine⟨rfl,by show 0<s;lia,Za (Q:=Q) h hl hn hx z2 (λG3 s3 a b c=>bZ (q true G3 (s1.trans (s2.trans s3)) ⟨λ_=>(FE h hne hx).mpr ⟨j,s,z2,a,b,c⟩,λ_=>rfl⟩)) λG3 s3 hn3=>hN _ _ ⟨j+1,by rw[z3],s2.trans s3,λi t hi ht=>?_,_,_,_,rfl⟩⟩;rcases tL i j with hlt|hge
   ·exact ko i t hlt ht
   ·have:i=j:=by lia
    subst this;rw[z2] at ht;cases ht;exact hn3
 ·rintro τ G2 ⟨k,e,s2,ko,x3,x4,x5,rfl⟩;have hz:((Φ ss.length).zip ss).drop k=[]:=by
   cases hz:((Φ ss.length).zip ss).drop k with
   |nil=>rfl
   |cons z zs=>rw[hz] at e;cases e
  have hk:ss.length≤k:=by
   have:=congrArg bM hz;rw[aX,mJ,bo] at this;simp at this;lia
  refine bZ (q false G2 (s1.trans s2) ⟨nofun,λhf=>?_⟩);obtain⟨i,s,a,b⟩:=(FE h hne hx).mp hf;exact absurd b (ko i s (by have:=(Γ.mp a).1;lia) a)
def Good(ws:List ψ)(s:Int)(ss:List Int)(r:Int):Prop:=(∀d∈ws,Ap d (s,r))/\lQ (ws++[(s,r)]) ss
theorem Y8(h:lQ ws (s::ss)):∃r,Valid (s,r)/\Good ws s ss r:=by
 obtain⟨rs,hp,hv,ha⟩:=h;obtain⟨c,hc,e⟩:=υ.mp (hp.mem_iff.mpr ι);obtain⟨t,r⟩:=c;subst e;have h1:=jF hc;refine⟨r,hv _ hc,λd hd=>(Ξ.mp ha).2.2 d hd _ hc,rs.erase (t,r),?_,λd hd=>hv d (md hd),?_⟩
 ·have h2:=(h1.map (λc:ψ=>c.1)).symm.trans hp;exact h2.cons_inv
 ·refine (BF ?_).mp ha;rw[Δ];exact h1.append_left ws
def Ft:dh:=λds G Q=>∃(ws:List ψ) (s:Int) (ss:List Int),ds=[a6 ws,.int s,tupI ss]/\Fl ws (s::ss)/\lQ ws (s::ss)/\ws.length+ss.length≤11 ∧
 ∀r G',Sub G G'->Valid (s,r)->Good ws s ss r->(∀r',0≤r'->r' < r->¬Good ws s ss r')->Q (cD (s,r)) G'
def Y7:au:=gR (tp (bz (aN zR (ξ (θ 0) (ξ (θ 4) (ab))))) (bz (aN (xf 40) (ξ (aq eu (θ 0) (fN (ξ (θ 4) (ab)))) (ξ (θ 2) (ab)))))) (bu (θ 4)) (dB)
def Y6:au:=aS (bK (fN (ξ (θ 1) (ξ (θ 3) (ab)))) (hName 4)) Y7
def Y5:au:=bu (eC .aE)
def Y4:au:=aS (jd (p9 (ξ (θ 1) (ab))) (hName 3) (Y6)) Y5
theorem range_drop(h:(Φ n).drop k=z::zs):z=k/\k<n/\(Φ n).drop (k+1)=zs:=by
 have hk:k<n:=by
  have:=congrArg bM h;rw[aX,bo,ai] at this;lia
 have e:=dz (l:=Φ n) (i:=k) (by rw[bo];exact hk);rw[h,List.getElem_range] at e;injection e with e1 e2;exact⟨e1,hk,e2.symm⟩
theorem Fl.one(h:Fl ws (s::ss))(hv:Valid (s,r))(ha:∀d∈ws,Ap d (s,r)):Fl (ws++[(s,r)]) ss:=h.step (i:=0) rfl hv ha
theorem Ys:∀ds G Q,Ft ds G Q->Y4 (aF Q) (aY ["clocks","step","steps","rest","clock"] ds) G:=by
 rintro ds G Q ⟨ws,s,ss,rfl,h,hf,hl,q⟩;have hs:=h.st s ι;have hpos:=λd hd=>(h.ok d hd).1.1;refine⟨⟨by lia,by lia⟩,?_⟩;rw[vK];refine mq (λds τ G'=>∃k:Nat,ds=((Φ s.toNat).drop k).map nD/\Sub G G'/\(∀r':Int,0≤r'->r' < (k:Int)->¬Good ws s ss r')/\∃x3 x4,τ=[some (a6 ws),some (.int s),some (tupI ss),x3,x4]) (λ_ _ _ _=>trivial) ?_ ?_ _ _ _ ⟨0,rfl,Sub.refl _,λr' a b=>by lia,none,none,rfl⟩
 ·rintro d ds τ G2 N ⟨k,e,s2,ko,x3,x4,rfl⟩ hN;cases hz:(Φ s.toNat).drop k with
  |nil=>rw[hz] at e;cases e
  |cons z zs=>
   rw[hz] at e;cases e;obtain⟨rfl,hk,rfl⟩:=range_drop hz;have hv:Valid (s,(z:Int)):=⟨by lia,by lia,by lia⟩;have next:∀G3,Sub G2 G3->¬Good ws s ss (z:Int)->N [some (a6 ws),some (.int s),some (tupI ss),some (nD z),some (cD (s,(z:Int)))] G3:=λG3 s3 hg=>hN _ _ ⟨z+1,rfl,s2.trans s3,λr' a b=>by
    by_cases e:r'=(z:Int)
    ·rw[e];exact hg
    ·exact ko r' a (by lia),_,_,rfl⟩
   refine⟨ws,(s,(z:Int)),rfl,hpos,hv.1,λh2=>?_,λh2=>⟨nofun,λ_=>next G2 (Sub.refl _) λhg=>?_⟩⟩
   rotate_left
   ·rw[(uG hpos hv.1).mpr hg.1] at h2;cases h2
   have hap:=(uG hpos hv.1).mp h2;refine⟨by rw[ε];exact cH (by simp;lia),ws++[(s,(z:Int))],ss,?_,h.one hv hap,?_,by lia,λb G3 s3 hb=>⟨λe=>?_,λe=>?_⟩⟩
   ·show [D.tup (ws.map cD++[cD (s,(z:Int))]),tupI ss]=[D.tup ((ws++[(s,(z:Int))]).map cD),tupI ss];rw[aP (f:=cD)];rfl
   ·rw[π,c9];lia
   ·exact bZ (q z G3 (s2.trans s3) hv ⟨hap,hb.mp e⟩ ko)
   ·refine next G3 s3 λhg=>?_
    rw[hb.mpr hg.2] at e;cases e
 ·rintro τ G2 ⟨k,e,s2,ko,x3,x4,rfl⟩;exfalso;have hk:s.toNat≤k:=by
   have:=congrArg bM e;rw[ε,aX,bo] at this;simp at this;lia
  obtain⟨r,hv,hg⟩:=Y8 hf;exact ko r hv.2.1 (by have:r<s:=hv.2.2;lia) hg
def zC(ss:List Int):List ψ:=ss.map λs=>((s,0):ψ)
theorem Yr(h:pA cs):(sJ cs=1/\sL cs=1)↔fM cs dH=dH:=by
 have hp:=BH λz hz=>(h z hz).1.1;have hd:cK cs∣dH:=Hk (Nat.one_dvd _) λc hc=>(h.lam c hc).2;obtain⟨b,hb⟩:=hd;have hb0:0<b:=Nat.pos_of_ne_zero λz=>by
  have:=uH;rw[hb,z] at this;lia
 have e:fM cs dH=b*fM cs (cK cs):=by
  have key:∀ds:List ψ,(∀c∈ds,0<c.1/\c.1.toNat∣cK cs)->fM ds dH=b*fM ds (cK cs):=by
   intro ds
   induction ds with
   |nil=>intro _;rfl
   |cons c ds ih=>
    intro hc;obtain⟨c0,a,ha⟩:=hc c ι;have i:=ih λd hd=>hc d (μ _ hd);have t1:∀R,fM (c::ds) R=R / c.1.toNat+fM ds R:=λR=>by
     unfold fM;rw[ay,bQ]
    rw[t1,t1,i,nq];congr 1;rw[hb,ha,jL,kU _ (by lia),kU _ (by lia),dE]
  exact key cs λc hc=>⟨(h c hc).1.1,BI hc⟩
 rw[e,hb];unfold sJ sL;constructor
 ·rintro⟨h1,h2⟩;have d1:=Nat.div_mul_cancel (gi (fM cs (cK cs)) (cK cs));have d2:=Nat.div_mul_cancel (fh (fM cs (cK cs)) (cK cs));rw[h1] at d1;rw[h2] at d2;rw[dE (cK cs) b];congr 1;lia
 ·intro h1;rw[dE (cK cs) b] at h1;have h2:=oQ hb0 h1;rw[h2,Nat.gcd_self];exact⟨tM hp,tM hp⟩
def Fs:dh:=λds G Q=>∃ss:List Int,ds=[tupI ss]/\ss≠[]/\ss.length≤12/\(∀s∈ss,1≤s/\s≤60)/\∀G',Sub G G'->(jc ss≠dH->Q .aE G')/\((¬∃vs,uy ss vs)->Q .aE G')/\(jc ss=dH->∀ws,vE ss ws->Q (a6 ws) G')
def Yq:au:=bK (aq eu (θ 1) (fN (ξ (aN Ft (ξ (θ 1) (ξ (aq cB (θ 0) (θ 2)) (ξ (vn (θ 0) (nc (aq eu (θ 2) (eC (.int 1)))) (oE)) (ab))))) (ab)))) (hName 1)
def Yp:au:=bu (θ 1)
def Fq:au:=aS (jd (p8 (ξ (eC (.int 1)) (ξ (du k8 (ξ (θ 0) (ab))) (ab)))) (hName 2) (Yq)) Yp
def Yo:au:=aS (gR (wg (bz (aN (xf 40) (ξ (θ 1) (ξ (vn (θ 0) (nc (eC (.int 1))) (oE)) (ab)))))) (bu (eC .aE)) (dB)) Fq
def Yn:au:=aS (bK (fN (ξ (fN (ξ (aq cB (θ 0) (eC (.int 0))) (ξ (eC (.int 0)) (ab)))) (ab))) (hName 1)) Yo
def Ym:au:=aS (gR (bz (aq (dS true) (aN BM (ξ (du qR (ξ (fK ["step"] [] (gx (θ 0)) (hName 0) (dD) (fN (ξ (θ 0) (ξ (eC (.int 0)) (ab))))) (ab))) (ab))) (fN (ξ (eC (.int 1)) (ξ (eC (.int 1)) (ab)))))) (bu (eC .aE)) (dB)) Yn
theorem Yl(h:∀s∈ss,1≤s/\s≤60):pA (zC ss):=λc hc=>by
 obtain⟨s,hs,rfl⟩:=υ.mp hc;have:=h s hs;exact⟨⟨by show 0<s;lia,by show (0:Int)≤0;decide,by show 0<s;lia⟩,this.2⟩
theorem Yk(ss:List Int):fM (zC ss) dH=jc ss:=by
 rw[vT];unfold zC;rw[aJ];congr 1;exact qI ss
theorem Yj(hl:ss.length≤12)(h1:1≤ss.length)(L:yk ss 1 ws)(q:∀ws G',Sub G G'->vE ss ws->Q (a6 ws) G'):
  Fq (aF Q) [some (tupI ss),some (a6 ws),x2] G:=by
 have hlm:(ss.map D.int).length=ss.length:=ε _;show (_/\_/\-(2^62)≤(((ss.map D.int).length:Nat):Int)/\(((ss.map D.int).length:Nat):Int)<2^62)/\oI _ _ _ _ (kh 1 ((((ss.map D.int).length:Nat):Int)-1).toNat) _ _;rw[hlm];refine⟨⟨by decide,by decide,by lia,by lia⟩,?_⟩;have en:(((ss.length:Nat):Int)-1).toNat=ss.length-1:=by lia
 rw[en];have er:kh 1 (ss.length-1)=(Φ (ss.length-1)).map λi:Nat=>nD (i+1):=bB λi _=>by
  show D.int (1+(i:Int))=D.int ((i+1:Nat):Int);rw[show (1:Int)+(i:Int)=((i+1:Nat):Int) by lia]
 rw[er];refine mq (λds τ G'=>∃k:Nat,ds=((Φ (ss.length-1)).drop k).map (λi:Nat=>nD (i+1))/\Sub G G'/\k≤ss.length-1/\∃ws x2,yk ss (k+1) ws/\τ=[some (tupI ss),some (a6 ws),x2]) (λ_ _ _ _=>trivial) ?_ ?_ _ _ _ ⟨0,rfl,Sub.refl _,ar _,ws,x2,L,rfl⟩
 ·rintro d ds τ G2 N ⟨k,e,s2,hk,ws,x2,L,rfl⟩ hN;cases hz:(Φ (ss.length-1)).drop k with
  |nil=>rw[hz] at e;cases e
  |cons z zs=>
   rw[hz] at e;cases e;obtain⟨rfl,hk,rfl⟩:=range_drop hz;have hs:ss[z+1]?=some (ss[z+1]'(by lia)):=Θ (by lia);obtain⟨s,es⟩:∃s,ss[z+1]'(by lia)=s:=⟨_,rfl⟩;rw[es] at hs;have hdr:ss.drop (z+1)=s::ss.drop (z+2):=by rw[←fA (by lia),es]
   have hwl:ws.length=z+1:=by
    have:=congrArg bM L.st;rw[ε,aZ] at this;lia
   have hfl:=L.fl;have hfi:=L.fill;rw[hdr] at hfl hfi;refine⟨.int s,uM (by rw[ax,hs];rfl),ws,s,ss.drop (z+2),?_,hfl,hfi,?_,λr G3 s3 hv hg hleast=>?_⟩
   ·rw[Fu];rfl
   ·rw[aX];lia
   refine⟨by rw[ε];exact cH (by simp;lia),hN _ _ ⟨z+1,rfl,s2.trans s3,by lia,ws++[(s,r)],some (nD (z+1)),L.next hs hv hg.1 hg.2 hleast,?_⟩⟩
   show _=[some (tupI ss),some (D.tup ((ws++[(s,r)]).map cD)),_];rw[aP (f:=cD)];rfl
 ·rintro τ G2 ⟨k,e,s2,hk,ws,x2,L,rfl⟩;have tf:k=ss.length-1:=by
   have:=congrArg bM e;rw[ε,aX,bo] at this;simp at this;lia
  subst tf;rw[show ss.length-1+1=ss.length by lia] at L;exact bZ (q ws G2 s2 L.done)
theorem Yi:∀ds G Q,Fs ds G Q->Ym (aF Q) (aY ["steps","clocks","place"] ds) G:=by
 rintro ds G Q ⟨ss,rfl,hne,hl,h60,q⟩;refine⟨by rw[ε];exact cH (by lia),(ny (λτ=>∃x,τ=[x]) D.int (λ_=>true) (λs:Int=>cD (s,0)) (G:=G) trivial ss [] _ ⟨none,rfl⟩ ?_ ?_)⟩
 ·rintro s hm τ K1 K2 ⟨x,rfl⟩ h1 h2;exact⟨λ_=>h1 rfl _ ⟨_,rfl⟩,nofun⟩
 intro p1 G1 n1;have e1:([]:List D)++(ss.filter λ_=>true).map (λs:Int=>cD (s,0))=(zC ss).map cD:=by
  rw[br,MR];unfold zC;rw[aJ];rfl
 rw[e1] at n1;have hz:=Yl h60;refine⟨_,n1.at_,zC ss,rfl,λc hc=>⟨(hz c hc).1,by have:=(hz c hc).2;lia⟩,by unfold zC;rw[ε];exact hl,?_⟩;have hsh:=Yr hz;rw[Yk] at hsh;refine⟨_,_,rfl,rfl,rj rfl,λh=>bZ ((q G1 n1.sub).1 λe=>?_),λh=>?_⟩
 ·obtain⟨a,b⟩:=hsh.mpr e;have h':=h;rw[a,b] at h';exact absurd h' (by decide)
 have hsum:=hsh.mp (by
  have h':(!((((sJ (zC ss):Nat):Int)==1)&&((((sL (zC ss):Nat):Int)==1)&&true)))=false:=h;rw[kK,aM,aM,beq_iff_eq,beq_iff_eq] at h';exact⟨by lia,by lia⟩)
 cases ss with
 |nil=>exact absurd rfl hne
 |cons s ss=>
  have hs:=h60 s ι;have hv:Valid (s,0):=⟨by show 0<s;lia,by show (0:Int)≤0;decide,by show 0<s;lia⟩;have hfl:Fl [(s,0)] ss:=by
   have h0:Fl [] (s::ss):=⟨λc hc=>(nomatch hc),h60,.nil,by rw[hsum];show 0+dH=dH;lia⟩;exact h0.one hv λd hd=>(nomatch hd)
  have hcut:iy ((s::ss).map D.int) (some 1) none=ss.map D.int:=by
   rw[xo,show (some (1:Int))=some ((1:Nat):Int) from rfl,BS];rfl
  refine⟨.int s,uM (j:=0) rfl,[(s,0)],ss,?_,hfl,by simp at hl ⊢;lia,by simp at hl;lia,λb G2 s2 hb=>⟨λe=>?_,λe=>?_⟩⟩
  ·rw[hcut];rfl
  ·have e':=e;refine bZ ((q G2 (n1.sub.trans s2)).2.1 λ⟨vs,hvs⟩=>?_);rw[hb.mpr (YM hvs)] at e';cases e'
  ·have e':=e;have hf:=hb.mp (by simpa using e');refine Yj (ws:=[(s,0)]) hl (by simp) ⟨rfl,hfl,hf,λvs hvs=>?_⟩ λws G3 s3 hF=>(q G3 ((n1.sub.trans s2).trans s3)).2.2 hsum ws hF;cases vs with
   |nil=>exact absurd hvs.1 (by simp)
   |cons c vs=>
    obtain⟨t,b⟩:=c;have et:t=s:=(nX hvs.1).1;subst et;have hb2:=(hvs.2.1 (t,b) ι).2.1;by_cases hb0:b=0
    ·subst hb0;exact .inl rfl
    ·exact .inr ⟨[],t,0,b,[],vs,rfl,rfl,by lia⟩
end My
namespace L3
open PySem PySem.Spec PyProof.Rows L2 My
section
variable {X:Cx} {K:PySem.W.Frag} {e:aT} {es:List aT} {t:jK} {pos p:d9}
theorem Yh(hc:X.calm=true)(hu:X.A.units+64<cLine):gG X (.builtin "sorted") (λvs H Q=>∃(a:ν) (xs:List V) (nss:List (List (List Int))),vs=[.ref a]/\fw X.K H a xs/\aU X.K H (nss.map eJ) xs/\nss.length≤1000/\(∀ns∈nss,ns≠[]) ∧
  ∀(p:ν) (mss:List (List (List Int))) (ys:List V),H p=none->mss.Perm nss->jZ mss->aU X.K H (mss.map eJ) ys->Q (.ref p) (upd H p (.lst ys))):=by
 intro pins s σ H vs us Q I r h;obtain⟨a,xs,nss,rfl,hl,hv,hz,hne,q⟩:=h;obtain⟨u,rfl,ru⟩:=vals1 r;cases ru;obtain⟨its,rv,pl,_⟩:=I.list hl;obtain⟨ps,e1,e2,e3,e4⟩:=Ci I hv rv;subst e3;have hlen:ps.length=nss.length:=by rw[←e1,ε]
 have inj:∀p∈ps,∀q∈ps,aR.x9 p=aR.x9 q->p=q:=λp hp q hq e=>by
  obtain⟨k,b⟩:=p;obtain⟨k',b'⟩:=q;have e:aw b=aw b':=e;injection e with e;subst e;have ek:k=k':=(e4 _ hp).2.inj (e4 _ hq).2;rw[ek]
 refine fQ.rD (κ:=tuples' false) (f:=aR.x9) (ps:=ps) aR.Dn inj (λs' h2 kk=>?_) (by lia) (λR hR=>?_) λqs s' c D' hS hn hD hm=>?_
 ·have hk':∀p∈ps,cQ.gC X.prog X.w s'.heap p.1 p.2/\p.1≠[]:=λp hp=>⟨cQ.uP kk (e4 p hp).2,hne _ (by rw[←e1];exact υ.mpr ⟨p,hp,rfl⟩)⟩;exact⟨λQ E q=>aR.xT (λz=>by rw[z] at h2;simp at h2) hk' q,λp hp q hq Q E hq'=>aR.wA (by show X.A.units+1+1+16<cLine;lia) (hk' p hp).1 (hk' q hq).1 hq'⟩
 ·refine collect_list pl.isList (hR _ ⟨λb o _ e=>?_,rfl,rfl,rfl,ρ _⟩) (by rw[ε,cG];lia);have hlt:=Heap.lt_size e;show ((s.heap.push (seqObj "list" #[] 0)).update s.heap.objs.size _).get? b=some o;rw[Heap.get?_update_other _ _ (bL hlt)];exact Heap.get?_push_of_some _ e
 ·have e:s'={ s with heap:=s'.heap,toks:=s'.toks }:=by
   cases s';cases s;have h1:=hm.gens;have h2:=hm.drawn;have h3:=hm.os;simp only at h1 h2 h3;subst h1 h2 h3;rfl
  rw[e];refine⟨.ref D',_,Inv.wM I (o:=.lst (qs.map λp=>.ref p.2)) (λb u z=>hm.heap b u (λy=>nomatch y) z) hn ?_,rfl,?_⟩
  ·refine⟨?_,_,c,Cg qs,hD⟩;rw[ε,hS.perm.length_eq,cG];lia
  ·refine q _ (qs.map (·.1)) _ (Inv.vj I hn) (by rw[←e1];exact hS.perm.map _) ?_ (Cj λp hp=>(e4 p (hS.perm.mem_iff.mp hp)).1);exact aO.mpr hS.rise
def zg:C3:=λds G Q=>match ds with
 |[.obj a]=>∃nss:List (List (List Int)),G a=some (.lst (nss.map eJ))/\nss.length≤1000/\(∀ns∈nss,ns≠[])/\∀(p:ν) (mss:List (List (List Int))) (G':Gp),d8 G p (.lst (mss.map eJ)) G'->mss.Perm nss->jZ mss->Q (.obj p) G'
 |_=>False
theorem Yg:nR K zg (λvs H Q=>∃(a:ν) (xs:List V) (nss:List (List (List Int))),vs=[.ref a]/\fw K H a xs/\aU K H (nss.map eJ) xs/\nss.length≤1000/\(∀ns∈nss,ns≠[]) ∧
  ∀(p:ν) (mss:List (List (List Int))) (ys:List V),H p=none->mss.Perm nss->jZ mss->aU K H (mss.map eJ) ys->Q (.ref p) (upd H p (.lst ys))):=λds vs G H Q3 Q h RG q k=>by
 rcases ds with _|⟨d,_|⟨d2,ds⟩⟩
 ·exact q.elim
 ·obtain⟨v,rfl,hv⟩:=nO h;cases d with
  |obj a=>
   obtain⟨nss,e1,hz,hne,q⟩:=q;obtain⟨xs,e2,e3⟩:=RG a _ e1;rw[iY hv];exact⟨a,xs,nss,rfl,.of e2,e3,hz,hne,λp mss ys hp h1 h2 h3=>k _ _ (.obj p) _ qS (.iq hp) (RG.nN hp h3) (q p mss _ (.mk' (RG.free hp)) h1 h2)⟩
  |_=>exact q.elim
 ·cases d<;>exact q.elim
theorem Yf(hu:X.A.units+64<cLine)(hm:X.mg "sorted" = none)(ha:QA X (e::es) t)(hc:X.calm=true:=by rfl)(hg:Gl X "sorted":=by rfl)(he:notStar e=true:=by rfl)(hpl:es.all notStar=true:=by rfl):
  QE X (.Call (.Name "sorted" p) (e::es) [] pos) (du zg t):=⟨qx Yg (qT (Yh hc hu) hg hm rfl ha.of (he:=eU he) (hpl:=k9 hpl))⟩
end
end L3
namespace My
open PySem L2 L3
def uF(n:Nat):List Int:=(Φ n).map λx:Nat=>(x:Int)
def DZ(n:Nat):List Int:=(Φ n).map λk:Nat=>((k+1:Nat):Int)
def own(n:Nat)(last step:Int):List Int:=(uF n).filter λx=>(x-last)%step==0
def fits(n:Nat)(left:List Int)(last step:Int):Bool:=((n:Int)%step==0)&&(own n last step).all λx=>left.contains x
def rest(n:Nat)(left:List Int)(last step:Int):List Int:=left.filter λx=>!((own n last step).contains x)
def CU(n:Nat):Nat->List Int->List (List ψ)
 |0,_=>[]
 |f+1,left=>match left.getLast? with
  |none=>[[]]
  |some last=>(DZ n).flatMap λstep=>if fits n left last step then (CU n f (rest n left last step)).map (λc=>c++[((step,last%step):ψ)]) else []
def uq(n:Nat):List (List ψ):=CU n 40 (uF n)
def JZ(n:Nat):Bool:=pg (dA n) 40 []&&(uq n).length==(raw n).length&&decide ((raw n).length≤1000)
theorem Ye:∀n,n<12->1≤n->JZ n=true:=by decide +kernel
theorem Ky:pg (dA 12) 40 []=true:=by decide +kernel
theorem Dg:(raw 12).length=206:=by decide +kernel
theorem KL:(uq 12).length=206:=by decide +kernel
theorem Kx:pg (dA 13) 40 []=true:=by decide +kernel
theorem Df:(raw 13).length=2:=by decide +kernel
theorem KJ:(uq 13).length=2:=by decide +kernel
theorem Kw:pg (dA 14) 40 []=true:=by decide +kernel
theorem De:(raw 14).length=132:=by decide +kernel
theorem KI:(uq 14).length=132:=by decide +kernel
theorem Kv:pg (dA 15) 40 []=true:=by decide +kernel
theorem Dd:(raw 15).length=40:=by decide +kernel
theorem KH:(uq 15).length=40:=by decide +kernel
theorem Ku:pg (dA 16) 40 []=true:=by decide +kernel
theorem Dc:(raw 16).length=677:=by decide +kernel
theorem KG:(uq 16).length=677:=by decide +kernel
theorem Yd(n:Nat)(h2:n<17)(h1:1≤n):pg (dA n) 40 []=true/\(raw n).length≤1000/\(uq n).length=(raw n).length:=by
 by_cases h:n<12
 ·have:=Ye n h h1;unfold JZ at this;simp only[aM,decide_eq_true_eq,beq_iff_eq] at this;exact⟨this.1.1,this.2,this.1.2⟩
 ·have:n=12∨n=13∨n=14∨n=15∨n=16:=by omega
  rcases this with rfl|rfl|rfl|rfl|rfl
  ·exact⟨Ky,by rw[Dg];decide,by rw[Dg,KL]⟩
  ·exact⟨Kx,by rw[Df];decide,by rw[Df,KJ]⟩
  ·exact⟨Kw,by rw[De];decide,by rw[De,KI]⟩
  ·exact⟨Kv,by rw[Dd];decide,by rw[Dd,KH]⟩
  ·exact⟨Ku,by rw[Dc];decide,by rw[Dc,KG]⟩
theorem BD:∀{as bs:List (List (List Int))},as.Perm bs->jZ as->jZ bs->as=bs
 |[],bs,p,_,_=>(List.nil_perm.mp p).symm
 |a::as,[],p,_,_=>absurd p.length_eq (by simp)
 |a::as,b::bs,p,ha,hb=>by
  have ha':=dm.mp ha;have hb':=dm.mp hb;have e:a=b:=by
   refine aB λz=>?_;have h1:aR.e8 b a=false:=by
    rcases Ψ.mp (p.symm.mem_iff.mp ι) with rfl|h
    ·exact absurd rfl z
    ·exact ha'.1 b h
   have h2:aR.e8 a b=false:=by
    rcases Ψ.mp (p.mem_iff.mp ι) with rfl|h
    ·exact absurd rfl z
    ·exact hb'.1 a h
   have:=aR.wb z h2;rw[h1] at this;cases this
  subst e;rw[BD (p.cons_inv) ha'.2 hb'.2]
structure ZL(n:Nat):Prop where
 ZW:pg (dA n) 40 []=true
 len:(raw n).length≤1000
 D6:∀cs∈raw n,Au cs/\cs≠[]
 aaw:(uq n).length=(raw n).length
 fne:∀cs∈uq n,cs≠[]
theorem BC:∀(k:Nat) (cs:List ψ),pg ss k cs=true->∀c∈lj ss k cs,xM c=true/\cs.length≤c.length
 |0,cs,h,c,hc=>nomatch hc
 |k+1,cs,h,c,hc=>by
  have h':(xM cs&&match lh cs with
   |none=>true
   | some x=>(grown ss cs (x:Int)).all (pg ss k))=true:=h
  have hc':c∈match lh cs with
   |none=>[cs]
   |some x=>(grown ss cs (x:Int)).flatMap (lj ss k):=hc
  rw[aM] at h';cases hm:lh cs with
  |none=>
   rw[hm] at hc';rw[ah.mp hc'];exact⟨h'.1,ρ _⟩
  |some x=>
   rw[hm] at hc' h';obtain⟨g,hg,hcg⟩:=gk.mp hc';have h2:=cZ.mp h'.2 g hg;have:=BC k g h2 c hcg;obtain⟨d,_,rfl⟩:=υ.mp hg;refine⟨this.1,?_⟩;have h3:=this.2;rw[π] at h3;exact aH (gh _ _) h3
theorem Yc(h:pg (dA n) 40 []=true):∀c∈raw n,c≠[]:=λc hc z=>by
 subst z;have hf:lh []=some 0:=by decide
 have hc':([]:List ψ)∈match lh [] with
  |none=>[([]:List ψ)]
  |some x=>(grown (dA n) [] (x:Int)).flatMap (lj (dA n) 39):=hc
 have h':(xM []&&match lh [] with
  |none=>true
  | some x=>(grown (dA n) [] (x:Int)).all (pg (dA n) 39))=true:=h
 rw[hf] at hc' h';rw[aM] at h';obtain⟨g,hg,hcg⟩:=gk.mp hc';have:=(BC 39 g (cZ.mp h'.2 g hg) [] hcg).2;obtain⟨d,_,rfl⟩:=υ.mp hg;simp at this
theorem Yb(h1:1≤n):∀c∈uq n,c≠[]:=λc hc z=>by
 subst z;have hc':([]:List ψ)∈match (uF n).getLast? with
  |none=>[[]]
  |some last=>(DZ n).flatMap λstep=>if fits n (uF n) last step then (CU n 39 (rest n (uF n) last step)).map (λc=>c++[((step,last%step):ψ)]) else []:=hc
 cases hl:(uF n).getLast? with
 |none=>
  rw[List.getLast?_eq_none_iff] at hl;have:=congrArg bM hl;unfold uF at this;rw[ε,bo] at this;simp at this;lia
 |some last=>
  rw[hl] at hc';obtain⟨st,_,h⟩:=gk.mp hc';split at h
  ·obtain⟨c',_,e⟩:=υ.mp h;have:=congrArg bM e;rw[π] at this;simp at this
  ·cases h
theorem D8(h1:1≤n)(h2:n<17):ZL n:=by
 obtain⟨a,b,d⟩:=Yd n h2 h1;exact⟨a,b,λcs hc=>⟨Gx (BC 40 [] a cs hc).1,Yc a cs hc⟩,d,Yb h1⟩
def xc:dh:=λds G Q=>∃n:Nat,ds=[.int n]/\1≤n/\n<17/\∀(q:ν) (rs:List (List ψ)) (G':Gp),rs.Perm ((raw n).map e6)->jZ (rs.map gT)->d8 G q (.lst (rs.map a6)) G'->Q (.obj q) G'
def Ya:au:=bu (du zg (ξ (fK ["clocks"] [] (gx (aN (zQ 40) (ξ (θ 1) (ξ (fN (ab)) (ab))))) (hName 0) (dD) (du qR (ξ (vm (θ 0)) (ab)))) (ab)))
def X9:au:=aS (bK (fK ["step"] [0] (p8 (ξ (eC (.int 1)) (ξ (aq eu (θ 0) (eC (.int 1))) (ab)))) (hName 0) (bz (aq (dS false) (aq gq (θ 1) (θ 0)) (eC (.int 0)))) (θ 0)) (hName 1)) Ya
theorem LZ(n:Nat):kh 1 n=(Φ n).map λk=>nD (k+1):=by
 refine bB λk _=>?_;show D.int (1+(k:Int))=D.int ((k+1:Nat):Int);rw[show (1:Int)+(k:Int)=((k+1:Nat):Int) by lia]
theorem X8{G:Gp}{p:ν}{css:List (List ψ)}{Q:V3}(e:G p=some (.lst (css.map a6)))(hl:css.length≤1000)(hc:∀cs∈css,cs.length≤60/\cs≠[])(q:∀(q:ν) (rs:List (List ψ)) (G':Gp),rs.Perm (css.map e6)->jZ (rs.map gT)->d8 G q (.lst (rs.map a6)) G'->Q (.obj q) G'):
  (css.map a6).length≤aA/\iE (λG'=>G' p=some (.lst (css.map a6))) (hName 0) dD (du qR (ξ (vm (θ 0)) (ab))) (λacc G1=>∀p G2,d8 G1 p (.lst acc) G2->zg [.obj p] G2 Q) (css.map a6) [] [none] G:=by
 refine⟨by rw[ε];exact cH hl,?_⟩;refine xn (λes acc τ G'=>∃(dn rs:List (List ψ)) (x:Option D),dn++rs=css/\es=rs.map a6/\acc=dn.map (λcs=>a6 (e6 cs))/\Sub G G'/\τ=[x]) (λ_ _ _ _ h=>?_) ?_ ?_ _ _ _ _ ⟨[],_,none,rfl,rfl,rfl,Sub.refl _,rfl⟩
 ·obtain⟨_,_,_,_,_,_,s,_⟩:=h;exact s _ _ e
 ·rintro d es acc τ G3 K1 K2 ⟨dn,rs,x,e1,e3,rfl,s1,rfl⟩ g1 g2;cases rs with
  |nil=>cases e3
  |cons cs rs=>
   cases e3;have hR:=hc cs (by rw[←e1];exact aj _ ι);refine⟨λ_=>⟨cs.map dG,(vZ cs).symm,by rw[ε];lia,BO,λp4 mss G4 n4 hp hr=>⟨_,n4.at_,?_⟩⟩,nofun⟩;have e:D.tup (mss.map tupI)=a6 (e6 cs):=by
    rw[Ce hp hr,vZ];rfl
   rw[e];exact g1 _ _ _ ⟨dn++[cs],rs,_,by rw[Δ];exact e1,rfl,by rw[aP];rfl,s1.trans n4.sub,rfl⟩
 ·rintro acc τ G3 ⟨dn,rs,x,e1,e3,rfl,s1,rfl⟩;have e0:rs=[]:=by
   cases rs with
   |nil=>rfl
   |cons z zs=>cases e3
  subst e0;rw[bC] at e1;subst e1;intro p4 G4 n4;have em:dn.map (λcs=>a6 (e6 cs))=((dn.map e6).map gT).map eJ:=by
   rw[←vU,aJ];rfl
  rw[em] at n4;refine⟨_,n4.at_,by rw[ε,ε];lia,λns hn=>?_,λp5 mss G5 n5 hp hr=>?_⟩
  ·obtain⟨cs,hcs,rfl⟩:=υ.mp hn;obtain⟨c0,hc0,rfl⟩:=υ.mp hcs;intro z;have:(e6 c0).length=0:=by
    have:=congrArg bM z;unfold gT at this;rw[ε] at this;exact this
   rw[(rF c0).length_eq] at this;exact (hc c0 hc0).2 (cL this)
  ·obtain⟨rs,pr,rfl⟩:=lb hp rfl;rw[←vU] at n5;have s:=s1.trans n4.sub;exact q p5 rs G5 pr hr ⟨s.of_none n5.aE,s.trans n5.sub,n5.at_⟩
theorem X7:∀ds G Q,xc ds G Q->X9 (aF Q) (aY ["n","steps"] ds) G:=by
 rintro ds G Q ⟨n,rfl,h1,h2,q⟩;have hR:=D8 h1 h2;refine⟨⟨by decide,by decide,by lia,by lia⟩,?_⟩;rw[show ((n:Int)+1-1).toNat=n by lia,LZ];refine⟨by rw[ε,bo];exact cH (by lia),(ny (λτ=>∃x,τ=[x,some (.int (n:Int))]) (λk:Nat=>nD (k+1)) (λk:Nat=>(n:Int)%((k+1:Nat):Int)==0) (λk:Nat=>nD (k+1)) (G:=G) trivial (Φ n) [] _ ⟨none,rfl⟩ ?_ ?_)⟩
 ·rintro k hm τ K1 K2 ⟨_,rfl⟩ g1 g2;refine⟨by lia,_,_,rfl,rfl,ar _,λg=>g1 g _ ⟨_,rfl⟩,λg=>g2 g _ ⟨_,rfl⟩⟩
 intro p1 G1 n1;have e1:G1 p1=some (.lst ((dA n).map D.int)):=by
  rw[n1.at_,br];unfold dA;rw[mM,aJ];rfl
 have hsl:(dA n).length≤60:=by
  unfold dA;have:=mh (λs=>(n:Int)%s==0) ((Φ n).map λk:Nat=>((k+1:Nat):Int));rw[ε,bo] at this;lia
 refine⟨p1,dA n,[],rfl,e1,λs hs=>?_,hsl,hR.ZW,hR.len,λq2 G2 n2=>?_⟩
 ·obtain⟨k,_,rfl⟩:=υ.mp (aI.mp hs).1;lia
 have n2':=n2;refine⟨_,n2'.at_,X8 n2'.at_ hR.len (λcs hc=>⟨by have:=(hR.D6 cs hc).1.2.1;lia,(hR.D6 cs hc).2⟩) λq3 rs G' hp hr n3=>bZ (q q3 rs G' hp hr ?_)⟩;have s:=n1.sub.trans n2'.sub;exact⟨s.of_none n3.aE,s.trans n3.sub,n3.at_⟩
def Fp:dh:=λds G Q=>∃n:Nat,ds=[.int n]/\1≤n/\n<17/\∀G',Sub G G'->Q (.int ((raw n).length:Nat)) G'
def X6:au:=bu (du k8 (ξ (aN xc (ξ (θ 0) (ab))) (ab)))
theorem X5:∀ds G Q,Fp ds G Q->X6 (aF Q) (aY ["n"] ds) G:=by
 rintro ds G Q ⟨n,rfl,h1,h2,q⟩;refine⟨n,rfl,h1,h2,λq1 rs G1 hp _ n1=>⟨_,n1.at_,?_⟩⟩;have e:(rs.map a6).length=(raw n).length:=by rw[ε,hp.length_eq,ε]
 rw[e];exact bZ (q G1 n1.sub)
end My
namespace L3
open PySem PySem.Spec PyProof.Rows L2
abbrev km:=List Int×ν×ζ
section
variable {K:PySem.W.Frag} {H:Hp} {G:Gp} {a p:ν} {ks:List (List Int)}
theorem Ext.uW(h:H p=some (.ext φ)):Ext H (upd H p o):=
 ⟨λb ys e=>by
  rw[fj λz=>by rw[z,h] at e;cases e];exact e,λb x u e=>by
  rw[fj λz=>by rw[z,h] at e;cases e];exact e⟩
theorem bh.uW(R:bh K G H)(h:H p=some (.ext φ))(new:uw K (upd H p o) p g):bh K (fO G p g) (upd H p o):=λa u e=>by
 by_cases z:a=p
 ·subst z;rw[oh] at e;cases e;exact new
 ·rw[mR z] at e;exact (R a u e).ext (Ext.uW h) (fj z)
variable{X:Cx}{pins:List (ν×bT)}{σ:L2.St}{s:η}{b:ν}{A:aQ}{E:ζ->η->Prop}
theorem BB(I:L2.Inv X pins σ H s)(h:cR X.K H b (k.map V.int)):(tupleKind (intKind X.prog X.w)).is s.heap k b:=by
 obtain⟨its,rv,⟨o,h1,h2,n,h3⟩,_⟩:=I.tuple h;exact⟨o,its.toArray,n,h1,h2,h3,zu rv⟩
end
abbrev KD:=List Int×D
def kX(a:ν)(o:bT):Heap->Prop:=λh=>h.get? a=some o
structure Ay(K:PySem.W.Frag)(H:Hp)(p:KD)(x:km):Prop where
 k:x.1=p.1
 t:cR K H x.2.1 (x.1.map V.int)
 v:∃v,Hv K H p.2 v/\RelV v x.2.2
def fg(K:PySem.W.Frag)(H:Hp):List KD->List km->Prop
 |[],[]=>True
 |p::ps,x::xs=>Ay K H p x/\fg K H ps xs
 |_,_=>False
def xJ(kvs:List KD)(k:List Int)(d:D):List KD:=if k∈kvs.map (·.1) then kvs.map (λp=>if p.1=k then (p.1,d) else p) else kvs++[(k,d)]
def oH(kvs:List KD)(k:List Int)(y:D):D:=((kvs.find? λp=>decide (p.1=k)).map (·.2)).getD y
def o9(o:bT)(xs:List km):Prop:=o.ExactDict/\(∃P w es ep,o.data=.dict es ep/\es.toList=xs.map (entryOfKey (tupleKind (intKind P w))))/\(xs.map (·.1)).Nodup
def lL(kvs:List KD)(o:bT):PySem.W.Frag->ν->Hp->Prop:=λK a H=>H a=some (.ext (kX a o))/\(a==sysModules)=false/\∃xs,o9 o xs/\fg K H kvs xs
section
variable {K:PySem.W.Frag} {H H':Hp} {G:Gp} {a b:ν} {kvs:List KD} {xs:List km} {o:bT} {k:List Int} {d:D} {v:V} {r:ζ}
theorem fg.ext(E:Ext H H'):∀{kvs:List KD} {xs:List km},fg K H kvs xs->fg K H' kvs xs
 |[],[],_=>trivial
 |p::ps,x::xs,h=>⟨⟨h.1.k,cR.ext E h.1.t,let ⟨v,a,b⟩:=h.1.v;⟨v,a.ext E,b⟩⟩,fg.ext E h.2⟩
 |[],_::_,h=>h.elim
 |_::_,[],h=>h.elim
theorem fg.keys:∀{kvs:List KD} {xs:List km},fg K H kvs xs->xs.map (·.1)=kvs.map (·.1)
 |[],[],_=>rfl
 |p::ps,x::xs,h=>by
  rw[ay,ay,h.1.k,fg.keys h.2]
 |[],_::_,h=>h.elim
 |_::_,[],h=>h.elim
theorem fg.nL:∀{kvs:List KD} {xs:List km},fg K H kvs xs->∀x∈xs,cR K H x.2.1 (x.1.map V.int)
 |[],[],_,_,hx=>nomatch hx
 |p::ps,x::xs,h,y,hy=>by
  rcases Ψ.mp hy with rfl|hy
  ·exact h.1.t
  ·exact fg.nL h.2 y hy
 |[],_::_,h,_,_=>h.elim
 |_::_,[],h,_,_=>h.elim
theorem fg.app:∀{kvs:List KD} {xs:List km} {p:KD} {x:km},fg K H kvs xs->Ay K H p x->fg K H (kvs++[p]) (xs++[x])
 |[],[],_,_,_,h=>⟨h,trivial⟩
 |p::ps,x::xs,_,_,h,e=>⟨h.1,fg.app h.2 e⟩
 |[],_::_,_,_,h,_=>h.elim
 |_::_,[],_,_,h,_=>h.elim
theorem fg.Jp(hd:Hv K H d v)(hr:RelV v r):∀{kvs:List KD} {xs:List km},fg K H kvs xs->fg K H (kvs.map (λp=>if p.1=k then (p.1,d) else p)) (xs.map (putAt k r))
 |[],[],_=>trivial
 |p::ps,x::xs,h=>by
  refine⟨?_,fg.Jp hd hr h.2⟩;show Ay K H (if p.1=k then (p.1,d) else p) (putAt k r x);unfold putAt;by_cases e:p.1=k
  ·rw[if_pos e,if_pos (h.1.k.trans e)];exact⟨h.1.k,h.1.t,v,hd,hr⟩
  ·rw[if_neg e,if_neg (λz=>e (h.1.k.symm.trans z))];exact h.1
 |[],_::_,h=>h.elim
 |_::_,[],h=>h.elim
theorem at_isSome(xs:List km)(k:List Int):(atKey xs k).isSome=decide (k∈xs.map (·.1)):=by
 unfold atKey;rw[Option.isSome_map,cV,List.find?_isSome,decide_eq_true_iff,υ];constructor
 ·rintro⟨x,hx,e⟩;exact⟨x,hx,of_decide_eq_true e⟩
 ·rintro⟨x,hx,e⟩;exact⟨x,hx,decide_eq_true e⟩
theorem fg.put(h:fg K H kvs xs)(hb:cR K H b (k.map V.int))(hd:Hv K H d v)(hr:RelV v r):fg K H (xJ kvs k d) (storedH xs k b r):=by
 unfold storedH xJ;rw[at_isSome,h.keys];by_cases q:k∈kvs.map (·.1)
 ·rw[if_pos q,if_pos (decide_eq_true q)];exact h.Jp hd hr
 ·rw[if_neg q,if_neg (by simpa using q)];exact h.app ⟨rfl,hb,v,hd,hr⟩
theorem fg.look(hd:Hv K H d v)(hr:RelV v r):∀{kvs:List KD} {xs:List km},fg K H kvs xs->∃u,Hv K H (oH kvs k d) u/\RelV u (((atKey xs k).map (·.2)).getD r)
 |[],[],_=>⟨v,hd,hr⟩
 |p::ps,x::xs,h=>by
  by_cases e:p.1=k
  ·have e1:oH (p::ps) k d=p.2:=by
    unfold oH;rw[fq,decide_eq_true e];rfl
   have e2:((atKey (x::xs) k).map (·.2)).getD r=x.2.2:=by
    unfold atKey;rw[fq,decide_eq_true (h.1.k.trans e)];rfl
   rw[e1,e2];exact h.1.v
  ·have e1:oH (p::ps) k d=oH ps k d:=by
    unfold oH;rw[fq,decide_eq_false e]
   have e2:((atKey (x::xs) k).map (·.2)).getD r=((atKey xs k).map (·.2)).getD r:=by
    unfold atKey;rw[fq,decide_eq_false λz=>e (h.1.k.symm.trans z)]
   rw[e1,e2];exact fg.look hd hr h.2
 |[],_::_,h=>h.elim
 |_::_,[],h=>h.elim
theorem Fo(h:lL kvs o K a H):uw K H a (.gen (lL kvs o)):=
 ⟨h,⟨_,h.1,λ_=>nofun,λ_ _=>nofun⟩,λH1 H2 h1 h2 e zz=>by obtain⟨z,q,xs,r,en⟩:=zz;exact⟨e.trans z,q,xs,r,en.ext ⟨h1,h2⟩⟩⟩
theorem Fn(e:h.get? a=some o):fk P w H h a (.ext (kX a o)):=
 ⟨e,⟨o,e⟩,λh1 h2 e kk=>kk _ e⟩
end
section
variable {X:Cx} {pins:List (ν×bT)} {σ:L2.St} {H:Hp} {s:η} {a b:ν} {A:aQ} {E:ζ->η->Prop} {o:bT} {xs:List km} {k:List Int}
theorem zf(I:L2.Inv X pins σ H s)(e:H a=some (.ext (kX a o))):s.heap.get? a=some o:=by
 obtain⟨z,_⟩:=(show fk X.prog X.w H s.heap a _ from I.bX a _ e);exact z
theorem Fm(I:L2.Inv X pins σ H s)(e:H a=some (.ext (kX a o)))(R:o9 o xs)(ht:∀x∈xs,cR X.K H x.2.1 (x.1.map V.int)):s.heap.DictOfH (tupleKind (intKind X.prog X.w)) a xs:=by
 obtain⟨r1,⟨P,w,es,ep,r2,r3⟩,r4⟩:=R;exact⟨o,es,ep,zf I e,r1,r2,r3,λx hm=>BB I (ht x hm),r4⟩
theorem X4{r:ζ}{Q:Unit->η->Prop}(hu:A.units+1<cLine)(I:L2.Inv X pins σ H s)(e:H a=some (.ext (kX a o)))(R:o9 o xs)(ht:∀x∈xs,cR X.K H x.2.1 (x.1.map V.int))(hk:cR X.K H b (k.map V.int))(hl:xs.length≤1000)
  (h:∀s' o',L2.Inv X pins σ (upd H a (.ext (kX a o'))) s'->o9 o' (storedH xs k b r)->Q () s'):
  χ (model X.prog X.w) A (setItem (.ref a) (.ref b) r) Q E s:=by
 refine wpAny_setItem_heap (hsz:=by rw[cG];omega) (tupleKind_room_in1 hu) (BB I hk) (Fm I e R ht) λh' dd' hs=>?_;obtain⟨q,es',ep',hq,y2,y3,y4,_,y5⟩:=dd';exact h _ q (Mp I (by rw[e];exact oO) hs ⟨q,hq⟩ (Fn hq)) ⟨y2,⟨_,_,es',ep',y3,y4⟩,y5⟩
end
section
variable {X:Cx} {o i e f:aT} {pos pos' p apos cpos:d9} {to ti tv ta tk td:cu}
def yb:cu:=λ_ G Q=>∀p o G2,d8 G p (.gen (lL [] o)) G2->Q (.obj p) G2
theorem X3(P:ao)(w:aC):o9 { cls:=.type "dict",data:=.dict #[]} []:=⟨⟨rfl,rfl,rfl⟩,⟨P,w,#[],0,rfl,rfl⟩,jo⟩
theorem YC(I:L2.Inv X pins σ H s):L2.Inv X pins σ (upd H s.heap.objs.size (.ext (kX s.heap.objs.size { cls:=.type "dict",data:=.dict #[]}))) { s with heap:=s.heap.push { cls:=.type "dict",data:=.dict #[]}}:=
 I.laid (a:=s.heap.objs.size) (o:=.ext (kX s.heap.objs.size { cls:=.type "dict",data:=.dict #[]})) (t':=s.toks) (λ_ _ q=>Heap.get?_push_of_some _ q) (ρ _) (Fn (Heap.get?_push_size _ rfl))
theorem YB:PE X (.Dict [] [] pos) (λ_ H Q=>∀p o,H p=none->(p==sysModules)=false->o9 o []->Q (.ref p) (upd H p (.ext (kX p o)))):=λpins s σ H Q I h=>
 wpAny_Dict_empty ⟨.ref s.heap.objs.size,_,YC I,rfl,h _ _ (I.bX.fresh (ρ _)) (beq_eq_false_iff_ne.mpr (di (aV I.yO))) (X3 X.prog X.w)⟩
theorem YA:cv X (.Dict [] [] pos) yb:=jJ YB λσ H Q ⟨τ,G,Q3,RS,RG,h,k⟩ p o hp hs R=>
 k _ _ (.obj p) _ qS (.iq hp) (RG.iq hp (Fo (kvs:=[]) ⟨jw,hs,[],R,trivial⟩)) (h p o _ (.mk' (RG.free hp)))
def wK(to ti tv:cu):au:=λD τ G=>tv τ G λv G1=>to τ G1 λo G2=>ti τ G2 λx G3=>match o,x with
 |.obj p,.tup ds=>∃kvs ob k,G3 p=some (.gen (lL kvs ob))/\ds=k.map .int/\kvs.length≤1000/\∀ob',D.nx τ (fO G3 p (.gen (lL (xJ kvs k v) ob')))
 |_,_=>False
theorem Yz{td tv:TE}(hu:X.A.units+1<cLine)(ho:PE X o td)(hi:PE X i ty)(hv:PE X e tv)(hs:swapsWith e (some (.Subscript o i pos')) pos.line X.env=pure false):
  PS X (.Assign [.Subscript o i pos'] e pos) (λD σ H=>tv σ H λv H1=>td σ H1 λx H2=>ty σ H2 λy H3=>∃a b ob xs k,x=.ref a/\y=.ref b/\H3 a=some (.ext (kX a ob))/\o9 ob xs/\(∀x∈xs,cR X.K H3 x.2.1 (x.1.map V.int))/\cR X.K H3 b (k.map V.int)/\xs.length≤1000 ∧
   ∀r o',RelV v r->o9 o' (storedH xs k b r)->D.nx σ (upd H3 a (.ext (kX a o')))):=by
 intro pins s σ H D I h;refine wpAny_Assign_Subscript (bN (hv pins s σ H _ I h) λr s1 zz=>?_) hs;obtain⟨v,H1,I1,rv,q1⟩:=zz;refine bN (ho pins s1 σ H1 _ I1 q1) λu s2 zz=>?_;obtain⟨x,H2,I2,rx,q2⟩:=zz;refine bN (hi pins s2 σ H2 _ I2 q2) λiv s3 zz=>?_;obtain⟨y,H3,I3,ry,a,b,ob,xs,k,ex,ey,z1,R,z2,z3,z4,q3⟩:=zz;subst ex ey;obtain rfl:u=aw a:=rx;obtain rfl:iv=aw b:=ry;exact X4 hu I3 z1 R z2 z3 z4 λs4 o' I4 y1=>⟨σ,_,I4,q3 r o' rv y1⟩
theorem Fk{K:PySem.W.Frag}{key:List Int}(h:aU K H (key.map D.int) vs):vs=key.map V.int:=by
 refine ui h ?_;clear h
 induction key with
 |nil=>rfl
 |cons n ns ih=>simp[intsOf,ih]
theorem Yy(hu:X.A.units+64<cLine)(ho:cv X o to)(hi:cv X i ti)(hv:cv X e tv)(hs:swapsWith e (some (.Subscript o i pos')) pos.line X.env=pure false:=by rfl):
  pB X (.Assign [.Subscript o i pos'] e pos) (wK to ti tv):=
 sf (Yz (iK (by omega) hu) ho hi hv hs) λD σ H zz=>by
  obtain⟨τ,G,D3,RS,RG,h,k⟩:=zz;exact
  ⟨τ,G,_,RS,RG,h,λv H1 dv G1 hv S1 R1 q1=>⟨τ,G1,_,RS.ext (S1.ext RG),R1,q1,λx H2 d2 G2 h2 S2 R2 q2=>
   ⟨τ,G2,_,(RS.ext (S1.ext RG)).ext (S2.ext R1),R2,q2,λy H3 d3 G3 h3 S3 R3 q3=>by
    cases d2 with
    |obj p=>
     cases d3 with
     |tup ds=>
      obtain⟨kvs,ob,key,e1,rfl,l1,q⟩:=q3;obtain⟨⟨z1,z0,xs,z2,z3⟩,_⟩:=R3 p _ e1;obtain⟨b,vs,rfl,t1,t2⟩:=mQ h3;obtain rfl:=Fk t2;have hx:=iY h2;refine⟨p,b,ob,xs,key,hx,rfl,z1,z2,z3.nL,t1,?_,λr o' rr y1=>?_⟩
      ·have:=congrArg bM z3.keys;rw[ε,ε] at this;omega
      ·have E3:=Ext.uW (o:=.ext (kX p o')) z1;refine k.nx τ σ _ _ ?_ ?_ (R3.uW z1 (Fo ⟨jw,z0,_,y1,(z3.put t1 ((hv.ext (S2.ext R1)).ext (S3.ext R2)) rr).ext E3⟩)) (q o')
       ·exact ((((RS.ext (S1.ext RG)).ext (S2.ext R1)).ext (S3.ext R2))).ext E3
       ·exact ((S1.trans S2).trans S3).trans (Step.wrote e1)
     |_=>exact q3.elim
    |_=>exact q3.elim⟩⟩⟩
def wN(to tk td:cu):cu:=λτ G Q=>to τ G λo G1=>match o with
 |.obj p=>(∃kvs ob,G1 p=some (.gen (lL kvs ob)))/\tk τ G1 λx G2=>td τ G2 λy G3=>match x with
  |.tup ds=>∃kvs ob k,G3 p=some (.gen (lL kvs ob))/\ds=k.map .int/\Q (oH kvs k y) G3
  |_=>False
 |_=>False
theorem Yx{to tk td:TE}(hu:X.A.units+1<cLine)(ho:PE X o to)(he:PE X e tk)(hf:PE X f td)(m:M2 X o "get" apos e f cpos):
  PE X (.Call (.Attribute o "get" apos) [e,f] [] cpos) (λσ H Q=>to σ H λx H1=>∃a,x=.ref a/\(∃ob,H1 a=some (.ext (kX a ob))/\ob.ExactDict)/\tk σ H1 λy H2=>td σ H2 λz H3=>∃b k ob xs,y=.ref b/\H3 a=some (.ext (kX a ob))/\(a==sysModules)=false/\o9 ob xs/\(∀x∈xs,cR X.K H3 x.2.1 (x.1.map V.int))/\cR X.K H3 b (k.map V.int) ∧
   ∀r,RelV z r->∃u,RelV u (((atKey xs k).map (·.2)).getD r)/\Q u H3):=by
 intro pins s σ H Q I h;refine wpAny_Call_method m.base m.AY m.line PySem.F.plainAttrs_dict PySem.F.slot_dict_get PySem.F.type_dict_get (bN (ho pins s σ H _ I h) λu s1 zz=>?_);obtain⟨x,H1,I1,rx,a,ex,⟨ob,e1,ex1⟩,q1⟩:=zz;subst ex;obtain rfl:u=aw a:=rx;have hh:=zf I1 e1;refine⟨⟨ob,hh,ex1.1⟩,λa1 e=>by cases e;exact⟨ob,hh,ex1.2.1⟩,?_⟩;rw[m.trees];refine lD rfl (r8 (nJ (bN (he pins s1 σ H1 _ I1 q1) λiv s2 zz=>?_)));obtain⟨y,H2,I2,ry,q2⟩:=zz;refine nJ (bN (hf pins s2 σ H2 _ I2 q2) λfv s3 zz=>uf ?_);obtain⟨z,H3,I3,rz,b,k,ob2,xs,ey,z1,z0,R,z2,z3,q3⟩:=zz;subst ey;obtain rfl:iv=aw b:=ry;have dd:=Fm I3 z1 R z2;obtain⟨u,ru,q⟩:=q3 fv rz;exact call_meetsIn PySem.F.slot_dict_get dd.typeIs PySem.F.entry_dict_get (PySem.F.args_dict_get_3 _ _ _) (meetsH_dict_get_default (tupleKind (intKind X.prog X.w)) a b z0 fv) ⟨tupleKind_room_in1 hu,k,xs,BB I3 z3,dd,⟨u,H3,I3.tok _,ru,q⟩⟩
theorem Yw(hu:X.A.units+64<cLine)(ho:cv X o to)(he:cv X e tk)(hf:cv X f td)(m:M2 X o "get" apos e f cpos):cv X (.Call (.Attribute o "get" apos) [e,f] [] cpos) (wN to tk td):=
 jJ (Yx (iK (by omega) hu) ho he hf m) λσ H Q zz=>by
  obtain⟨τ,G,Q3,RS,RG,h,k⟩:=zz;exact
  ⟨τ,G,_,RS,RG,h,λv H1 d1 G1 h1 S1 R1 q1=>by
   cases d1 with
   |obj p=>
    obtain⟨⟨kvs,ob,e1⟩,q1⟩:=q1;obtain⟨⟨z1,z0,xs,z2,z3⟩,_⟩:=R1 p _ e1;refine⟨p,iY h1,⟨ob,z1,z2.1⟩,τ,G1,_,RS.ext (S1.ext RG),R1,q1,λy H2 d2 G2 h2 S2 R2 q2=>⟨τ,G2,_,(RS.ext (S1.ext RG)).ext (S2.ext R1),R2,q2,λz H3 d3 G3 h3 S3 R3 q3=>?_⟩⟩;cases d2 with
    |tup ds=>
     obtain⟨kvs,ob,key,e1,rfl,q⟩:=q3;obtain⟨⟨z1,z0,xs,z2,z3⟩,_⟩:=R3 p _ e1;obtain⟨b,vs,rfl,t1,t2⟩:=mQ (h2.ext (S3.ext R2));obtain rfl:=Fk t2;refine⟨b,key,ob,xs,rfl,z1,z0,z2,z3.nL,t1,λr rr=>?_⟩;obtain⟨u,hu1,hu2⟩:=z3.look (k:=key) h3 rr;exact⟨u,hu2,k u H3 _ G3 hu1 ((S1.trans S2).trans S3) R3 q⟩
    |_=>exact q3.elim
   |_=>exact q1.elim⟩
end
section
variable {prog:ao} {w:aC} {A:aQ} {E:ζ->η->Prop} {s:η}
theorem Yv(d:ν)(hd:(d==sysModules)=false):
  MeetsIn prog w (f9.«dict.items» ⟨[.ref d],[]⟩) (λ_ R s=>s.TypeIs (.ref d) "dict" ∧
   R (.ok (.ret (.ref s.heap.objs.size))) { s with heap:=s.heap.push { cls:=.type "dict_items",data:=.fields #[.ref d]}}):=
 .of_wp λA R s ⟨hm,h⟩=>by
  refine γ (γ (wpAny_notOrdered_dict hm (δ ?_)));unfold f9.Dict.showsAll;rw[if_neg (by rw[hd];exact af)];exact γ (δ (γ (bj (δ ⟨_,rfl,h⟩))))
theorem yr(hv:s.heap.IsItemsView v d)(ho:s.heap.get? d=some o)(hdat:o.data=.dict es ep)
  (hQ:Q (.ref s.heap.objs.size) { s with heap:=s.heap.push { cls:=.type "dict_itemiterator",data:=.fields #[.none,.bool false,.ref d,.int 0 0,.int es.size 0,.int ep 0,.none,.none]}}):
  χ (model prog w) A (pyIter (.ref v)) Q E s:=by
 obtain⟨ov,hov,hcv,hdv⟩:=id hv;refine oA hv.typeIs F.slot_dict_items_iter (bA F.slot_dict_items_iter hv.typeIs F.entry_dict_items_iter (γ (δ (γ (γ (b6 hov hdv (x:=.ref d) rfl (δ (γ (γ (i9 ho hdat (γ (j6 ho hdat ?_))))))))))) (F.args_dict_items_iter_1 _));have hown:f9.Dict_items.ownsTuple "dict_itemiterator" = true:=by decide
 simp only[hown,if_true];refine bj (δ ⟨_,rfl,"dict_itemiterator",_,⟨_,Heap.get?_push_size _ rfl,rfl⟩,F.slot_dict_itemiterator_next.lookup,?_⟩)
  (by simp only[sizeOk,kS,Ω,π,ai,iO,cG];lia)
 simpa [rawInt,kS] using hQ
theorem Af(hit:jI s.heap it d i es.size ep ok ov)
  (nB:s.heap.get? d=some od) (hdd:od.data=.dict es ep) (hx:es[i]?=some en)
  (hQ:∀h',su h' it d (i+1) es.size ep en.key en.val s.heap.objs.size ->
   h'.get? s.heap.objs.size=some { cls:=.type "tuple",data:=.seq #[en.key,en.val]}->h'.objs.size=s.heap.objs.size+1 ->
   (∀b o,b≠it->s.heap.get? b=some o->h'.get? b=some o)->Q (some (.ref s.heap.objs.size)) { s with heap:=h' }):
  χ (model prog w) A (pyNext (.ref it)) Q E s:=by
 obtain⟨hp,g,dr,tk,os⟩:=s;obtain⟨hlt',een⟩:=bf.mp hx;subst een;have hT:iC ⟨hp,g,dr,tk,os⟩ (.ref it) "dict_itemiterator":=⟨_,hit,rfl⟩;refine γ (fD (bD (name:=dY "__next__") hT F.slot_dict_itemiterator_next
  (bA F.slot_dict_itemiterator_next hT F.entry_dict_itemiterator_next ?_ (F.args_dict_itemiterator_next_1 _))))
 refine γ (δ (γ (γ ?_)))
 first|refine γ (b9 hT (δ ?_))|refine γ (cM hT (δ ?_))
 refine γ (kM hit rfl ?_);show χ _ _ (if (aw d==cq)=true then _ else _) _ _ _;rw[if_neg (show ¬((aw d==cq)=true) from af)];refine γ (δ (γ (i9 nB hdd ?_)));rw[if_neg (by simp)];refine γ (δ (γ (j6 nB hdd ?_)));rw[if_neg (by simp)];refine δ ?_;simp only[show ¬((i:Int)<0) from by lia,if_false,a9,cN hlt'];refine γ ?_
 first|refine γ (b9 hT (δ ?_))|refine γ (cM hT (δ ?_))
 refine γ (fy hT ?_);show χ _ _ (setField (.ref it) 3 (rawInt ((i:Int)+1)) >>= _) _ _ ⟨hp,g,dr,tk,os⟩;refine γ (bH hit (by simp) λh₁ he₁ hs₁=>?_)
 replace hs₁:Heap.SameBut it hp h₁:=hs₁
 replace he₁:jI h₁ it d (i+1) es.size ep ok ov:=by
  have e:((i+1:Nat):Int)=(i:Int)+1:=by lia
  unfold jI;rw[e];simpa [rawInt] using he₁
 have hT₁:iC ⟨h₁,g,dr,tk,os⟩ (.ref it) "dict_itemiterator":=⟨_,he₁,rfl⟩;refine γ (bY (γ (fy hT₁ (γ (fy hT₁ (γ (kL ?_)))))));have he₂:jI (h₁.push { cls:=.type "tuple",data:=.seq #[es[i].key,es[i].val]}) it d (i+1) es.size ep ok ov:=Heap.get?_push_of_some _ he₁;generalize hh₂:h₁.push { cls:=.type "tuple",data:=.seq #[es[i].key,es[i].val]}=h₂ at he₂;have hz₁:=hs₁.1;have hil:=Heap.lt_size hit;have ht₂:h₂.get? hp.objs.size=some { cls:=.type "tuple",data:=.seq #[es[i].key,es[i].val]}:=by rw[←hh₂,←hz₁];exact Heap.get?_push_size _ rfl
 have hz₂:h₂.objs.size=hp.objs.size+1:=by rw[←hh₂,Heap.size_push,hz₁]
 have hk₂:∀b o,b≠it->hp.get? b=some o->h₂.get? b=some o:=λb o hb e=>by rw[←hh₂];exact Heap.get?_push_of_some _ (hs₁.extBut b o hb e)
 rw[hz₁];refine γ (γ (b6 he₂ rfl (x:=.none) rfl (δ (γ (b6 he₂ rfl (x:=ok) rfl (γ (b6 he₂ rfl (x:=ov) rfl (γ (bH he₂ (by simp) λh₃ he₃ hs₃=>?_)))))))))
 replace hs₃:Heap.SameBut it h₂ h₃:=hs₃
 replace he₃:jI h₃ it d (i+1) es.size ep es[i].key ov:=he₃
 refine γ (bH he₃ (by simp) λh₄ he₄ hs₄=>?_)
 replace hs₄:Heap.SameBut it h₃ h₄:=hs₄
 replace he₄:jI h₄ it d (i+1) es.size ep es[i].key es[i].val:=he₄
 refine γ (bH he₄ (by simp) λh₅ he₅ hs₅=>?_)
 replace hs₅:Heap.SameBut it h₄ h₅:=hs₅
 replace he₅:su h₅ it d (i+1) es.size ep es[i].key es[i].val hp.objs.size:=he₅
 refine γ (bH he₅ (by simp) λh₆ he₆ hs₆=>?_)
 replace hs₆:Heap.SameBut it h₅ h₆:=hs₆
 replace he₆:su h₆ it d (i+1) es.size ep es[i].key es[i].val hp.objs.size:=he₆
 refine γ (hJ (δ (δ ⟨_,rfl,δ (hQ h₆ he₆ ?_ ?_ ?_)⟩)))
 ·exact hs₆.extBut _ _ (bL hil) (hs₅.extBut _ _ (bL hil) (hs₄.extBut _ _ (bL hil) (hs₃.extBut _ _ (bL hil) ht₂)))
 ·rw[hs₆.1,hs₅.1,hs₄.1,hs₃.1,hz₂]
 ·exactλb o hb e=>hs₆.extBut b o hb (hs₅.extBut b o hb (hs₄.extBut b o hb (hs₃.extBut b o hb (hk₂ b o hb e))))
theorem AO(hh:A.handled=none)(hit:jI s.heap it d i es.size ep ok ov)
  (nB:s.heap.get? d=some od) (hdd:od.data=.dict es ep) (hge:es.size≤i)
  (hQ:∀h',Heap.ExtBut it s.heap h'->Q none { s with heap:=h' }):χ (model prog w) A (pyNext (.ref it)) Q E s:=by
 have hT:s.TypeIs (.ref it) "dict_itemiterator":=⟨_,hit,rfl⟩;refine γ (fD (bD (name:=dY "__next__") hT F.slot_dict_itemiterator_next
  (bA F.slot_dict_itemiterator_next hT F.entry_dict_itemiterator_next ?_ (F.args_dict_itemiterator_next_1 _))))
 refine γ (δ (γ (γ ?_)))
 first|refine γ (b9 hT (δ ?_))|refine γ (cM hT (δ ?_))
 refine γ (kM hit rfl ?_);show χ _ _ (if (aw d==cq)=true then _ else _) _ _ s;rw[if_neg (show ¬((aw d==cq)=true) from af)];refine γ (δ (γ (i9 nB hdd ?_)));rw[if_neg (by simp)];refine γ (δ (γ (j6 nB hdd ?_)));rw[if_neg (by simp)];refine δ ?_;simp only[show ¬((i:Int)<0) from by lia,if_false,a9,qN hge];refine γ ?_
 first|refine γ (b9 hT (δ ?_))|refine γ (cM hT (δ ?_))
 show χ _ _ (setField (.ref it) 2 .none >>= _) _ _ s;refine γ (mX hit rfl (by simp) (γ (γ (bj (γ (m:=firstArgMember _ _) (iT (a:=cq) (by first|rfl|(simp only[firstArgMember];rfl)) (bj (γ (nU ?_)) (by size_fits)))) (by size_fits)))))
 rw[show A.in1.handled=none from hh];refine γ (δ (qz ?_));refine γ (dP (T:="StopIteration") (b:=true) ⟨_,Heap.get?_push_size _ rfl,rfl⟩ kO ?_);exact δ (hQ _ (((Heap.SameBut.update ..).extBut.push _).push _))
end
theorem fg.get{K:PySem.W.Frag}:∀{kvs:List KD} {xs:List km} {i:Nat} {q:KD},fg K H kvs xs->kvs[i]?=some q->∃x,xs[i]?=some x/\Ay K H q x
 |[],_,_,_,_,e=>by cases e
 |p::ps,x::xs,0,q,h,e=>by
  cases e;exact⟨x,rfl,h.1⟩
 |p::ps,x::xs,i+1,q,h,e=>fg.get (i:=i) h.2 e
 |_::_,[],_,_,h,_=>h.elim
theorem Fj{K:PySem.W.Frag}:∀k:List Int,aU K H (k.map D.int) (k.map V.int)
 |[]=>by simp[aU]
 |n::ns=>aU.cons (by simp[Hv]) (Fj ns)
end L3
namespace PySem
def Heap.gY(h:Heap)(d:ν)(kvs:List (ζ×ζ))(ep:Nat):Prop:=∃(od:bT) (es:Array DictEntry),h.get? d=some od/\od.data=.dict es ep/\es.toList.map (λe=>(e.key,e.val))=kvs
theorem Heap.gY.at'{h h':Heap}(x:h.gY d kvs ep)(k:∀o,h.get? d=some o->h'.get? d=some o):h'.gY d kvs ep:=by
 obtain⟨od,es,e1,e2⟩:=x;exact⟨od,es,k _ e1,e2⟩
theorem Heap.gY.push{h:Heap}(x:h.gY d kvs ep)(o:bT):(h.push o).gY d kvs ep:=x.at' λ_ e=>Heap.get?_push_of_some _ e
theorem Heap.gY.lt_size{h:Heap}(x:h.gY d kvs ep):d<h.objs.size:=by
 obtain⟨od,es,e1,e2⟩:=x;exact Heap.lt_size e1
end PySem
namespace Ke
open PySem PySem.W PySem.Calls PyProof.Rows PyProof.V PySem.Spec
theorem Fi{es:Array DictEntry}{i:Nat}(h:es.toList.map (λe=>(e.key,e.val))=kvs)(he:es.toList[i]?=some e)(hx:kvs[i]?=some (k,v)):e.key=k/\e.val=v:=by
 rw[←h,ax,he] at hx;have:=aL hx;exact⟨congrArg (·.1) this,congrArg (·.2) this⟩
theorem Yu(hv:s.heap.IsItemsView v d)(hm:s.heap.gY d kvs ep)
  (hQ:Q (.ref s.heap.objs.size) { s with heap:=s.heap.push { cls:=.type "dict_itemiterator",data:=.fields #[.none,.bool false,.ref d,.int 0 0,.int kvs.length 0,.int ep 0,.none,.none]}}):
  χ (model prog w) A (pyIter (.ref v)) Q E s:=by
 obtain⟨od,es,nB,hdd,hpr⟩:=id hm;have hsz:kvs.length=es.size:=by rw[←hpr];simp
 rw[hsz] at hQ;exact L3.yr hv nB hdd hQ
abbrev KdxIt(h:Heap)(it d:ν)(i n ep:Nat)(ok ov:ζ)(a:ν)(f:Bool):Prop:=
 h.get? it=some { cls:=.type "dict_itemiterator",dict:=none,data:=.fields #[rawInt a,.bool f,.ref d,.int i 0,.int n 0,.int ep 0,ok,ov],slots:=#[]}
section
variable {prog:ao} {w:aC} {A:aQ} {E:ζ->η->Prop} {s:η}
theorem kdx_alive(ho:s.heap.get? a=some o)(h:Q (some o) s):χ (model prog w) A (loadIfAlive a) Q E s:=by
 have h':Q (s.heap.get? a) s:=by rw[ho];exact h
 exactλ_ _ _=>h'
theorem kdx_next_out(hit:KdxIt s.heap it d i kvs.length ep ok ov a f)(ha:s.heap.get? a=some oa)(hai:a≠it)
  (hm:s.heap.gY d kvs ep) (hx:kvs[i]?=some (k,v))
  (hQ:∀key h',key=k->KdxIt h' it d (i+1) kvs.length ep ok ov a true ->
   h'.get? s.heap.objs.size=some { cls:=.type "tuple",data:=.seq #[key,v]}->h'.objs.size=s.heap.objs.size+1 ->
   (∀b o,b≠it->s.heap.get? b=some o->h'.get? b=some o)->Q (some (.ref s.heap.objs.size)) { s with heap:=h' }):
  χ (model prog w) A (pyNext (.ref it)) Q E s:=by
 obtain⟨hp,g,dr,tk,os⟩:=s;obtain⟨od,es,nB,hdd,hpr⟩:=id hm;have hT:iC ⟨hp,g,dr,tk,os⟩ (.ref it) "dict_itemiterator":=⟨_,hit,rfl⟩;refine γ (fD (bD (name:=dY "__next__") hT PySem.F.slot_dict_itemiterator_next
  (bA PySem.F.slot_dict_itemiterator_next hT PySem.F.entry_dict_itemiterator_next ?_ (PySem.F.args_dict_itemiterator_next_1 _))))
 refine γ (δ (γ (γ ?_)))
 first|refine γ (b9 hT (δ ?_))|refine γ (cM hT (δ ?_))
 refine γ (kM hit rfl ?_);show χ _ _ (if (aw d==cq)=true then _ else _) _ _ _;rw[if_neg (show ¬((aw d==cq)=true) from af)];refine γ (δ (γ (i9 nB hdd ?_)));have hsz:es.size=kvs.length:=by rw[←hpr];simp
 rw[if_neg (by rw[hsz];simp)];refine γ (δ (γ (j6 nB hdd ?_)));rw[if_neg (by simp)];refine δ ?_;have hlt:i<kvs.length:=by
  rcases tL i kvs.length with h|h
  ·exact h
  ·simp[eH h] at hx
 have hlt':i<es.size:=by rw[hsz];exact hlt
 obtain⟨hkey,hval⟩:=Fi hpr (i:=i) (e:=es[i]) (by simp[hlt']) hx;simp only[show ¬((i:Int)<0) from by lia,if_false,a9,cN hlt'];refine γ ?_
 first|refine γ (b9 hT (δ ?_))|refine γ (cM hT (δ ?_))
 refine γ (fy hT ?_);show χ _ _ (setField (.ref it) 3 (rawInt ((i:Int)+1)) >>= _) _ _ ⟨hp,g,dr,tk,os⟩;refine γ (bH hit (by simp) λh₁ he₁ hs₁=>?_)
 replace hs₁:Heap.SameBut it hp h₁:=hs₁
 replace he₁:KdxIt h₁ it d (i+1) kvs.length ep ok ov a f:=by
  have e:((i+1:Nat):Int)=(i:Int)+1:=by lia
  unfold KdxIt;rw[e];simpa [rawInt] using he₁
 have hT₁:iC ⟨h₁,g,dr,tk,os⟩ (.ref it) "dict_itemiterator":=⟨_,he₁,rfl⟩;refine γ (bY (γ (fy hT₁ (γ (fy hT₁ (γ (kL ?_)))))));have he₂:KdxIt (h₁.push { cls:=.type "tuple",data:=.seq #[es[i].key,es[i].val]}) it d (i+1) kvs.length ep ok ov a f:=Heap.get?_push_of_some _ he₁;generalize hh₂:h₁.push { cls:=.type "tuple",data:=.seq #[es[i].key,es[i].val]}=h₂ at he₂;have hz₁:=hs₁.1;have hil:=Heap.lt_size hit;have ht₂:h₂.get? hp.objs.size=some { cls:=.type "tuple",data:=.seq #[es[i].key,es[i].val]}:=by rw[←hh₂,←hz₁];exact Heap.get?_push_size _ rfl
 have hz₂:h₂.objs.size=hp.objs.size+1:=by rw[←hh₂,Heap.size_push,hz₁]
 have hk₂:∀b o,b≠it->hp.get? b=some o->h₂.get? b=some o:=λb o hb e=>by rw[←hh₂];exact Heap.get?_push_of_some _ (hs₁.extBut b o hb e)
 rw[hz₁];have ha₂:=hk₂ a oa hai ha;refine γ (γ (b6 he₂ rfl (x:=rawInt a) rfl ?_));show χ _ _ (loadIfAlive ((a:Int).toNat) >>= _) _ _ _;rw[a9];refine γ (kdx_alive ha₂ (γ (b6 he₂ rfl (x:=.bool f) rfl ?_)));have fin:∀h₃:Heap,KdxIt h₃ it d (i+1) kvs.length ep ok ov a true->Heap.SameBut it h₂ h₃->Q (some (.ref hp.objs.size)) ⟨h₃,g,dr,tk,os⟩:=λh₃ he₃ hs₃=>
  hQ es[i].key h₃ hkey he₃ (by rw[←hval];exact hs₃.extBut _ _ (bL hil) ht₂) (by rw[hs₃.1,hz₂]) λb o hb e=>hs₃.extBut b o hb (hk₂ b o hb e)
 cases f with
 |true=>
  rw[if_neg (show ¬((gu true != gu true)=true) from af)];exact δ (δ (δ ⟨_,rfl,δ (fin h₂ he₂ (Heap.SameBut.refl _ _))⟩))
 |false=>
  rw[if_pos (show (gu false != gu true)=true from rfl)];refine γ (bH he₂ (by simp) λh₃ he₃ hs₃=>?_)
  replace hs₃:Heap.SameBut it h₂ h₃:=hs₃
  replace he₃:KdxIt h₃ it d (i+1) kvs.length ep ok ov a true:=he₃
  exact δ (δ (δ ⟨_,rfl,δ (fin h₃ he₃ hs₃)⟩))
theorem kdx_end_out(hh:A.handled=none)(hit:KdxIt s.heap it d i kvs.length ep ok ov a f)
  (hm:s.heap.gY d kvs ep) (hx:kvs[i]?=none)
  (hQ:∀h',Heap.ExtBut it s.heap h'->Q none { s with heap:=h' }):χ (model prog w) A (pyNext (.ref it)) Q E s:=by
 obtain⟨od,es,nB,hdd,hpr⟩:=id hm;have hT:s.TypeIs (.ref it) "dict_itemiterator":=⟨_,hit,rfl⟩;refine γ (fD (bD (name:=dY "__next__") hT PySem.F.slot_dict_itemiterator_next
  (bA PySem.F.slot_dict_itemiterator_next hT PySem.F.entry_dict_itemiterator_next ?_ (PySem.F.args_dict_itemiterator_next_1 _))))
 refine γ (δ (γ (γ ?_)))
 first|refine γ (b9 hT (δ ?_))|refine γ (cM hT (δ ?_))
 refine γ (kM hit rfl ?_);show χ _ _ (if (aw d==cq)=true then _ else _) _ _ s;rw[if_neg (show ¬((aw d==cq)=true) from af)];refine γ (δ (γ (i9 nB hdd ?_)));have hsz:es.size=kvs.length:=by rw[←hpr];simp
 rw[if_neg (by rw[hsz];simp)];refine γ (δ (γ (j6 nB hdd ?_)));rw[if_neg (by simp)];refine δ ?_;have hge:es.size≤i:=by rw[hsz];simpa using hx
 simp only[show ¬((i:Int)<0) from by lia,if_false,a9,qN hge];refine γ ?_
 first|refine γ (b9 hT (δ ?_))|refine γ (cM hT (δ ?_))
 show χ _ _ (setField (.ref it) 2 .none >>= _) _ _ s;refine γ (mX hit rfl (by simp) (γ (γ (bj (γ (m:=firstArgMember _ _) (iT (a:=cq) (by first|rfl|(simp only[firstArgMember];rfl)) (bj (γ (nU ?_)) (by size_fits)))) (by size_fits)))))
 rw[show A.in1.handled=none from hh];refine γ (δ (qz ?_));refine γ (dP (T:="StopIteration") (b:=true) ⟨_,Heap.get?_push_size _ rfl,rfl⟩ kO ?_);exact δ (hQ _ (((Heap.SameBut.update ..).extBut.push _).push _))
def KdxSt(h:Heap)(it d S:ν)(i n ep:Nat):Prop:=
 (i=0/\∃ok ov,jI h it d 0 n ep ok ov)∨∃ok ov a f oa,KdxIt h it d i n ep ok ov a f/\h.get? a=some oa/\a≠it/\a≠S
theorem KdxSt.keep(x:KdxSt h it d S i n ep)(hk:∀b o,b≠S->h.get? b=some o->h'.get? b=some o)(hI:it≠S):KdxSt h' it d S i n ep:=by
 rcases x with⟨e,ok,ov,hit⟩|⟨ok,ov,a,f,oa,hit,ha,hai,haS⟩
 ·exact .inl ⟨e,ok,ov,hk _ _ hI hit⟩
 ·exact .inr ⟨ok,ov,a,f,oa,hk _ _ hI hit,hk _ _ haS ha,hai,haS⟩
theorem kdx_item(hst:KdxSt s.heap it d S i kvs.length ep)(hS:S<s.heap.objs.size)
  (hm:s.heap.gY d kvs ep) (hx:kvs[i]?=some (k,v))
  (hQ:∀key h',key=k->KdxSt h' it d S (i+1) kvs.length ep->h'.get? s.heap.objs.size=some { cls:=.type "tuple",data:=.seq #[key,v]}->h'.objs.size=s.heap.objs.size+1 ->
   (∀b o,b≠it->s.heap.get? b=some o->h'.get? b=some o)->Q (some (.ref s.heap.objs.size)) { s with heap:=h' }):
  χ (model prog w) A (pyNext (.ref it)) Q E s:=by
 rcases hst with⟨rfl,ok,ov,hit⟩|⟨ok,ov,a,f,oa,hit,ha,hai,haS⟩
 ·obtain⟨od,es,nB,hdd,hpr⟩:=id hm;have hsz:kvs.length=es.size:=by rw[←hpr];simp
  have hlt:0<es.size:=by rw[←hsz];exact (Γ.mp hx).1
  have hen:=cN hlt;obtain⟨hkey,hval⟩:=Fi hpr (i:=0) (e:=es[0]) (by simp[hlt]) hx;rw[hsz] at hit hQ;refine L3.Af hit nB hdd hen λh' hit' ht hz hkeep=>?_;rw[hkey,hval] at hit' ht;exact hQ k h' rfl (.inr ⟨k,v,_,false,_,hit',ht,bL (Heap.lt_size hit),bL hS⟩) ht hz hkeep
 ·exact kdx_next_out hit ha hai hm hx λkey h' hk hit' ht hz hkeep=>hQ key h' hk (.inr ⟨ok,ov,a,true,oa,hit',hkeep a oa hai ha,hai,haS⟩) ht hz hkeep
theorem kdx_done(hh:A.handled=none)(hst:KdxSt s.heap it d S i kvs.length ep)(hm:s.heap.gY d kvs ep)(hx:kvs[i]?=none)
  (hQ:∀h',Heap.ExtBut it s.heap h'->Q none { s with heap:=h' }):χ (model prog w) A (pyNext (.ref it)) Q E s:=by
 rcases hst with⟨rfl,ok,ov,hit⟩|⟨ok,ov,a,f,oa,hit,_,_,_⟩
 ·obtain⟨od,es,nB,hdd,hpr⟩:=id hm;have hsz:kvs.length=es.size:=by rw[←hpr];simp
  rw[hsz] at hit;refine L3.AO hh hit nB hdd ?_ hQ;have:=eD.mp hx;lia
 ·exact kdx_end_out hh hit hm hx hQ
structure KdxG(kvs:List (ζ×ζ))(lo:ν)(h:Heap)(as:List ν):Prop where
 rise:as.Pairwise (· < ·)
 above:∀a∈as,lo<a
 pairs:∀(j:Nat) (a:ν),as[j]?=some a->∃key k x,kvs[j]?=some (k,x)/\key=k/\h.get? a=some { cls:=.type "tuple",data:=.seq #[key,x]}
theorem KdxG.there{lo:ν}(g:KdxG kvs lo h as)(ha:a∈as):a<h.objs.size:=by
 obtain⟨j,hj⟩:=me.mp ha;obtain⟨_,_,_,_,_,e⟩:=g.pairs j a hj;exact Heap.lt_size e
variable{R:Result->η->Prop}{kvs:List (ζ×ζ)}{ep:Nat}
theorem kdx_loop(hh:A.handled=none)(hSI:S<I)(hSd:d≠S)(hId:d≠I)(hn:kvs.length≤aA)(res:ζ){h₁:Heap}
  (hR:∀h' tk acc c as,(∀b o,b≠S->b≠I->h₁.get? b=some o->h'.get? b=some o)->h'.get? S=some { cls:=.type "list",dict:=none,data:=.seq acc c,slots:=#[]}->as.length=kvs.length->KdxG kvs I h' as ->
   acc.toList=as.map aw->R (.ok (.ret res)) { s with heap:=h',toks:=tk }):
  ∀(k i:Nat) (h:Heap) (tk c:Nat) (acc:Array ζ) (as:List ν),kvs.length-i=k->i≤kvs.length->KdxSt h I d S i kvs.length ep->h.gY d kvs ep->(∀b o,b≠S->b≠I->h₁.get? b=some o->h.get? b=some o) ->
   h.get? S=some { cls:=.type "list",dict:=none,data:=.seq acc c,slots:=#[]}->acc.toList=as.map aw->as.length=i->KdxG kvs I h as->I<h.objs.size ->
   gI (model prog w) A (.builtin "list.extend.loop" ⟨[.ref S,.ref I,res],[]⟩) R { s with heap:=h,toks:=tk }:=by
 have hne:=aV hSI;intro k
 induction k with
 |zero=>
  intro i h tk c acc as hk hi hst hD hkeep hS hacc hal hG hIs;have sg:i=kvs.length:=by lia
  refine cw PySem.F.entry_extend_loop ?_;rw[cj PySem.F.plain_extend_loop _];refine γ (kdx_done (s:={ s with heap:=h,toks:=tk }) (A:=A.in1) hh hst hD (eH (by lia)) λh' he=>?_);refine δ (hR h' tk acc c as (λb o h1 h2 e=>he b o h2 (hkeep b o h1 h2 e)) (he S _ hne hS) (by lia) ⟨hG.rise,hG.above,λj a hj=>?_⟩ hacc);obtain⟨key,kk,x,e1,e2,e3⟩:=hG.pairs j a hj;exact⟨key,kk,x,e1,e2,he a _ (bL (hG.above a (av hj))) e3⟩
 |succ k ih=>
  intro i h tk c acc as hk hi hst hD hkeep hS hacc hal hG hIs;have hlt:i<kvs.length:=by lia
  obtain⟨⟨kk,x⟩,hx⟩:∃p,kvs[i]?=some p:=⟨kvs[i],Θ hlt⟩;have hsz:acc.size=i:=by rw[←aK,hacc,ε,hal]
  refine cw PySem.F.entry_extend_loop ?_;rw[cj PySem.F.plain_extend_loop _];refine γ (kdx_item (s:={ s with heap:=h,toks:=tk }) (S:=S) hst (Heap.lt_size hS) hD hx λkey h' hkey hst' ht hz hkp=>?_);have hS':=hkp S _ hne hS;have up:∀b o,b≠S->h'.get? b=some o->(h'.update S (a7 (·.push (aw h.objs.size)))).get? b=some o:=λb o hb e=>(Heap.get?_update_other _ _ (di hb)).trans e;have hSl:=Heap.lt_size hS;refine γ ?_;refine fm hS' rfl (δ ⟨dX PySem.F.plain_extend_loop _,ih (i+1) _ tk _ (acc.push (aw h.objs.size)) (as++[h.objs.size]) (by lia) hlt (hst'.keep up (di hne)) (hD.at' λo e=>up d o hSd (hkp d o hId e))
   (λb o h1 h2 e=>up b o h1 (hkp b o h2 (hkeep b o h1 h2 e))) (Heap.get?_update_self _ hS' rfl) (by rw[k7,hacc,aP];rfl) (by rw[π,hal];rfl) ⟨?_,?_,?_⟩ ?_⟩) (by rw[hsz];lia) (by rw[Array.size_push,hsz];lia)
  ·refine Ξ.mpr ⟨hG.rise,bE _ _,λa ha b hb=>?_⟩;rw[ah.mp hb];exact hG.there ha
  ·intro a ha;rcases aa.mp ha with ha|ha
   ·exact hG.above a ha
   ·rw[ah.mp ha];exact hIs
  ·intro j b hj;rcases Nat.lt_trichotomy j as.length with h1|h1|h1
   ·rw[cx h1] at hj;obtain⟨key',k',x',e1,e2,e3⟩:=hG.pairs j b hj;have hb:=hG.above b (av hj);exact⟨key',k',x',e1,e2,up b _ (bL (jm hSI hb)) (hkp b _ (bL hb) e3)⟩
   ·subst h1;have hb:h.objs.size=b:=by simpa using hj
    subst hb;exact⟨key,kk,x,by rw[hal];exact hx,hkey,up _ _ (bL hSl) ht⟩
   ·have hnone:(as++[h.objs.size])[j]?=none:=eH (by rw[π,c9];lia);rw[hnone] at hj;cases hj
  ·have e:=up _ _ (bL hSl) ht;exact jm hIs (Heap.lt_size e)
end
theorem kdx_len_items:typeLookup (.type "dict_items") "__len__" = pure (some (.builtin "dict_items.__len__")):=by rw[qj,l9];kernel_rfl
section
variable {prog:ao} {w:aC} {A:aQ} {E:ζ->η->Prop} {s:η} {r d:ν} {kvs:List (ζ×ζ)} {ep:Nat}
theorem kdx_hint(hT:s.TypeIs (.ref r) "dict_items")(h:Q false s):χ (model prog w) A (f9.List.listLengthHint (.ref r)) Q E s:=by
 refine γ (fo hT kdx_len_items ?_);generalize hid:("dict_items.__len__":String)=id0
 wp_delta
 rw[show splitId id0=some ("dict_items","__len__") from by subst hid;decide +kernel];subst hid;exact γ (dP (T:="dict_items") (b:=true) hT (by rw[mZ];kernel_rfl) (qi (λhab=>absurd hab (by decide)) (λ_=>(qi (λ_=>(γ (fx hT (δ h)))) (λhab=>absurd (by decide +kernel) hab)))))
theorem kdx_extend(hh:A.handled=none)(hv:s.heap.IsItemsView r d)(hm:s.heap.gY d kvs ep)(S:ν)(hSr:S≠r)(hSd:d≠S)(res:ζ)(c₀:Nat)(hS:s.heap.get? S=some { cls:=.type "list",data:=.seq #[] c₀ })
  (hR:∀h' tk acc c as,(∀b o,b≠S->s.heap.get? b=some o->h'.get? b=some o)->h'.get? S=some { cls:=.type "list",dict:=none,data:=.seq acc c,slots:=#[]}->as.length=kvs.length->KdxG kvs s.heap.objs.size h' as ->
   acc.toList=as.map aw->R (.ok (.ret res)) { s with heap:=h',toks:=tk }) (hn:kvs.length≤aA):
  χ (model prog w) A.in1 (de (.ref S) (.ref r) res)
   (λfin s'=>match fin with | .done f=>R (.ok f) s' | .again c'=>c'.quiet=true/\gI (model prog w) A c' R s') (λe s'=>R (.error e) s') s:=by
 have hSI:S<s.heap.objs.size:=Heap.lt_size hS;have hdI:d<s.heap.objs.size:=hm.lt_size;have key:∀(h:Heap) (c₁ tk:Nat),(∀b o,b≠S->(s.heap.push { cls:=.type "dict_itemiterator",data:=.fields #[.none,.bool false,.ref d,.int 0 0,.int kvs.length 0,.int ep 0,.none,.none]}).get? b=some o->h.get? b=some o) ->
   h.get? S=some { cls:=.type "list",data:=.seq #[] c₁ }->gI (model prog w) A (.builtin "list.extend.loop" ⟨[.ref S,.ref s.heap.objs.size,res],[]⟩) R { s with heap:=h,toks:=tk }:=by
  intro h c₁ tk hk hS₁;have hI:=hk s.heap.objs.size _ (bL hSI) (Heap.get?_push_size _ rfl);refine kdx_loop (kvs:=kvs) (ep:=ep) (s:=s) (h₁:=s.heap) hh hSI hSd (aV hdI) hn res (λh' tk' acc c as hk' hS' hl hG hacc=>hR h' tk' acc c as (λb o hb e=>hk' b o hb (aV (Heap.lt_size e)) e) hS' hl hG hacc)
   kvs.length 0 h tk c₁ #[] [] (tJ _) (ar _) (.inl ⟨rfl,.none,.none,hI⟩) (hm.at' λo e=>hk d o hSd (Heap.get?_push_of_some _ e)) (λb o hb _ e=>hk b o hb (Heap.get?_push_of_some _ e)) hS₁ rfl rfl
   ⟨gS,(λ_ ha=>nomatch ha),(λj a hj=>by simp at hj)⟩ (Heap.lt_size hI)
 unfold de;refine γ (fx (T:="dict_items") hv.typeIs ?_);have h1:ip (.ref S) (.ref r)=false:=by simp[ip,hSr]
 have h2:(gs "dict_items" == gs "list")=false:=by decide
 have h3:(gs "dict_items" == gs "tuple")=false:=by decide
 simp only[h1,h2,h3,Bool.or_false,eQ,if_false];refine γ (Yu hv hm ?_);have hS₁:=Heap.get?_push_of_some { cls:=.type "dict_itemiterator",data:=.fields #[.none,.bool false,.ref d,.int 0 0,.int kvs.length 0,.int ep 0,.none,.none]} hS;refine γ (bY (kdx_hint (let ⟨o,ho,hc,_⟩:=hv;⟨o,Heap.get?_push_of_some _ ho,hc⟩) ?_))
 refine qi (λ_=>(γ (eX (γ (γ (fm hS₁ rfl ?_)))))) (λ_=>δ ⟨dX PySem.F.plain_extend_loop _,key _ c₀ _ (λb o _ e=>e) hS₁⟩);have hS₂:=Heap.get?_update_self (a7 (·.push cq)) hS₁ rfl;refine fm (hz:=by seq_fits) hS₂ rfl ?_;have hS₃:=Heap.get?_update_self (a7 (·.pop)) hS₂ rfl;exact δ ⟨dX PySem.F.plain_extend_loop _,key _ _ _ (λb o hb e=>((Heap.get?_update_other _ _ (di hb)).trans ((Heap.get?_update_other _ _ (di hb)).trans e))) hS₃⟩
theorem KdxG.low{lo:ν}(g:KdxG kvs lo h as)(hl:lo'≤lo):KdxG kvs lo' h as:=⟨g.rise,λa ha=>iK hl (g.above a ha),g.pairs⟩
theorem kdx_init(hh:A.handled=none)(hv:s.heap.IsItemsView r d)(hm:s.heap.gY d kvs ep)(S:ν)(hSr:S≠r)(hSd:d≠S)(hS:s.heap.get? S=some { cls:=.type "list",data:=.seq #[]})
  (hR:∀h' tk acc c as,(∀b o,b≠S->s.heap.get? b=some o->h'.get? b=some o)->h'.get? S=some { cls:=.type "list",dict:=none,data:=.seq acc c,slots:=#[]}->as.length=kvs.length->KdxG kvs S h' as ->
   acc.toList=as.map aw->R (.ok (.ret .none)) { s with heap:=h',toks:=tk }) (hn:kvs.length≤aA):
  χ (model prog w) A.in1 (f9.«list.__init__» ⟨[.ref S,.ref r],[]⟩)
   (λfin s'=>match fin with | .done f=>R (.ok f) s' | .again c'=>c'.quiet=true/\gI (model prog w) A c' R s') (λe s'=>R (.error e) s') s:=by
 show χ _ _ (do let old ←qL (.ref S);f9.List.listUpdate (.ref S) (λ_=>#[]);letGo old.toList.reverse;de (.ref S) (.ref r) .none) _ _ s
 refine γ ?_;unfold qL;refine γ (bJ hS rfl (δ ?_));show χ _ _ (updateSeq S (λ_=>#[]) >>= λ_=>letGo (#[]:Array ζ).toList.reverse >>= λ_=>de (.ref S) (.ref r) .none) _ _ s;refine γ (fm hS rfl ?_);have hS₂:=Heap.get?_update_self (a7 (λ_=>(#[]:Array ζ))) hS rfl;have oth:∀b o,b≠S->s.heap.get? b=some o->(s.heap.update S (a7 (λ_=>(#[]:Array ζ)))).get? b=some o:=
  λb o hb e=>(Heap.get?_update_other _ _ (di hb)).trans e
 refine γ (hJ ?_);refine kdx_extend (kvs:=kvs) (ep:=ep) hh (let ⟨o,ho,x⟩:=hv;⟨o,oth r o hSr.symm ho,x⟩) (hm.at' λo e=>oth d o hSd e) S hSr hSd .none _ hS₂ (λh' tk acc c as hk hS' hl hG hacc=>?_) hn
 exact hR h' tk acc c as (λb o hb e=>hk b o hb (oth b o hb e)) hS' hl (hG.low (mH (Heap.lt_size hS₂))) hacc
theorem kdx_call(hh:A.handled=none)(hv:s.heap.IsItemsView r d)(hm:s.heap.gY d kvs ep)(hn:kvs.length≤aA)
  (hQ:∀h' tk acc c as,(∀b o,s.heap.get? b=some o->h'.get? b=some o)->h'.get? s.heap.objs.size=some { cls:=.type "list",dict:=none,data:=.seq acc c,slots:=#[]}->as.length=kvs.length->KdxG kvs s.heap.objs.size h' as ->
   acc.toList=as.map aw->Q (.ref s.heap.objs.size) { s with heap:=h',toks:=tk }):
  χ (model prog w) A (call (.type "list") [.ref r]) Q E s:=by
 refine callType_codes (Q₁:=λobj s₁=>obj=.ref s.heap.objs.size/\s₁={ s with heap:=s.heap.push { cls:=.type "list",data:=.seq #[]}}) PySem.F.called_list (PySem.F.typeCall_list_1 _) PySem.F.entry_list_init
  (code_list_new _ ⟨rfl,rfl⟩) λobj s₁ h₁=>?_
 obtain⟨rfl,rfl⟩:=h₁;have hS:(s.heap.push { cls:=.type "list",data:=.seq #[]}).get? s.heap.objs.size=some { cls:=.type "list",data:=.seq #[]}:=Heap.get?_push_size _ rfl;have hr:r<s.heap.objs.size:=let ⟨_,ho,_⟩:=hv;Heap.lt_size ho
 have hd:d<s.heap.objs.size:=hm.lt_size;refine⟨⟨_,hS,rfl⟩,PySem.F.args_list_init_2 _ _,kdx_init (kvs:=kvs) (ep:=ep) (A:=A.in1) hh (let ⟨o,ho,x⟩:=hv;⟨o,Heap.get?_push_of_some _ ho,x⟩) (hm.push _) _ (bL hr) (aV hd) hS (λh' tk acc c as hk hS' hl hG hacc=>?_) hn⟩
 exact⟨rfl,hQ h' tk acc c as (λb o e=>hk b o (aV (Heap.lt_size e)) (Heap.get?_push_of_some _ e)) hS' hl hG hacc⟩
theorem kdx_collect(hh:A.handled=none)(hv:s.heap.IsItemsView r d)(hm:s.heap.gY d kvs ep)(hn:kvs.length≤aA)
  (h:∀(h':Heap) (tk:Nat) (as:List ν),(∀b o,s.heap.get? b=some o->h'.get? b=some o)->as.length=kvs.length->KdxG kvs s.heap.objs.size h' as->R (as.map aw) { s with heap:=h',toks:=tk }):
  χ (model prog w) A (collect (.ref r)) R E s:=by
 have hr:r<s.heap.objs.size:=let ⟨_,ho,_⟩:=hv;Heap.lt_size ho
 have hd:d<s.heap.objs.size:=hm.lt_size;unfold collect;refine γ (mY (cw entry_proto_collect' ?_));rw[cj PySem.F.plain_proto_collect _];show χ _ A.in1 (newList [] >>= λl=>again (.builtin "list.__iadd__" ⟨[l,.ref r],[]⟩)) _ _ s;refine γ (bj ?_);refine δ ⟨dX PySem.F.plain_list_iadd _,cw entry_list_iadd' ?_⟩;rw[cj PySem.F.plain_list_iadd _];have hS₁:(s.heap.push { cls:=.type "list",data:=.seq ([]:List ζ).toArray }).get? s.heap.objs.size=some { cls:=.type "list",data:=.seq #[]}:=Heap.get?_push_size _ rfl;show χ _ A.in1 (de (.ref s.heap.objs.size) (.ref r) (.ref s.heap.objs.size)) _ _ _;have key:=kdx_extend (prog:=prog) (w:=w) (A:=A) (s:={ s with heap:=s.heap.push { cls:=.type "list",data:=.seq ([]:List ζ).toArray }}) (kvs:=kvs) (ep:=ep)
  (R:=λ(q:Result) (s':η)=>∃(h':Heap) (tk:Nat) (acc':Array ζ) (c':Nat) (as:List ν),q=.ok (.ret (.ref s.heap.objs.size))/\s'={ s with heap:=h',toks:=tk } ∧
   (∀b o,s.heap.get? b=some o->h'.get? b=some o)/\h'.get? s.heap.objs.size=some { cls:=.type "list",dict:=none,data:=.seq acc' c',slots:=#[]}/\as.length=kvs.length/\KdxG kvs s.heap.objs.size h' as/\acc'.toList=as.map aw)
  hh (let ⟨o,ho,x⟩:=hv;⟨o,Heap.get?_push_of_some _ ho,x⟩) (hm.push _) s.heap.objs.size (bL hr) (aV hd) (.ref s.heap.objs.size) 0 hS₁
  (λh' tk acc' c' as hk hS' hl hG hacc=>⟨h',tk,acc',c',as,rfl,rfl,λb o e=>hk b o (aV (Heap.lt_size e)) (Heap.get?_push_of_some _ e),hS',hl,hG.low (by show s.heap.objs.size≤(s.heap.push _).objs.size;rw[Heap.size_push];exact Nat.le_succ _),hacc⟩) hn
 refine eY key (λfin s' x=>?_) λe s' x=>?_
 ·cases fin with
  |done f=>
   obtain⟨h',tk,acc',c',as,e,rfl,hk,hS',hl,hG,hacc⟩:=x;cases e;show χ _ A (load s.heap.objs.size >>= _) _ _ _;refine γ (oK hS' ?_);refine δ ?_;show R acc'.toList _;rw[hacc];exact h h' tk as hk hl hG
  |again c₁=>
   refine⟨x.1,ky x.2 λq s₂ y=>?_⟩;obtain⟨h',tk,acc',c',as,rfl,rfl,hk,hS',hl,hG,hacc⟩:=y;show χ _ A (load s.heap.objs.size >>= _) _ _ _;refine γ (oK hS' ?_);refine δ ?_;show R acc'.toList _;rw[hacc];exact h h' tk as hk hl hG
 ·obtain⟨_,_,_,_,_,e',_⟩:=x;cases e'
end
end Ke
namespace L3
open PySem PySem.Spec PyProof.Rows L2
open Sem (wp)
def kj:Hp->List ν->List (V×V)->Hp
 |H,a::as,p::ps=>kj (upd H a (.tup [p.1,p.2])) as ps
 |H,_,_=>H
theorem Bz:kj H [] ps=H:=by cases ps<;>rfl
theorem ze:∀{as:List ν} {ps:List (V×V)} {H:Hp},b∉as->kj H as ps b=H b
 |[],_,_,_=>by rw[Bz]
 |a::as,[],_,_=>rfl
 |a::as,p::ps,H,h=>by
  simp only[Ψ,not_or] at h;obtain⟨h1,h2⟩:=h;show kj (upd H a _) as ps b=_;rw[ze h2,fj h1]
theorem Fh:∀{as:List ν} {ps:List (V×V)} {H:Hp} {j:Nat} {a:ν} {p:V×V},as.Nodup->as[j]?=some a->ps[j]?=some p->kj H as ps a=some (.tup [p.1,p.2])
 |[],_,_,_,_,_,_,h,_=>by simp at h
 |b::as,[],_,_,_,_,_,_,h=>by simp at h
 |b::as,q::ps,H,0,a,p,hd,h,h'=>by
  simp at h h';subst h h';show kj (upd H b _) as ps b=_;rw[ze (cc.mp hd).1,jw]
 |b::as,q::ps,H,j+1,a,p,hd,h,h'=>by
  show kj (upd H b _) as ps a=_;exact Fh (cc.mp hd).2 (by simpa using h) (by simpa using h')
section
variable {X:Cx} {pins:List (ν×bT)} {σ:L2.St} {H H':Hp} {s:η}
theorem DN{fp:List ν}(I:L2.Inv X pins σ H s)(k:∀b o,b∉fp->s.heap.get? b=some o->h'.get? b=some o)(hf:∀b∈fp,kv X pins H b)(hold:∀b,b<s.heap.objs.size->H' b=H b)
  (new:∀a o,s.heap.objs.size≤a->H' a=some o->fk X.prog X.w H' h' a o):L2.Inv X pins σ H' { s with heap:=h',toks:=t' }:=by
 have nit:∀b u,H b=some u->b∉fp:=λb u e z=>by rw[(hf b z).1] at e;cases e
 have kp:∀b u,H b=some u->H' b=some u:=λb u e=>by rw[hold b (I.bX.lt e)];exact e
 refine I.step (g':=s.gens) (d':=s.drawn) (ch:=fp) (λb hb=>?_) (λb o _ _ hc e _=>k b o hc e) (λb o _ _ hc e _=>⟨o.slots,k b o hc e⟩) (λb o _ e n=>by rw[hold b (Heap.lt_size e)];exact n) (λb o hc e=>⟨o,k b o hc e⟩) (λ_ _ e=>kp _ _ e) (λ_ _ _ e=>kp _ _ e) (λb ps e=>⟨#[],by rw[kp _ _ e];simp⟩) (λm hm=>?_) (λb u e=>?_) I.bare
 ·obtain⟨f0,f1,f2,f3,f4,f5⟩:=hf b hb;exact⟨f3,f1,f4,f5⟩
 ·obtain⟨o,es,ep,ho,r⟩:=hm;exact⟨o,es,ep,k _ o (λz=>(hf _ z).2.1 rfl) ho,r⟩
 ·rcases tL b s.heap.objs.size with hb|hb
  ·rw[hold b hb] at e;refine (I.bX b u e).sH (λc v hc q=>k c v ?_ q) (λ_ q=>kp _ _ q) λ_ _ q=>kp _ _ q;rcases hc with z|z
   ·rw[z];exact nit b u e
   ·exact nit c _ z
  ·exact new b u hb e
end
section
variable {K:PySem.W.Frag}
theorem Fg:∀{as:List ν} {ps:List (V×V)} {H:Hp},as.Nodup->(∀c∈as,H c=none)->bh K G H->Step H G (kj H as ps) G/\bh K G (kj H as ps)
 |[],ps,H,_,_,R=>by rw[Bz];exact⟨.refl H G,R⟩
 |a::as,[],H,_,_,R=>⟨.refl H G,R⟩
 |a::as,p::ps,H,hd,hf,R=>by
  have h0:=hf a ι;obtain⟨n1,n2⟩:=cc.mp hd;obtain⟨S1,R1⟩:=Fg (G:=G) (as:=as) (ps:=ps) (H:=upd H a (.tup [p.1,p.2])) n2 (λc hc=>by rw[fj (show c≠a fromλz=>n1 (z▸hc))];exact hf c (μ _ hc)) (R.laid h0);exact⟨(Step.laid h0).trans S1,R1⟩
end
end L3
namespace fQ
open PySem PySem.W PyProof.Rows PySem.Calls aR
section
variable {prog:ao} {w:aC} {A:aQ} {E:ζ->η->Prop} {s:η}
theorem yT{α:Type}{lt:α->α->Bool}{f:α->ζ}{κ:dR}(O:tG lt){l:ν}{Q:ζ->η->Prop}{Gd:List α->Heap->Prop}
  (uQ:∀(R:List ζ->η->Prop),(∀h' tk ps,(∀b o,s.heap.get? b=some o->h'.get? b=some o)->Gd ps h'->R (ps.map f) { s with heap:=h',toks:=tk })->χ (model prog w) A.in1 (collect (.ref l)) R E s)
  (xW:∀h' ps,Gd ps h'->ps.length≤1000000/\(∀p∈ps,∀q∈ps,f p=f q->p=q)/\∀s':η,2≤ps.length->(∀b o,h'.get? b=some o->s'.heap.get? b=some o) ->
   (∀(Q:dR->η->Prop) (E':ζ->η->Prop),Q κ s'->χ (model prog w) A.in1.in1 (keyKind' (ps.map f).toArray) Q E' s')/\∀p∈ps,∀q∈ps,∀(Q:Bool->η->Prop) (E':ζ->η->Prop),Q (lt p q) s'->χ (model prog w) A.in1.in1 (keyLt' κ (f p) (f q)) Q E' s')
  (h:∀h1 ps qs h' tk c D,(∀b o,s.heap.get? b=some o->h1.get? b=some o)->Gd ps h1->tE lt ps qs->h1.get? D=none->h'.get? D=some (seqObj "list" (qs.map f).toArray c)->(∀b o,h1.get? b=some o->h'.get? b=some o)->Q (.ref D) { s with heap:=h',toks:=tk }):
  χ (model prog w) A (call (.builtin "sorted") [.ref l]) Q E s:=by
 refine GZ (κ:=κ) (Gd:=λps s1=>∃h' tk,s1={ s with heap:=h',toks:=tk }/\(∀b o,s.heap.get? b=some o->h'.get? b=some o)/\Gd ps h') O (λR hR=>uQ R λh' tk ps k g=>hR _ ps ⟨h',tk,rfl,k,g⟩) ?_ ?_
 ·rintro _ ps ⟨h',tk,rfl,k,g⟩;exact xW h' ps g
 ·rintro _ ps qs h2 c D ⟨h',tk,rfl,k,g⟩ hS hn e kk;exact h h' ps qs h2 tk c D k g hS hn e kk
end
end fQ
namespace aR
open PySem PySem.W PyProof.Rows cQ
abbrev eP(k:List Int×Int):List (List Int):=[k.1,[k.2]]
def yn(prog:ao)(w:aC)(h:Heap)(k:List Int×Int)(a:ν):Prop:=∃o b t m,h.get? a=some o/\o.cls=.type "tuple"/\o.data=.seq #[.ref b,.int k.2 t] m/\iF prog w h k.1 b
abbrev ZY(x y:(List Int×Int)×ν):Bool:=e8 (eP x.1) (eP y.1)
abbrev fP(p:(List Int×Int)×ν):ζ:=.ref p.2
theorem Zg:tG ZY:=⟨λ_ _ h=>oW h,λ_ _ _ h1 h2=>t5 h1 h2⟩
section
variable {prog:ao} {w:aC} {A:aQ} {E:ζ->η->Prop} {s:η}
theorem DP(kk:∀c ob,h.get? c=some ob->h'.get? c=some ob)(z:yn prog w h k a):yn prog w h' k a:=by
 obtain⟨o,b,t,m,e1,e2,e3,e4⟩:=z;exact⟨o,b,t,m,kk _ _ e1,e2,e3,t6 kk e4⟩
theorem AV(hu:A.units+16<cLine)(hx:yn prog w s.heap x a)(hy:yn prog w s.heap y b)(h:Q (e8 (eP x) (eP y)) s):χ (model prog w) A (keyLt' (tuples' false) (.ref a) (.ref b)) Q E s:=by
 obtain⟨o,c,t,m,e1,e2,e3,e4⟩:=hx;obtain⟨o',c',t',m',e1',e2',e3',e4'⟩:=hy;refine kat_lt e1 e3 e1' e3' (kat_cons (gD (by lia) e4 e4' ?_));have h':Q (if x.1=y.1 then (if [x.2]=[y.2] then false else (if x.2=y.2 then lx [] [] else decide (x.2<y.2))) else lx x.1 y.1) s:=h;by_cases e:x.1=y.1
 ·rw[if_pos e] at h';rw[decide_eq_true e];refine kat_yes (kat_cons (pF ?_));by_cases e5:x.2=y.2
  ·rw[if_pos (by rw[e5])] at h';rw[show (x.2==y.2)=true by simpa using e5];exact kat_yes (oX h')
  ·rw[if_neg (λz=>e5 (nX z).1),if_neg e5] at h';rw[show (x.2==y.2)=false by simpa using e5];exact kat_no (kat_one _ _ (lt_int h'))
 ·rw[if_neg e] at h';rw[decide_eq_false e];refine kat_no ?_;obtain⟨i1,t1,j1⟩:=HT.nA e4;obtain⟨i2,t2,j2⟩:=HT.nA e4';refine kat_one _ _ (HT.oG t1 t2 j1 j2 (by lia) ?_);rwa [←zV]
theorem Ff:∀{ps:List ((List Int×Int)×ν)},(∀p∈ps,yn prog w h p.1 p.2)->∃fs,KatTups h (ps.map λp=>aw p.2) fs/\fs.length=ps.length/\∀v∈fs,∃ks b,v=.ref b/\iF prog w h ks b
 |[],_=>⟨[],.nil,rfl,λv hv=>nomatch hv⟩
 |p::ps,hk=>by
  obtain⟨fs,h1,h2,h3⟩:=Ff (ps:=ps) λq hq=>hk q (μ _ hq);obtain⟨o,b,t,m,e1,e2,e3,e4⟩:=hk p ι;refine⟨.ref b::fs,tR e1 e2 e3 (by simp) h1,by simp[h2],λu hu=>?_⟩;rcases Ψ.mp hu with q|q
  ·exact⟨_,b,q,e4⟩
  ·exact h3 u q
theorem CP(hne:ps≠[])(hk:∀p∈ps,yn prog w s.heap p.1 p.2)(h:Q (tuples' false) s):χ (model prog w) A (keyKind' (ps.map fP).toArray) Q E s:=by
 obtain⟨fs,h1,h2,h3⟩:=Ff hk;have hl:0<fs.length:=by
  rw[h2];exact jT.mpr hne
 refine kat_kind (T:=.type "tuple") h1 hl (λv hv=>?_) rfl h;obtain⟨ks,b,rfl,⟨o,its,n,ho,hc,hd,hi⟩⟩:=h3 v hv;rw[←hc];exact (Looks.ld ho).andThen .now
end
end aR
namespace L3
open PySem PySem.Spec PyProof.Rows L2 My
def AU(p:List Int×Int):D:=.tup [tupI p.1,.int p.2]
def kT(kns:List (List Int×Int)):List KD:=kns.map λp=>(p.1,D.int p.2)
def wJ(v a:ν):Heap->Prop:=λh=>h.IsItemsView v a
def wy(xs:List km)(kns:List (List Int×Int)):List (V×V):=(xs.map λx=>V.ref x.2.1).zip (kns.map λp=>V.int p.2)
section
variable {X:Cx} {o:aT} {apos cpos:d9}
theorem Yt(ho:PE X o to)(rR:attributeBase o "items" X.env (eval o X.env)=eval o X.env)(rP:(apos.endLine==cpos.line)=true):
  PE X (.Call (.Attribute o "items" apos) [] [] cpos) (λσ H Q=>to σ H λx H1=>∃a ob xs,x=.ref a/\H1 a=some (.ext (kX a ob))/\(a==sysModules)=false/\o9 ob xs/\∀v,H1 v=none->Q (.ref v) (upd H1 v (.ext (wJ v a)))):=by
 intro pins s σ H Q I h;refine wpAny_Call_method0_late rR rP (bN (ho pins s σ H _ I h) λv s1 zz=>?_);obtain⟨x,H1,I1,r1,a,ob,xs,ex,e1,z0,RD,q⟩:=zz;subst ex;obtain rfl:v=aw a:=r1;have hh:=zf I1 e1;have hT:s1.TypeIs (.ref a) "dict":=⟨ob,hh,RD.1.1⟩;refine⟨"dict","dict.items",F.plainAttrs_dict,F.slot_dict_items,F.type_dict_items,hT,λa1 e=>by cases e;exact⟨ob,hh,RD.1.2.1⟩,lD rfl (PySem.evalArgs_none (call_meetsIn F.slot_dict_items hT F.entry_dict_items (F.args_dict_items_1 _) (Yv a z0) ⟨hT,?_⟩))⟩;have hv:(s1.heap.push { cls:=.type "dict_items",data:=.fields #[.ref a]}).IsItemsView s1.heap.objs.size a:=⟨_,Heap.get?_push_size _ rfl,rfl,rfl⟩;refine⟨.ref s1.heap.objs.size,_,I1.laid (t':=s1.toks) (o:=.ext (wJ s1.heap.objs.size a)) (λb o e=>Heap.get?_push_of_some _ e) (ρ _) ⟨hv,⟨_,Heap.get?_push_size _ rfl⟩,λh1 h2 ⟨o',y1,y⟩ kk=>⟨o',kk _ y1,y⟩⟩,rfl,q _ (I1.bX.fresh (ρ _))⟩
theorem fg.at_{K:PySem.W.Frag}(h:fg K H (kT kns) xs){j:Nat}(hp:kns[j]?=some p):∃x t,xs[j]?=some x/\x.2.2=.int p.2 t/\cR K H x.2.1 (p.1.map V.int):=by
 obtain⟨x,hx,er⟩:=h.get (i:=j) (q:=(p.1,D.int p.2)) (by unfold kT;rw[ax,hp];rfl);obtain⟨v,h1,h2⟩:=er.v;have:=jX h1;subst this;obtain⟨t,ht⟩:=(show ∃t,x.2.2=iG p.2 t from h2);have:=er.t;rw[er.k] at this;exact⟨x,t,hx,ht,this⟩
theorem XQ{K:PySem.W.Frag}(h:fg K H (kT kns) xs):xs.length=kns.length:=by
 have:=congrArg bM h.keys;unfold kT at this;rwa [ε,ε,ε] at this
def DG(xs:List km)(kns:List (List Int×Int))(s:η)(ps:List ((List Int×Int)×ν))(h':Heap):Prop:=
 ∃as:List ν,as.length=xs.length/\Ke.KdxG (xs.map λx=>(aw x.2.1,x.2.2)) s.heap.objs.size h' as/\ps=kns.zip as/\∀b o,s.heap.get? b=some o->h'.get? b=some o
theorem zd{kns:List (List Int×Int)}{p:(List Int×Int)×ν}(h:p∈kns.zip as):∃j:Nat,kns[j]?=some p.1/\as[j]?=some p.2:=by
 obtain⟨j,hj⟩:=me.mp h;exact⟨j,gZ.mp hj⟩
theorem XO{as:List ν}(nd:as.Pairwise (· < ·)){j:Nat}(hi:as[i]?=some a)(hj:as[j]?=some a):i=j:=by
 obtain⟨h1,e1⟩:=Γ.mp hi;obtain⟨h2,e2⟩:=Γ.mp hj;rcases Nat.lt_trichotomy i j with h|h|h
 ·have:=bW.mp nd i j h1 h2 h;rw[e1,e2] at this;exact absurd this (cA _)
 ·exact h
 ·have:=bW.mp nd j i h2 h1 h;rw[e1,e2] at this;exact absurd this (cA _)
theorem FT:∀{as:List ν} {ps:List (V×V)} {H:Hp},as.Nodup->(∀c∈as,H c=none)->Ext H (kj H as ps)
 |[],ps,H,_,_=>by rw[Bz];exact Ext.refl _
 |a::as,[],H,_,_=>Ext.refl _
 |a::as,p::ps,H,hd,hf=>by
  have h0:=hf a ι;obtain⟨n1,n2⟩:=cc.mp hd;exact Ext.trans (.laid h0) (FT (ps:=ps) n2 λc hc=>by rw[fj (show c≠a fromλz=>n1 (z▸hc))];exact hf c (μ _ hc))
theorem XN(hc:X.calm=true)(hu:X.A.units+64<cLine):gG X (.builtin "sorted") (λvs H Q=>∃(v a:ν) (ob:bT) (xs:List km) (kns:List (List Int×Int)),vs=[.ref v]/\H v=some (.ext (wJ v a))/\H a=some (.ext (kX a ob))/\o9 ob xs/\fg X.K H (kT kns) xs/\kns.length≤1000 ∧
  ∀(as:List ν) (D':ν) (mss:List (List Int×Int)) (ys:List V),as.Nodup->(∀c∈as,H c=none)->kj H as (wy xs kns) D'=none->mss.Perm kns->jZ (mss.map aR.eP)->aU X.K (kj H as (wy xs kns)) (mss.map AU) ys->Q (.ref D') (upd (kj H as (wy xs kns)) D' (.lst ys))):=by
 intro pins s σ H vs us Q I r h;obtain⟨v,a,ob,xs,kns,rfl,ev,ea,RD,hE,hz,q⟩:=h;obtain⟨u,rfl,ru⟩:=vals1 r;cases ru;have hlx:=XQ hE;obtain⟨hview,_⟩:=(show fk X.prog X.w H s.heap v _ from I.bX v _ ev);have hdic:=zf I ea;obtain⟨_,⟨P',w',ees,ep,r2,r3⟩,_⟩:=RD;have hraw:s.heap.gY a (xs.map λx=>(aw x.2.1,x.2.2)) ep:=⟨ob,ees,hdic,r2,by rw[r3,aJ];rfl⟩;have hps:∀{ps:List ((List Int×Int)×ν)} {h':Heap},DG xs kns s ps h'->∀p∈ps,aR.yn X.prog X.w h' p.1 p.2:=by
  rintro ps h' ⟨as,hl,hG,rfl,kk⟩ p hp;obtain⟨j,h1,h2⟩:=zd hp;obtain⟨x,t,h3,h4,h5⟩:=hE.at_ h1;obtain⟨key,k,y,e1,e2,e3⟩:=hG.pairs j p.2 h2;rw[ax,h3] at e1;have e1:=aL e1;have ek:k=.ref x.2.1:=(congrArg (·.1) e1).symm;have ey:y=.int p.1.2 t:=by rw[←h4];exact (congrArg (·.2) e1).symm
  rw[e2,ek,ey] at e3;obtain⟨its,rv,⟨o,y1,y2,n,y3⟩,_⟩:=I.tuple h5;exact⟨_,_,t,_,e3,rfl,rfl,cQ.t6 kk ⟨o,its.toArray,n,y1,y2,y3,zu rv⟩⟩
 refine fQ.yT (κ:=tuples' false) (f:=aR.fP) aR.Zg (Gd:=DG xs kns s) (λR hR=>?_) (λh' ps hg=>⟨?_,?_,λs' h2 kk=>?_⟩) λh1 ps qs h' tk c D' kk hg hS hn hD tf=>?_
 ·refine Ke.kdx_collect (by have:=I.ok.hd hc;simpa using this) hview hraw (by rw[ε,hlx,cG];lia) λh' tk as kk hl hG=>?_;rw[ε] at hl;have:=hR h' tk (kns.zip as) kk ⟨as,hl,hG,rfl,kk⟩;have e:(kns.zip as).map aR.fP=as.map aw:=by
   show (kns.zip as).map (aw ∘ λp:(List Int×Int)×ν=>p.2)=_;rw[←aJ (f:=λp:(List Int×Int)×ν=>p.2) (g:=aw),List.map_snd_zip (by rw[hl,hlx];exact ρ _)]
  rwa [e] at this
 ·obtain⟨as,hl,hG,rfl,_⟩:=hg;rw[mJ];lia
 ·obtain⟨as,hl,hG,rfl,_⟩:=hg;intro p hp p' hp' e;injection e with e;obtain⟨j,h1,h2⟩:=zd hp;obtain⟨j',h1',h2'⟩:=zd hp';rw[←e] at h2';have ej:=XO hG.rise h2 h2';subst ej;rw[h1] at h1';exact uT (aL h1') e
 ·have hk':=λp hp=>aR.DP kk (hps hg p hp);exact⟨λQ E q=>aR.CP (λz=>by rw[z] at h2;simp at h2) hk' q,λp hp q hq Q E hq'=>aR.AV (by lia) (hk' p hp) (hk' q hq) hq'⟩
 ·obtain⟨as,hl,hG,rfl,kk0⟩:=hg;have nd:=hG.rise.imp λh=>aV h;have fr:=λc hc=>I.bX.fresh (mH (hG.above c hc));have key:∀{j:Nat} {a':ν},as[j]?=some a'->∃p x t,kns[j]?=some p/\cR X.K H x (p.1.map V.int)/\kj H as (wy xs kns) a'=some (.tup [.ref x,.int p.2])/\h1.get? a'=some { cls:=.type "tuple",data:=.seq #[.ref x,.int p.2 t]}:=by
   intro j a' hj;have hjl:=(Γ.mp hj).1;have hkj:kns[j]?=some (kns[j]'(by lia)):=Θ (by lia);obtain⟨x,t,h3,h4,h5⟩:=hE.at_ hkj;obtain⟨key,k,y,e1,e2,e3⟩:=hG.pairs j a' hj;rw[ax,h3] at e1;have e1:=aL e1;have ek:k=.ref x.2.1:=(congrArg (·.1) e1).symm;have ey:y=.int (kns[j]'(by lia)).2 t:=by rw[←h4];exact (congrArg (·.2) e1).symm
   rw[e2,ek,ey] at e3;exact⟨_,x.2.1,t,hkj,h5,(Fh nd hj (p:=(V.ref x.2.1,V.int (kns[j]'(by lia)).2)) (gZ.mpr ⟨by rw[ax,h3];rfl,by rw[ax,hkj];rfl⟩)),e3⟩
  have I1:L2.Inv X pins σ (kj H as (wy xs kns)) { s with heap:=h1,toks:=tk }:=by
   refine DN (fp:=[]) I (λb o _ e=>kk b o e) (λb hb=>nomatch hb) (λb hb=>ze λhm=>Nat.lt_asymm hb (hG.above b hm)) λa' o hle e=>?_;by_cases hm:a'∈as
   ·obtain⟨j,hj⟩:=me.mp hm;obtain⟨p,x,t,k1,k2,k3,k4⟩:=key hj;rw[k3] at e;cases e;exact⟨by show 2≤aA;decide,[.ref x,.int p.2 t],.cons rfl (.cons ⟨t,rfl⟩ .nil),⟨_,k4,rfl,⟨_,rfl⟩,rfl⟩⟩
   ·rw[ze hm,I.bX.fresh hle] at e;cases e
  have hvq:∀p∈kns.zip as,Hv X.K (kj H as (wy xs kns)) (AU p.1) (.ref p.2):=λp hp=>by
   obtain⟨j,h1',h2'⟩:=zd hp;obtain⟨p',x,t,k1,k2,k3,k4⟩:=key h2';rw[h1'] at k1;cases k1;have k5:=cR.ext (show Ext H (kj H as (wy xs kns)) from FT nd fr) k2;exact⟨p.2,[.ref x,.int p.1.2],rfl,.of k3,.cons ⟨_,_,rfl,k5,Fj p.1.1⟩ (.cons mo .nil)⟩
  have hlq:qs.length≤1000:=by
   rw[hS.perm.length_eq,mJ];lia
  refine⟨.ref D',_,Inv.wM (s:={ s with heap:=h1,toks:=tk }) I1 (o:=.lst (qs.map λp=>.ref p.2)) (t':=tk) (h':=h') tf hn ?_,rfl,?_⟩
  ·refine⟨?_,_,c,?_,hD⟩
   ·rw[ε,cG];lia
   ·clear hlq hD hS
    induction qs with
    |nil=>exact .nil
    |cons x qs ih=>exact .cons rfl ih
  ·refine q as D' (qs.map (·.1)) _ nd fr (Inv.vj I1 hn) ?_ ?_ ?_
   ·have:=hS.perm.map (λp:(List Int×Int)×ν=>p.1);rwa [pN (by rw[hl,hlx];exact ρ _)] at this
   ·rw[aJ];exact aO.mpr hS.rise
   ·have hall:=λp hp=>hvq p (hS.perm.mem_iff.mp hp);clear hlq hD hS
    induction qs with
    |nil=>exact .nil
    |cons x qs ih=>exact .cons (hall x ι) (ih λp hp=>hall p (μ _ hp))
variable{e:aT}{to ta tb:cu}{p pos:d9}{tg a b:aT}
def yL(to:cu):cu:=λτ G Q=>to τ G λx G1=>match x with
 |.obj p=>∃kns ob,G1 p=some (.gen (lL (kT kns) ob))/\kns.length≤1000/\∀(q:ν) (mss:List (List Int×Int)) (G':Gp),d8 G1 q (.lst (mss.map AU)) G'->mss.Perm kns->jZ (mss.map aR.eP)->Q (.obj q) G'
 |_=>False
theorem XM(hu:X.A.units+64<cLine)(ho:QE X o to)(hm:X.mg "sorted" = none)(hc:X.calm=true:=by rfl)(hg:Gl X "sorted":=by rfl)(rR:attributeBase o "items" X.env (eval o X.env)=eval o X.env:=by rfl)(rP:(apos.endLine==cpos.line)=true:=by rfl):
  QE X (.Call (.Name "sorted" p) [.Call (.Attribute o "items" apos) [] [] cpos] [] pos) (yL to):=
 ⟨jJ (qT (XN hc hu) hg hm rfl (sW (Yt ho.of rR rP) uk (eU rfl)) (he:=eU rfl) (hpl:=k9 rfl)) λσ H Q zz=>by
  obtain⟨τ,G,Q3,RS,RG,h,k⟩:=zz;refine⟨τ,G,_,RS,RG,h,λv H1 d G1 h1 S1 R1 q1=>?_⟩;cases d with
  |obj p=>
   obtain⟨kns,ob,e1,hz,q⟩:=q1;obtain⟨⟨z1,z0,xs,z2,z3⟩,_⟩:=R1 p _ e1;refine⟨p,ob,xs,iY h1,z1,z0,z2,λv hv=>?_⟩;have hne:p≠v:=λz=>by rw[z,hv] at z1;cases z1
   have R2:bh X.K G1 (upd H1 v (.ext (wJ v p))):=R1.laid hv;refine⟨v,p,ob,xs,kns,rfl,jw,by rw[fj hne];exact z1,z2,z3.ext (.laid hv),hz,λas D' mss ys nd fr hD hp hr hv2=>?_⟩;obtain⟨S3,R3⟩:=Fg (K:=X.K) (G:=G1) (ps:=wy xs kns) nd fr R2;exact k _ _ (.obj D') _ qS (((S1.trans (.laid hv)).trans S3).trans (.iq hD)) (R3.nN hD hv2) (q D' mss _ (.mk' (R3.free hD)) hp hr)
  |_=>exact q1.elim⟩
end
end L3
namespace L3
open PySem PySem.Spec PyProof.Rows L2
section
variable {X:Cx} {o i e f:aT} {pos pos' p apos cpos ps:d9} {to ti tv tk td:cu} {es:List aT} {n0:Nat}
theorem XJ:QE X (.Dict [] [] pos) yb:=⟨YA⟩
theorem XI(hu:X.A.units+64<cLine)(ho:QE X o to)(hi:QE X i ti)(hv:QE X e tv)(hs:swapsWith e (some (.Subscript o i pos')) pos.line X.env=pure false:=by rfl):
  QS X (.Assign [.Subscript o i pos'] e pos) (wK to ti tv):=⟨Yy hu ho.of hi.of hv.of hs⟩
theorem XH(hu:X.A.units+64<cLine)(ho:QE X o to)(he:QE X e tk)(hf:QE X f td)(m:M2 X o "get" apos e f cpos:=by exact⟨rfl,rfl,rfl,rfl⟩):QE X (.Call (.Attribute o "get" apos) [e,f] [] cpos) (wN to tk td):=⟨Yw hu ho.of he.of hf.of m⟩
end
end L3
namespace My
open PySem L2 L3
abbrev gw(cs:List ψ):List Int:=cs.map (·.1)
def rB(kns:List (List Int×Int))(k:List Int):Int:=((kns.find? λp=>decide (p.1=k)).map (·.2)).getD 0
def kr(kns:List (List Int×Int))(k:List Int):List (List Int×Int):=if k∈kns.map (·.1) then kns.map (λp=>if p.1=k then (p.1,rB kns k+1) else p) else kns++[(k,rB kns k+1)]
def uX(tss:List (List Int)):List (List Int×Int):=tss.foldl kr []
theorem XG(kns:List (List Int×Int)):(kT kns).map (·.1)=kns.map (·.1):=by
 unfold kT;rw[aJ];rfl
theorem XF(kns:List (List Int×Int))(k:List Int):oH (kT kns) k (.int 0)=.int (rB kns k):=by
 unfold oH rB kT;rw[List.find?_map];cases h:kns.find? λp=>decide (p.1=k) with
 |none=>
  have:kns.find? ((λp:KD=>decide (p.1=k)) ∘ λp=>(p.1,D.int p.2))=none:=h;rw[this];rfl
 |some p=>
  have:kns.find? ((λp:KD=>decide (p.1=k)) ∘ λp=>(p.1,D.int p.2))=some p:=h;rw[this];rfl
theorem XE(kns:List (List Int×Int))(k:List Int):xJ (kT kns) k (.int (rB kns k+1))=kT (kr kns k):=by
 unfold xJ kr;rw[XG];by_cases h:k∈kns.map (·.1)
 ·rw[if_pos h,if_pos h];unfold kT;rw[aJ,aJ];refine bB λp _=>?_;show (if p.1=k then _ else _)=(λp:List Int×Int=>(p.1,D.int p.2)) (if p.1=k then _ else _);by_cases e:p.1=k
  ·rw[if_pos e,if_pos e]
  ·rw[if_neg e,if_neg e]
 ·rw[if_neg h,if_neg h];unfold kT;rw[aP];rfl
theorem XD(kns:List (List Int×Int))(k:List Int):(kr kns k).map (·.1)=if k∈kns.map (·.1) then kns.map (·.1) else kns.map (·.1)++[k]:=by
 unfold kr;by_cases h:k∈kns.map (·.1)
 ·rw[if_pos h,if_pos h,aJ];refine bB λp _=>?_;show (if p.1=k then _ else _:List Int×Int).1=_;by_cases e:p.1=k
  ·rw[if_pos e]
  ·rw[if_neg e]
 ·rw[if_neg h,if_neg h,aP];rfl
theorem FR(k:List Int)(h:(kns.map (·.1)).Nodup):((kr kns k).map (·.1)).Nodup:=by
 rw[XD];split
 ·exact h
 ·rename_i hn;refine jb.mpr ⟨h,cc.mpr ⟨by simp,jo⟩,λa ha b hb e=>hn ?_⟩;rwa [←ah.mp hb,←e]
theorem FQ(kns:List (List Int×Int))(k:List Int):(kr kns k).length≤kns.length+1:=by
 unfold kr;split
 ·rw[ε];lia
 ·rw[π,c9];exact ρ _
def rh(n:Nat)(rs:List (List ψ)):Prop:=rs.Perm ((raw n).map e6)/\jZ (rs.map gT)
theorem FP(h:rh n rs)(h':rh n ds):rs=ds:=by
 have:=BD ((h.1.trans h'.1.symm).map gT) h.2 h'.2;exact nG (λa b e=>Cf e) |>.mp this
theorem zc(h1:1≤n)(h2:n<17)(h:rh n rs):rs.length≤1000/\∀c∈rs,c.length≤16:=by
 have hR:=D8 h1 h2;refine⟨by rw[h.1.length_eq,ε];exact hR.len,λc hc=>?_⟩;obtain⟨c0,h0,rfl⟩:=υ.mp (h.1.mem_iff.mp hc);rw[(rF c0).length_eq];exact (hR.D6 c0 h0).1.2.1
def ym(G:Gp)(p:ν)(G':Gp):Prop:=∀b o,b≠p->G b=some o->G' b=some o
theorem ZH(hp:G p1=some (.gen (lL (kT kns) ob)))(hl:kns.length≤999)(hk:ym G0 p1 G)(s1:∀ob' G',G' p1=some (.gen (lL (kT (kr kns (gw c))) ob'))->ym G0 p1 G'->D3.nx (x0::some (.obj p1)::x2::some (tupI (gw c))::xs) G'):
  (wK (θ 1) (θ 3) (aq eu (wN (θ 1) (θ 3) (eC (.int 0))) (eC (.int 1)))) D3 (x0::some (.obj p1)::x2::some (tupI (gw c))::xs) G:=by
 refine⟨⟨_,_,hp⟩,_,_,gw c,hp,rfl,?_⟩;rw[XF];refine⟨_,_,gw c,hp,rfl,by unfold kT;rw[ε];lia,λob'=>?_⟩;rw[XE];exact s1 ob' _ oh λb o hb e=>by
  rw[mR hb];exact hk b o hb e
def FO:dh:=λds G Q=>∃n:Nat,ds=[.int n]/\1≤n/\n<17/\∀(q:ν) (rs:List (List ψ)) (mss:List (List Int×Int)) (G':Gp),rh n rs->mss.Perm (uX (rs.map gw))->jZ (mss.map aR.eP)->d8 G q (.lst (mss.map AU)) G'->Q (.obj q) G'
def XC:au:=wK (θ 1) (θ 3) (aq eu (wN (θ 1) (θ 3) (eC (.int 0))) (eC (.int 1)))
def XB:au:=aS (bK (du qR (ξ (fK ["clock"] [] (gx (θ 2)) (hName 0) (dD) (aq cB (θ 0) (eC (.int 0)))) (ab))) (hName 3)) XC
def XA:au:=bu (yL (θ 1))
def Xz:au:=aS (jd (gx (aN xc (ξ (θ 0) (ab)))) (hName 2) (XB)) XA
def Xy:au:=aS (bK (yb) (hName 1)) Xz
theorem Xx{D3:rU}{G1:Gp}{q1 p1:ν}{rs:List (List ψ)}{tb:au}{guard:Gp->Prop}(I:List (Option D)->Prop)(hg:∀G',G' q1=some (.lst (rs.map a6))->guard G')(hl:rs.length≤1000)(hne:q1≠p1)(e1:G1 q1=some (.lst (rs.map a6)))(hp:∃ob,G1 p1=some (.gen (lL (kT []) ob))){x0 x2 x3:Option D}{xs:List (Option D)}
  (turn:∀(c:List ψ) (N:S3->Gp->Prop) (G':Gp) (kns:List (List Int×Int)) (ob:bT) (x2 x3:Option D),c∈rs->kns.length≤999->G' p1=some (.gen (lL (kT kns) ob))->G' q1=some (.lst (rs.map a6))->(∀ob' G2 y3,G2 p1=some (.gen (lL (kT (kr kns (gw c))) ob'))->ym G' p1 G2->N (x0::some (.obj p1)::some (a6 c)::y3::xs) G2) ->
   tb { D3 with nx:=N,ct:=N,bk:=D3.nx } (x0::some (.obj p1)::some (a6 c)::x3::xs) G')
  (fin:∀G' kns ob y2 y3,kns=uX (rs.map gw)->(kns.map (·.1)).Nodup->kns.length≤rs.length->G' p1=some (.gen (lL (kT kns) ob))->ym G1 p1 G'->D3.nx (x0::some (.obj p1)::y2::y3::xs) G'):
  oI guard (hName 2) tb D3 (rs.map a6) (x0::some (.obj p1)::x2::x3::xs) G1:=by
 obtain⟨ob0,hp⟩:=hp;refine mq (λds τ G'=>∃(dn rs':List (List ψ)) (kns:List (List Int×Int)) (ob:bT) (y2 y3:Option D),dn++rs'=rs/\ds=rs'.map a6/\kns=uX (dn.map gw)/\(kns.map (·.1)).Nodup/\kns.length≤dn.length/\G' p1=some (.gen (lL (kT kns) ob))/\ym G1 p1 G'/\τ=x0::some (.obj p1)::y2::y3::xs) (λ_ _ _ h=>?_) ?_ ?_ _ _ _ ⟨[],rs,[],ob0,x2,x3,rfl,rfl,rfl,jo,ρ _,hp,λb o _ e=>e,rfl⟩
 ·obtain⟨_,_,_,_,_,_,_,_,_,_,_,_,k,_⟩:=h;exact hg _ (k _ _ hne e1)
 ·rintro d ds τ G2 N ⟨dn,rs',kns,ob,y2,y3,e2,e3,rfl,nd,kl,hp2,k2,rfl⟩ hN;cases rs' with
  |nil=>cases e3
  |cons c rs'=>
   cases e3;have hdl:dn.length+1≤rs.length:=by
    rw[←e2,π,ai];lia
   refine turn c N G2 _ ob y2 y3 (by rw[←e2];simp) (by lia) hp2 (k2 _ _ hne e1) λob' G3 y3' hp3 k3=>hN _ _ ⟨dn++[c],rs',_,ob',_,_,by rw[Δ];exact e2,rfl,?_,FR (gw c) nd,?_,hp3,λb o hb e=>k3 b o hb (k2 b o hb e),rfl⟩
   ·unfold uX;rw[aP,List.foldl_append];rfl
   ·have:=FQ (uX (dn.map gw)) (gw c);rw[π,c9];lia
 ·rintro τ G2 ⟨dn,rs',kns,ob,y2,y3,e2,e3,rfl,nd,kl,hp2,k2,rfl⟩;have e0:rs'=[]:=by
   cases rs' with
   |nil=>rfl
   |cons z zs=>cases e3
  subst e0;rw[bC] at e2;subst e2;exact fin G2 _ ob y2 y3 rfl nd kl hp2 k2
theorem By{α:Type}(l:List α):l.filter (λ_=>true)=l:=iw.mpr λ_ _=>rfl
theorem Xw:∀ds G Q,FO ds G Q->Xy (aF Q) (aY ["n","counts","clocks","steps"] ds) G:=by
 rintro ds G Q ⟨n,rfl,h1,h2,q⟩;intro p1 ob G1 n1;refine⟨n,rfl,h1,h2,λq1 rs G2 hp hr n2=>⟨_,n2.at_,?_⟩⟩;have E:rh n rs:=⟨hp,hr⟩;obtain⟨hl,hcl⟩:=zc h1 h2 E;have hp1:=n2.sub _ _ n1.at_;have hne:q1≠p1:=λz=>by
  have:=n2.aE;rw[z,n1.at_] at this;cases this
 refine Xx (x0:=some (.int (n:Nat))) (x2:=none) (x3:=none) (xs:=[]) (λ_=>True) (λ_ h=>h) hl hne n2.at_ ⟨ob,hp1⟩ ?_ ?_
 ·intro c N G' kns ob x2 x3 hc hk hpd hq hN;refine⟨by rw[ε];exact cH (by have:=hcl c hc;lia),(ny (λτ=>∃x,τ=[x]) cD (λ_=>true) (λz:ψ=>D.int z.1) (G:=G') trivial c [] _ ⟨none,rfl⟩ ?_ ?_)⟩
  ·rintro z hz τ K1 K2 ⟨x,rfl⟩ g1 g2;exact⟨λ_=>⟨_,rfl,g1 rfl _ ⟨_,rfl⟩⟩,nofun⟩
  intro p3 G3 n3;have e1:([]:List D)++(c.filter λ_=>true).map (λz:ψ=>D.int z.1)=(gw c).map D.int:=by
   rw[br,By,aJ];rfl
  rw[e1] at n3;refine⟨_,n3.at_,ZH (G0:=G') (n3.sub _ _ hpd) hk (λb o _ e=>n3.sub _ _ e) λob' G4 hp4 k4=>hN ob' G4 _ hp4 k4⟩
 ·intro G' kns ob' y2 y3 ek nd kl hpd kk;have hs:Sub G G':=λb o e=>kk b o (λz=>by
   rw[z,n1.aE] at e;cases e) (n2.sub _ _ (n1.sub _ _ e))
  refine⟨kns,ob',hpd,by lia,λq5 mss G5 n5 hpm hrm=>bZ (q q5 rs mss G5 E (by rw[←ek];exact hpm) hrm ⟨?_,hs.trans n5.sub,n5.at_⟩)⟩;cases e:G q5 with
  |none=>rfl
  |some o=>
   have:=n5.aE;rw[hs _ _ e] at this;cases this
end My
namespace L3
open PySem PySem.Spec PyProof.Rows L2
def KZ(n:Int):ζ->Bool
 |.int i _=>i==n
 |_=>false
theorem FN:∀{ns:List Int} {its:List ζ},bq (ns.map V.int) its->∀y∈its,∃i t,y=iG i t
 |[],_,h,y,hy=>by
  rw[h.zero] at hy;cases hy
 |n::ns,_,h,y,hy=>by
  cases h with
  |cons r1 r2=>
   rcases Ψ.mp hy with rfl|hy
   ·obtain⟨t,e⟩:=r1;exact⟨n,t,e⟩
   ·exact FN r2 y hy
theorem FL(n:Int):∀{ns:List Int} {its:List ζ},bq (ns.map V.int) its->its.countP (KZ n)=ns.countP (· == n)
 |[],_,h=>by rw[h.zero];rfl
 |m::ns,_,h=>by
  cases h with
  |cons r1 r2=>
   obtain⟨t,e⟩:=r1;rw[e,List.countP_cons,List.countP_cons,FL n r2];rfl
def yB:V->List V->Hp->VK->Prop:=λx vs H Q=>∃(l:ν) (ns:List Int) (n:Int),x=.ref l/\vs=[.int n]/\H l=some (.lst (ns.map V.int))/\Q (.int ((ns.countP (· == n):Nat):Int)) H
section
variable {X:Cx}
theorem Xv:DF X "list.count" yB:=by
 intro pins s σ H x vs v us Q I rx rv h;obtain⟨l,ns,n,rfl,rfl,hH,q⟩:=h;cases rx;obtain⟨u,rfl,ru⟩:=rv.one;obtain⟨t,rfl⟩:=ru;obtain⟨z,its,cap,r,hl,e⟩:=I.uO hH;refine oM F.slot_list_count ⟨_,e,rfl⟩ F.entry_list_count (F.args_list_count_2 _ _) (SeqAt.list_countAt l its.toArray cap none #[] (.int n t) (KZ n)) ⟨e,λy hy=>?_,?_⟩
 ·obtain⟨i,u,rfl⟩:=FN r y (g9.mpr hy);exact kz (A:=X.A.in1) (s:=s) i u n t
 ·refine⟨.int ((ns.countP (· == n):Nat):Int),H,I.tok _,⟨s.toks,?_⟩,q⟩;rw[show its.toArray.toList=its from rfl,FL n r]
variable{K:PySem.W.Frag}
def Bx:D->List D->Gp->V3->Prop:=λx ds G Q=>match x,ds with
 |.obj p,[.int n]=>∃xs ns,G p=some (.lst xs)/\intsOf xs=some ns/\Q (.int ((ns.countP (· == n):Nat):Int)) G
 |_,_=>False
theorem Xu:wo K Bx yB:=λx vx ds vs G H Q3 Q hx hs RG q k=>by
 unfold Bx at q;split at q
 ·rename_i p n;obtain⟨xs,ns,e1,e2,q⟩:=q;obtain⟨ys,e3,hv⟩:=RG p _ e1;obtain⟨v,r,rfl,hv1,hv2⟩:=hs.inv;rw[hv2.kn,jX hv1,iY hx];exact⟨p,ns,n,rfl,rfl,by rw[e3,ui hv e2],k _ H (.int _) G mo (.refl H G) RG q⟩
 ·exact q.elim
end
end L3
namespace My
open PySem L2 L3
theorem Xt(h:t0<k)(hp:∀t,t<k->(p t=true↔t=t0)):((Φ k).filter p).length=1:=by
 have e:(Φ k).filter p=(Φ k).filter (· == t0):=fi λt ht=>by
  rw[cV,hp t (az.mp ht),beq_iff_eq]
 rw[e,←m8];show (Φ k).count t0=1;have h1:=List.count_pos_iff.mpr (az.mpr h);have h2:=rY.mp (jG (n:=k)) t0;lia
theorem Xs(hk:0<k):iS (parts (1,0) k):=λn=>by
 unfold parts;rw[mM,ε];have k0:(0:Int)<(k:Int):=by lia
 have m0:=cF n (show (k:Int)≠0 by lia);have m1:=bV n k0;refine Xt (t0:=(n%(k:Int)).toNat) (by lia) λt ht=>?_;show ((n-(0+1*(t:Int)))%(1*(k:Int))==0)=true↔_;rw[tS,qK,qK,beq_iff_eq,←gm,f7 (show (0:Int)≤(t:Int) by lia) (by lia)];lia
theorem Xr(c:ψ)(k:Nat):(parts (1,0) k).map (wV c)=parts c k:=by
 unfold parts;rw[aJ];refine bB λt _=>?_;show (c.1*(1*(k:Int)),c.2+c.1*(0+1*(t:Int)))=_;rw[qK,qK,tS]
theorem FK(cs:List ψ):iD G (a6 cs)=some (.tup (cs.map cX)):=by
 show eZ (.tup (cs.map cD))=_;rw[eZ,qv]
theorem Xq(h:vz a b):aR.lx (dG a) (dG b)=true:=by
 obtain⟨s,r⟩:=a;obtain⟨s',r'⟩:=b;show (if s=s' then (if r=r' then false else decide (r<r')) else decide (s<s'))=true;rcases h with h|⟨h1,h2⟩
 ·rw[if_neg (by lia),decide_eq_true h]
 ·rw[if_pos h1,if_neg (by lia),decide_eq_true h2]
theorem Xp(h:vE ss ws)(hs:ss.Pairwise (· ≤ ·)):mB ws:=by
 refine bW.mpr λi j hi hj hij=>?_;have ei:=Θ hi;have ej:=Θ hj;have hap:=bW.mp h.yf.2.2 i j hi hj hij;have hle:(ws[i]).1≤(ws[j]).1:=by
  have hs2:(ws.map (·.1)).Pairwise (· ≤ ·):=by rw[h.yf.1];exact hs
  exact bW.mp (aO.mp hs2) i j hi hj hij
 obtain⟨s,a,ea⟩:∃s a,ws[i]=(s,a):=⟨_,_,rfl⟩;obtain⟨t,b,eb⟩:∃t b,ws[j]=(t,b):=⟨_,_,rfl⟩;rw[ea] at ei hap hle ⊢;rw[eb] at ej hap hle ⊢;by_cases e:s=t
 ·subst e;refine .inr ⟨rfl,(aB λhn=>?_)⟩;by_cases e2:a=b
  ·subst e2;exact hap a ⟨qu (c:=(s,a)),qu (c:=(s,a))⟩
  ·have hlt:b<a:=by lia
   have c1:=zi ei;have ej2:(ws.drop (i+1))[j-(i+1)]?=some (s,b):=by
    rwa [dM,show i+1+(j-(i+1))=j by lia]
   have c2:=zi ej2;generalize ws.take i=A at c1;generalize (ws.drop (i+1)).take (j-(i+1))=B at c2;generalize (ws.drop (i+1)).drop (j-(i+1)+1)=C at c2;rw[c2] at c1;have hp:(A++(s,b)::(B++(s,a)::C)).Perm ws:=by
    rw[c1];exact cm A (((fI (a:=(s,a)) (l₁:=B) (l₂:=C)).cons (s,b)).trans ((wt _ _ _).trans (((fI (a:=(s,b)) (l₁:=B) (l₂:=C)).symm).cons (s,a))))
   have ha:uy ss (A++(s,b)::(B++(s,a)::C)):=by
    refine⟨?_,λc hc=>h.yf.2.1 c (hp.mem_iff.mp hc),(BF hp).mpr h.yf.2.2⟩;rw[←h.yf.1,c1];simp
   have hb1:DH (A++(s,b)::(B++(s,a)::C)) ws:=⟨A,s,b,a,_,_,rfl,c1,hlt⟩;have h1:=Fz hb1;rw[Fy h ha] at h1;cases h1
 ·exact .inl (show s<t by lia)
theorem Xo(h60:∀s∈ss,1≤s/\s≤60)(hsum:jc ss=dH)(hm:∀s∈ss,s≤m)(h1:1<m)(hc:ss.countP (· == m)=1):¬∃vs,uy ss vs:=by
 rintro⟨vs,e,hv,ha⟩;have hvs:pA vs:=λc hc=>⟨hv c hc,(h60 c.1 (by rw[←e];exact υ.mpr ⟨c,hc,rfl⟩)).2⟩;have ho:=B9 hvs ha (by rw[vT,e];exact hsum);have hmem:m∈ss:=by
  have:0<ss.countP (· == m):=by lia
  obtain⟨a,ha,hb⟩:=sE.mp this;rwa [eq_of_beq hb] at ha
 rw[←e] at hmem;obtain⟨c,hcm,ec⟩:=υ.mp hmem;have hp:=jF hcm;have hcnt:(vs.erase c).countP (λd=>d.1==m)=0:=by
  have h2:ss.countP (· == m)=vs.countP (λd=>d.1==m):=by
   rw[←e,List.countP_map];rfl
  have h3:vs.countP (λd=>d.1==m)=(vs.erase c).countP (λd=>d.1==m)+1:=by
   rw[hp.countP_eq,List.countP_cons_of_pos (by rw[ec];exact beq_self_eq_true m)]
  lia
 refine Jw (c:=c) (cs:=vs.erase c) (λd hd=>hvs d (hp.mem_iff.mpr hd)) (λn=>by rw[←(hp.filter _).length_eq];exact ho n) (by rw[ec];exact h1) λd hd=>?_;have hd1:=md hd;have h4:=hm d.1 (by rw[←e];exact υ.mpr ⟨d,hd1,rfl⟩);have h5:d.1≠m:=λz=>by
  have:=List.countP_eq_zero.mp hcnt d hd;exact this (by rw[z];exact beq_self_eq_true m)
 rw[ec];lia
structure Kf(ss:List Int)(cs:List ψ):Prop where
 v:∀c∈cs,Valid c
 st:∀c∈cs,c.1∈ss
 once:iS cs
theorem Bw(h:as.Perm bs)(ho:iS as):iS bs:=λn=>by
 rw[←(h.filter _).length_eq];exact ho n
theorem Bv(h:iS cs):cs.Pairwise Ap:=Gr λn=>by rw[h n];exact ρ _
theorem X2(hv:∀c∈cs,Valid c)(h:lh cs=some x):∀c∈cs,ck (x:Int) c=false:=λc hc=>by
 have h1:=iP h;have h3:=eq_of_beq h1;have h4:=d7.mp (fb.mp h3) c hc;rw[qP (hv c hc)];simpa using h4
theorem FJ(hv:∀c∈cs,Valid c)(h:lh cs=none)(n:Int):∃c∈cs,ck n c=true:=by
 have hp:=BH λz hz=>(hv z hz).1;have hx:((n%(cK cs:Nat)).toNat:Int)=n%(cK cs:Nat):=bp (cF _ (by lia));have hlt:(n%(cK cs:Nat)).toNat<cK cs:=by
  have:=bV n (show (0:Int)<(cK cs:Nat) by lia);lia
 have h1:=eN.mp h _ (az.mpr hlt);have h2:cs.filter (rg ((n%(cK cs:Nat)).toNat:Nat))≠[]:=λz=>h1 (by unfold fG;rw[z];rfl);obtain⟨c,hc⟩:=oR _ h2;obtain⟨hm,hr⟩:=aI.mp hc;refine⟨c,hm,?_⟩;rw[hx,←qP (hv c hm)] at hr;have e:=cE n (cK cs:Nat);rwa [show n=n%(cK cs:Nat)+(cK cs:Nat)*(n / (cK cs:Nat)) by lia,F1 (BI hm) (hv c hm).1]
theorem X1(hc:∀n:Int,∃c∈cs,ck n c=true)(ha:cs.Pairwise Ap):iS cs:=λn=>by
 have h1:=Ca n ha;obtain⟨c,hm,hr⟩:=hc n;have h2:=fz (aI.mpr ⟨hm,hr⟩);lia
theorem Bu(hs:∀s∈ss,1≤s):∀(f:Nat) (cs:List ψ),(∀c∈cs,Valid c)->(∀c∈cs,c.1∈ss)->cs.Pairwise Ap->∀z∈lj ss f cs,Kf ss z
 |0,cs,_,_,_,z,hz=>nomatch hz
 |f+1,cs,hv,hst,ha,z,hz=>by
  unfold lj at hz;cases hf:lh cs with
  |none=>
   rw[hf] at hz;rw[ah.mp hz];exact⟨hv,hst,X1 (FJ hv hf) ha⟩
  |some x=>
   rw[hf] at hz;obtain⟨g,hg,hzg⟩:=gk.mp hz;obtain⟨c,hc,rfl⟩:=υ.mp hg;obtain⟨hc1,hc2⟩:=aI.mp hc;obtain⟨s,hs1,rfl⟩:=υ.mp hc1;have hvc:Valid (s,(x:Int)%s):=zP (hs s hs1);refine Bu hs f _ (λd hd=>?_) (λd hd=>?_) ?_ z hzg
   ·rcases aa.mp hd with h|h
    ·exact hv d h
    ·rw[ah.mp h];exact hvc
   ·rcases aa.mp hd with h|h
    ·exact hst d h
    ·rw[ah.mp h];exact hs1
   ·refine Ξ.mpr ⟨ha,bE _ _,λa haa b hb=>?_⟩;rw[ah.mp hb];exact (uG (λd hd=>(hv d hd).1) hvc.1).mp hc2 a haa
theorem FI(hE:Kf ss v):∀(f:Nat) (cs rest:List ψ),v.Perm (cs++rest)->rest.length<f->∃z∈lj ss f cs,z.Perm v
 |0,_,_,_,h=>absurd h (gJ _)
 |f+1,cs,rest,hp,hl=>by
  have hv:=λc hc=>hE.v c (hp.mem_iff.mpr hc);have hvc:=λc hc=>hv c (aD _ hc);have ho:=Bw hp hE.once;have ha:=Bv ho;unfold lj;cases hf:lh cs with
  |none=>
   refine⟨cs,ah.mpr rfl,?_⟩;cases rest with
   |nil=>
    rw[bC] at hp;exact hp.symm
   |cons c rest=>
    exfalso;obtain⟨d,hd,hr⟩:=FJ hvc hf c.2;exact (Ξ.mp ha).2.2 d hd c ι c.2 ⟨hr,qu⟩
  |some x=>
   have hx:=X2 hvc hf;obtain⟨c,hc⟩:=i7 (show 0<((cs++rest).filter (ck (x:Int))).length by rw[ho x];decide);obtain⟨hm,hr⟩:=aI.mp hc;have hcr:c∈rest:=by
    rcases aa.mp hm with z|z
    ·rw[hx c z] at hr;cases hr
    ·exact z
   have hcv:=hv c hm;have ec:c=(c.1,(x:Int)%c.1):=by
    rw[qP hcv] at hr;have:=eq_of_beq hr;rw[this]
   have h1:=jF hcr;have hpos:=fz hcr;obtain⟨z,hz,hzp⟩:=FI hE f (cs++[c]) (rest.erase c) (hp.trans (by rw[Δ];exact h1.append_left cs)) (by rw[pO hcr];lia);exact⟨z,gk.mpr ⟨cs++[c],(υ.mpr ⟨c,aI.mpr ⟨υ.mpr ⟨c.1,hE.st c (hp.mem_iff.mpr hm),ec.symm⟩,((uG (λd hd=>(hvc d hd).1) hcv.1).mpr λd hd=>(Ξ.mp ha).2.2 d hd c hcr)⟩,rfl⟩),hz⟩,hzp⟩
theorem nv:s∈dA n↔1≤s/\s≤(n:Int)/\s∣(n:Int):=by
 unfold dA;rw[aI,υ];constructor
 ·rintro⟨⟨k,hk,rfl⟩,h⟩;have:=az.mp hk;exact⟨by lia,by lia,ff (eq_of_beq h)⟩
 ·rintro⟨h1,h2,h3⟩;refine⟨⟨(s-1).toNat,az.mpr (by lia),by lia⟩,?_⟩;rw[dg h3];rfl
structure Ex(n:Nat)(cs:List ψ):Prop where
 v:∀c∈cs,Valid c/\c.1∣(n:Int)
 once:iS cs
 r:mB cs
theorem vS{n:Nat}(h1:1≤n)(h:s∣(n:Int)):s≤(n:Int):=sv (by lia) h
theorem Ex.len(h1:1≤n){v:List ψ}(h:Ex n v):v.length≤n:=by
 have hd:∀c∈v,Valid c/\c.1.toNat∣n:=λc hc=>⟨(h.v c hc).1,by
  have h0:=(h.v c hc).1.1;have:((c.1.toNat:Nat):Int)∣(n:Int):=by rw[bp (by lia)];exact (h.v c hc).2
  exact a8.mp this⟩
 have hs:=vW (N:=n) (by lia) hd;have e:(Φ n).map (fG v)=bF n 1:=mi.mpr ⟨by rw[ε,bo],λb hb=>by
  obtain⟨x,hx,rfl⟩:=υ.mp hb;rw[←h.once (x:Int)];exact congrArg bM (fi λc hc=>(qP (h.v c hc).1 _).symm)⟩
 rw[e,lA,iV] at hs;have h2:=Cb λw hw=>by
  obtain⟨c,hc,rfl⟩:=υ.mp hw;have h0:=(h.v c hc).1.1;exact Nat.div_pos (fE (by lia) (hd c hc).2) (by lia)
 rw[ε] at h2;have:fM v n=(v.map λc=>n / c.1.toNat).sum:=rfl;lia
theorem XZ(hp:z.Perm v)(hr:mB v):e6 z=v:=by
 have h2:gX (v.map dG):=aO.mpr (hr.imp λ{a b} h=>aR.sY (Xq h));have h3:=Ce (cs:=z) (mss:=v.map dG) (hp.symm.map dG) h2;have:=nG (f:=dG) (λa b e=>BQ e) |>.mp h3;exact this.symm
theorem XY(hne:a≠b)(h:aR.lx (dG b) (dG a)=false):vz a b:=by
 obtain⟨s,r⟩:=a;obtain⟨s',r'⟩:=b;have h:(if s'=s then (if r'=r then false else decide (r' < r)) else decide (s' < s))=false:=h;by_cases e:s'=s
 ·subst e;rw[if_pos rfl] at h;by_cases e2:r'=r
  ·subst e2;exact absurd rfl hne
  ·rw[if_neg e2] at h;have:=of_decide_eq_false h;exact .inr ⟨rfl,by show r<r';lia⟩
 ·rw[if_neg e] at h;have:=of_decide_eq_false h;exact .inl (by show s<s';lia)
theorem Bt(nd:z.Nodup):mB (e6 z):=by
 have h1:=aO.mp (FU z);have h2:=(rF z).nodup_iff.mpr nd;exact (h1.and h2).imp λ{a b} h=>XY h.2 h.1
theorem xb(h1:1≤n)(h2:n<17)(h:rh n rs)(v:List ψ):v∈rs↔Ex n v:=by
 rw[h.1.mem_iff,υ];constructor
 ·rintro⟨z,hz,rfl⟩;have hE:=Bu (ss:=dA n) (λs hs=>(nv.mp hs).1) 40 [] (λc hc=>(nomatch hc)) (λc hc=>(nomatch hc)) .nil z hz;have hp:=rF z;exact⟨λc hc=>⟨hE.v c (hp.mem_iff.mp hc),(nv.mp (hE.st c (hp.mem_iff.mp hc))).2.2⟩,Bw hp.symm hE.once,Bt hE.once.nodup⟩
 ·intro hE;have hl:=hE.len h1;have hX:Kf (dA n) v:=⟨λc hc=>(hE.v c hc).1,λc hc=>nv.mpr ⟨by have:=(hE.v c hc).1.1;lia,vS h1 (hE.v c hc).2,(hE.v c hc).2⟩,hE.once⟩;obtain⟨z,hz,hp⟩:=FI hX 40 [] v (.refl _) (by lia);exact⟨z,hz,XZ hp hE.r⟩
def ZQ:D->Nat
 |.int k=>k.toNat
 |_=>0
mutual
def dj(ok:ψ->Bool):D->ψ->Option (List ψ)
 |.aE,c=>if ok c then some [c] else none
 |.tup [a,b],c=>if gU a b then Dr ok b (parts c (ZQ a)) else none
 |_,_=>none
termination_by d _=>sizeOf d
def Dr(ok:ψ->Bool):D->List ψ->Option (List ψ)
 |.tup ps,cs=>tZ ok ps cs
 |_,_=>none
termination_by d _=>sizeOf d
def tZ(ok:ψ->Bool):List D->List ψ->Option (List ψ)
 |p::ps,c::cs=>(dj ok p c).bind λa=>(tZ ok ps cs).map (a++·)
 |_,_=>some []
termination_by ps _=>sizeOf ps
end
mutual
def gB:D->Bool
 |.aE=>true
 |.tup [a,b]=>gU a b&&gP b
 |_=>false
termination_by d=>sizeOf d
def gP:D->Bool
 |.tup ps=>gL ps
 |_=>false
termination_by d=>sizeOf d
def gL:List D->Bool
 |p::ps=>gB p&&gL ps
 |[]=>true
termination_by ps=>sizeOf ps
end
theorem Bs:∀ps:List D,gL ps=ps.all gB
 |[]=>by rw[gL];rfl
 |p::ps=>by rw[gL,Bs ps];rfl
theorem zb(h:gU a b=true):∃(k:Nat) (ps:List D),a=.int k/\b=.tup ps/\2≤k/\ps.length=k:=by
 unfold gU at h;split at h
 ·rename_i k ps;rw[aM,decide_eq_true_iff,beq_iff_eq] at h;exact⟨ps.length,ps,by rw[h.2],rfl,by lia,rfl⟩
 ·cases h
theorem EV(h:gB d=true):d=.aE∨∃(k:Nat) (ps:List D),d=.tup [.int k,.tup ps]/\2≤k/\ps.length=k/\∀p∈ps,gB p=true:=by
 cases d with
 |aE=>exact .inl rfl
 |tup ds=>
  rcases ds with _|⟨a,_|⟨b,_|⟨c,ds⟩⟩⟩
  ·rw[gB] at h
   ·cases h
   ·nofun
   ·nofun
  ·rw[gB] at h
   ·cases h
   ·nofun
   ·nofun
  ·rw[gB,aM] at h;obtain⟨k,ps,rfl,rfl,h1,h2⟩:=zb h.1;have h3:=h.2;rw[gP,Bs] at h3;exact .inr ⟨k,ps,rfl,h1,h2,λp hp=>cZ.mp h3 p hp⟩
  ·rw[gB] at h
   ·cases h
   ·nofun
   ·nofun
 |_=>
  rw[gB] at h
  ·cases h
  ·nofun
  ·nofun
theorem XX{ps:List D}(h:2≤k)(hl:ps.length=k)(hp:∀p∈ps,gB p=true):gB (.tup [.int k,.tup ps])=true:=by
 rw[gB,gP,Bs,cZ.mpr hp,nZ];show (decide ((2:Int)≤(k:Int))&&(((ps.length:Nat):Int)==(k:Int)))=true;rw[hl,decide_eq_true (by lia),beq_self_eq_true];rfl
theorem EU:∀(m:Nat) {d:D},gA d≤m->gB d=true->ix G d
 |0,d,hd,h=>by
  rcases EV h with rfl|⟨k,ps,rfl,_⟩
  ·exact .aE
  ·rw[rJ] at hd;lia
 |m+1,d,hd,h=>by
  rcases EV h with rfl|⟨k,ps,rfl,h1,h2,hp⟩
  ·exact .aE
  ·refine .two (.int _) (.tup λp hpm=>EU m ?_ (hp p hpm));have e1:=rH hpm;have e2:gA (.tup ps)≤jB [.int (k:Nat),.tup ps]:=rH (by simp);rw[rJ] at hd e2;lia
def mz(ok:ψ->Bool):List (D×ψ)->Option (List ψ)
 |[]=>some []
 |z::zs=>(dj ok z.1 z.2).bind λa=>(mz ok zs).map (a++·)
theorem ET(ok:ψ->Bool):∀(ps:List D) (cs:List ψ),tZ ok ps cs=mz ok (ps.zip cs)
 |[],cs=>by rw[tZ];rfl;nofun
 |p::ps,[]=>by rw[tZ];rfl;nofun
 |p::ps,c::cs=>by
  rw[tZ,ET ok ps cs];rfl
theorem xa(ok:ψ->Bool)(k:Nat)(ps:List D)(c:ψ)(h:gU (.int k) (.tup ps)=true):dj ok (.tup [.int k,.tup ps]) c=mz ok (ps.zip (parts c k)):=by
 rw[dj,if_pos h,Dr,ET];rfl
theorem sT(ok:ψ->Bool)(c:ψ)(h0:d≠.aE)(h:∀a b,d=.tup [a,b]->gU a b=false):dj ok d c=none:=by
 cases d with
 |aE=>exact absurd rfl h0
 |tup ds=>
  rcases ds with _|⟨a,_|⟨b,_|⟨e,ds⟩⟩⟩
  ·rw[dj]
   ·nofun
   ·nofun
  ·rw[dj]
   ·nofun
   ·nofun
  ·rw[dj,h a b rfl];rfl
  ·rw[dj]
   ·nofun
   ·nofun
 |_=>
  rw[dj]
  ·nofun
  ·nofun
theorem vR(ok:ψ->Bool)(c:ψ):dj ok .aE c=if ok c then some [c] else none:=by rw[dj]
theorem ES{P:D->Prop}{ok:ψ->Bool}(h:∀d c,P d->dj ok d c=(dj (λ_=>true) d c).bind λL=>if L.all ok then some L else none):∀zs:List (D×ψ),(∀z∈zs,P z.1)->mz ok zs=(mz (λ_=>true) zs).bind λL=>if L.all ok then some L else none
 |[],_=>rfl
 |z::zs,hz=>by
  show (dj ok z.1 z.2).bind _=((dj (λ_=>true) z.1 z.2).bind λa=>(mz (λ_=>true) zs).map (a++·)).bind _;rw[h z.1 z.2 (hz z ι),ES h zs λy hy=>hz y (μ _ hy)];cases dj (λ_=>true) z.1 z.2 with
  |none=>rfl
  |some A=>
   cases mz (λ_=>true) zs with
   |none=>
    show (if A.all ok then some A else none).bind (λa=>none)=none;split<;>rfl
   |some B=>
    show (if A.all ok then some A else none).bind (λa=>(if B.all ok then some B else none).map (a++·))=if (A++B).all ok then some (A++B) else none;rw[List.all_append];cases A.all ok<;>cases B.all ok<;>rfl
theorem XW(ok:ψ->Bool):∀(m:Nat) (d:D) (c:ψ),gA d≤m->dj ok d c=(dj (λ_=>true) d c).bind λL=>if L.all ok then some L else none:=by
 intro m
 induction m with
 |zero=>
  intro d c hd;cases d with
  |aE=>
   rw[vR,vR];simp
  |tup ds=>
   rw[rJ] at hd;lia
  |_=>rw[sT ok c (by simp) (by simp),sT _ c (by simp) (by simp)];rfl
 |succ m ih=>
  intro d c hd;by_cases hn:d=.aE
  ·subst hn;rw[vR,vR];simp
  ·by_cases hf:∃a b,d=.tup [a,b]/\gU a b=true
   ·obtain⟨a,b,rfl,hf⟩:=hf;obtain⟨k,ps,rfl,rfl,h1,h2⟩:=zb hf;rw[xa ok k ps c hf,xa _ k ps c hf];refine ES (P:=λd=>gA d≤m) (λd c h=>ih d c h) _ λz hz=>?_;have e1:=rH (iN hz).1;have e2:gA (.tup ps)≤jB [.int (k:Nat),.tup ps]:=rH (by simp);rw[rJ] at hd e2;lia
   ·have hb:∀a b,d=.tup [a,b]->gU a b=false:=λa b e=>by
     cases h:gU a b with
     |false=>rfl
     |true=>exact absurd ⟨a,b,e,h⟩ hf
    rw[sT ok c hn hb,sT _ c hn hb];rfl
theorem ER{P:D->Prop}(h:∀d c L,P d->dj ok d c=some L->1≤L.length/\L.length≤mP d):∀(zs:List (D×ψ)) (L:List ψ),(∀z∈zs,P z.1)->mz ok zs=some L->zs.length≤L.length/\L.length≤mn (zs.map (·.1))
 |[],L,_,e=>by
  cases e;exact⟨ρ _,ar _⟩
 |z::zs,L,hz,e=>by
  have e:((dj ok z.1 z.2).bind λa=>(mz ok zs).map (a++·))=some L:=e;cases e1:dj ok z.1 z.2 with
  |none=>rw[e1] at e;cases e
  |some A=>
   cases e2:mz ok zs with
   |none=>rw[e1,e2] at e;cases e
   |some B=>
    rw[e1,e2] at e;cases e;have h1:=h z.1 z.2 A (hz z ι) e1;have h2:=ER h zs B (λy hy=>hz y (μ _ hy)) e2;rw[ay,sU,π,ai];lia
theorem EO(ok:ψ->Bool):∀(m:Nat) (d:D) (c:ψ) (L:List ψ),gA d≤m->dj ok d c=some L->1≤L.length/\L.length≤mP d:=by
 intro m;have aE:∀(c:ψ) (L:List ψ),dj ok .aE c=some L->1≤L.length/\L.length≤mP .aE:=λc L e=>by
  rw[vR] at e;split at e
  ·cases e;rw[mP];exact⟨ρ _,ρ _⟩
  ·cases e
 induction m with
 |zero=>
  intro d c L hd e;cases d with
  |aE=>exact aE c L e
  |tup ds=>
   rw[rJ] at hd;lia
  |_=>
   rw[sT ok c (by simp) (by simp)] at e;cases e
 |succ m ih=>
  intro d c L hd e;by_cases hn:d=.aE
  ·subst hn;exact aE c L e
  ·by_cases hf:∃a b,d=.tup [a,b]/\gU a b=true
   ·obtain⟨a,b,rfl,hf⟩:=hf;obtain⟨k,ps,rfl,rfl,h1,h2⟩:=zb hf;rw[xa ok k ps c hf] at e;have h3:=ER (P:=λd=>gA d≤m) (λd c L h e=>ih d c L h e) _ L (λz hz=>by
     have e1:=rH (iN hz).1;have e2:gA (.tup ps)≤jB [.int (k:Nat),.tup ps]:=rH (by simp);rw[rJ] at hd e2;lia) e
    have hz:(ps.zip (parts c k)).map (·.1)=ps:=pN (by rw[rG,h2];exact ρ _);rw[hz,mJ,rG,h2] at h3;rw[vX,sU,sU,zm,vX];lia
   ·have hb:∀a b,d=.tup [a,b]->gU a b=false:=λa b e=>by
     cases h:gU a b with
     |false=>rfl
     |true=>exact absurd ⟨a,b,e,h⟩ hf
    rw[sT ok c hn hb] at e;cases e
theorem XU(cs:List ψ):iD G (a6 cs)=some (.tup (cs.map cX)):=by
 show eZ (.tup (cs.map cD))=_;rw[eZ,qv]
theorem EN(zs:List ψ)(c:ψ):(zs.map cX).any (λv=>v.dF (cX c))=decide (c∈zs):=by
 rw[List.any_map,cV,jH,decide_eq_true_iff];constructor
 ·rintro⟨x,hx,h⟩;have h':(cX x).dF (cX c)=true:=h;rw[BV,decide_eq_true_iff] at h';rwa [←h']
 ·intro h;refine⟨c,h,?_⟩;show (cX c).dF (cX c)=true;rw[BV];simp
def jg(cs:List ψ)(c:ψ):Bool:=decide (c∈cs)
def D7(Q:V3)(G:Gp):Option (List ψ)->Prop
 |none=>Q .aE G
 |some L=>∀p G',d8 G p (.lst (L.map cD)) G'->Q (.obj p) G'
def qe(n:Nat)(c:ψ):Prop:=0<c.1/\c.1*64^n≤64^40
theorem qe.yO(h:qe n c):i6 c.1:=by
 have h1:c.1*1≤c.1*64^n:=bG (by
  have:=uz (n:=n) (show 0<64 by decide);lia) (by have:=h.1;lia)
 have h2:=h.2;have h3:=h.1;exact jv (by lia) (by lia)
theorem qe.part(h:qe (n+1) c)(h1:1≤k)(h2:k≤64)(hz:z∈parts c k):qe n z:=by
 obtain⟨t,_,rfl⟩:=υ.mp hz;have hc:=h.1;refine⟨nt hc (by lia),(Int.le_trans ?_ h.2)⟩;rw[Int.pow_succ,ba];refine bG ?_ (by lia);rw[ij];refine bG (by lia) ?_;lia
def za(n:Nat):dh:=λds G Q=>∃(cs:List ψ) (d:D) (c:ψ),ds=[a6 cs,d,cD c]/\ix G d/\gA d<n/\mP d≤63/\qe n c/\cs.length≤1000/\D7 Q G (dj (jg cs) d c)
theorem XT:∀ds G Q,¬za 0 ds G Q:=by
 rintro ds G Q ⟨_,_,_,_,_,h,_⟩;exact absurd h (gJ _)
def XS(n:Nat):au:=pY (eM Cp (θ 3) (ξ (θ 6) (ab)))
def XR(n:Nat):au:=aS (gR (bz (aq (qt false) (θ 6) (eC .aE))) (bu (eC .aE)) (dB)) (XS n)
def Xd(n:Nat):au:=aS (bK (aN (za n) (ξ (θ 0) (ξ (θ 4) (ξ (θ 5) (ab))))) (hName 6)) (XR n)
def Xc(n:Nat):au:=bu (θ 3)
def Xb(n:Nat):au:=aS (jd (JK (ξ (aq cB (θ 1) (eC (.int 1))) (ξ (aN xj (ξ (θ 2) (ξ (aq cB (θ 1) (eC (.int 0))) (ab)))) (ab)))) (pk 2 (gr (hName 4) (gr (hName 5) (px)))) ((Xd n))) (Xc n)
def EM(n:Nat):au:=aS (bK (kW (ab)) (hName 3)) (Xb n)
def EL(n:Nat):au:=aS (gR (ya (wg (bz (vq "tuple" (θ 1)))) (ya (bz (aq (dS true) (du k8 (ξ (θ 1) (ab))) (eC (.int 2)))) (wg (bz (aN Ho (ξ (aq cB (θ 1) (eC (.int 0))) (ξ (aq cB (θ 1) (eC (.int 1))) (ab)))))))) (bu (eC .aE)) (dB)) (EM n)
def Xa(n:Nat):au:=aS (gR (bz (aq (qt false) (θ 1) (eC .aE))) (bu (J5 (bz (aq (lJ false) (θ 2) (θ 0))) (kW (ξ (θ 2) (ab))) (eC .aE))) (dB)) (EL n)
theorem W9(hk:∀p∈ps,ix G p)(hd:∀p∈ps,gA p<n)(hz:mn ps≤60)(h2:2≤k)(hl:ps.length=k)(hst:qe (n+1) c)(h1000:cs.length≤1000)(q:D7 Q G (mz (jg cs) (ps.zip (parts c k)))):
  EM n (aF Q) [some (a6 cs),some (.tup [.int k,.tup ps]),some (cD c),none,none,none,none] G:=by
 intro g G1 n1;have hk64:k≤60:=by
  have:=Hm ps;lia
 refine⟨_,rfl,_,rfl,c,k,rfl,by lia,hst.yO,λp2 G2 n2=>⟨ps,(parts c k).map cD,rfl,n2.at_,?_⟩⟩;rw[NQ cD ps (parts c k)];have hne:p2≠g:=λz=>by
  have:=n2.aE;rw[z,n1.at_] at this;cases this
 refine mq (λds τ G'=>∃(zs:List (D×ψ)) (A:List ψ) (x4 x5 x6:Option D),ds=zs.map (λz=>D.tup [z.1,cD z.2])/\τ=[some (a6 cs),some (.tup [.int k,.tup ps]),some (cD c),some (.obj g),x4,x5,x6]/\d8 G g (.lst (A.map cD)) G'/\G' p2=some (.lst ((parts c k).map cD))/\(∀z∈zs,z.1∈ps/\z.2∈parts c k)/\A.length+mn (zs.map (·.1))≤60/\mz (jg cs) (ps.zip (parts c k))=(mz (jg cs) zs).map (A++·)) (λ_ _ _ h=>by
  obtain⟨_,_,_,_,_,_,_,_,h,_⟩:=h;exact⟨rfl,h⟩) ?_ ?_ _ _ _ ⟨ps.zip (parts c k),[],none,none,none,rfl,rfl,⟨n1.aE,n1.sub.trans n2.sub,n2.sub _ _ n1.at_⟩,n2.at_,λz hz=>iN hz,?_,?_⟩
 ·rintro d ds τ G' N ⟨zs,A,x4,x5,x6,e1,rfl,n3,e3,hm,ha,hw⟩ hN;cases zs with
  |nil=>cases e1
  |cons z zs=>
   cases e1;obtain⟨p,e⟩:=z;obtain⟨m1,m2⟩:=hm (p,e) ι;have hwz:mz (jg cs) ((p,e)::zs)=(dj (jg cs) p e).bind λa=>(mz (jg cs) zs).map (a++·):=rfl;rw[hwz] at hw;have hszp:=Hl m1;rw[ay,sU] at ha;refine⟨rfl,cs,p,e,rfl,(hk p m1).sub n3.sub,hd p m1,by lia,hst.part (by lia) (by lia) m2,h1000,?_⟩;cases em:dj (jg cs) p e with
   |none=>
    rw[em] at hw;rw[show mz (jg cs) (ps.zip (parts c k))=none from hw] at q;exact⟨λ_=>sO n3.sub q,nofun⟩
   |some L=>
    rw[em] at hw;intro p4 G4 n4;have hL:=(EO (jg cs) (gA p) p e L (ρ _) em).2;refine⟨nofun,λ_=>⟨⟨g,_,rfl,n4.sub _ _ n3.at_⟩,_,_,n4.sub _ _ n3.at_,n4.at_,?_,hN _ _ ⟨zs,A++L,_,_,_,rfl,rfl,?_,?_,λy hy=>hm y (μ _ hy),?_,?_⟩⟩⟩
    ·rw[ε,ε];exact cH (by lia)
    ·rw[aP];exact⟨n3.aE,Sub.wQ (n3.sub.trans n4.sub) n3.aE,oh⟩
    ·rw[mR hne];exact n4.sub _ _ e3
    ·rw[π];lia
    ·rw[hw];show ((mz (jg cs) zs).map (L++·)).map (A++·)=_;rw[Option.map_map];congr 1;funext B;show A++(L++B)=A++L++B;rw[Δ]
 ·rintro τ G' ⟨zs,A,x4,x5,x6,e1,rfl,n3,e3,hm,ha,hw⟩;cases zs with
  |cons z zs=>cases e1
  |nil=>
   have hw:mz (jg cs) (ps.zip (parts c k))=some (A++[]):=hw;rw[hw,bC] at q;exact bZ (q g G' n3)
 ·have hzp:(ps.zip (parts c k)).map (·.1)=ps:=pN (by rw[rG,hl];exact ρ _);rw[hzp];simp;lia
 ·cases mz (jg cs) (ps.zip (parts c k)) with
  |none=>rfl
  |some L=>rfl
theorem W8(n:Nat):∀ds G Q,za (n+1) ds G Q->Xa n (aF Q) (aY ["clocks","thing","clock","made","paper","part","more"] ds) G:=by
 rintro ds G Q ⟨cs,d,c,rfl,hk,hd,hz,hst,h1000,q⟩;have bad:d≠.aE->(∀ds,d≠.tup ds)->EL n (aF Q) [some (a6 cs),some d,some (cD c),none,none,none,none] G:=by
  intro h0 hn;rw[sT (jg cs) c h0 λa b e=>absurd e (hn _)] at q;show match lF "tuple" G d with
   |some b=>_
   |none=>False
  rw[Hr hk.AR hn];exact⟨λ_=>⟨λ_=>bZ q,nofun⟩,nofun⟩
 cases d with
 |aE=>
  refine⟨λ_=>?_,nofun⟩;rw[vR] at q;refine⟨cX c,cs.map cX,rfl,.inr (XU cs),aH (xp cs) (by decide),λh=>?_,λh=>?_⟩
  ·have h':=h;rw[EN] at h';rw[if_pos (show jg cs c=true from h')] at q;exactλp G' n'=>bZ (q p G' n')
  ·have h':=h;rw[EN] at h';rw[if_neg (show ¬(jg cs c=true) by rw[show jg cs c=false from h'];exact af)] at q;exact bZ q
 |tup ds=>
  refine⟨nofun,λ_=>⟨nofun,λ_=>⟨_,_,rfl,rfl,ar _,?_⟩⟩⟩;rcases ds with _|⟨a,_|⟨b,_|⟨e,ds⟩⟩⟩
  ·rw[sT (jg cs) c (by simp) (by simp)] at q;exact⟨λ_=>⟨λ_=>bZ q,nofun⟩,nofun⟩
  ·rw[sT (jg cs) c (by simp) (by simp)] at q;exact⟨λ_=>⟨λ_=>bZ q,nofun⟩,nofun⟩
  ·have ka:ix G a:=hk.el (by simp);have kb:ix G b:=hk.el (by simp);refine⟨nofun,λ_=>⟨a,rfl,b,rfl,a,b,rfl,ka.known,kb.AR,λh=>?_,λh=>?_⟩⟩
   ·have hf:gU a b=false:=by simpa using h
    rw[sT (jg cs) c (by simp) (λa' b' e=>by cases e;exact hf)] at q;exact bZ q
   ·have hf:gU a b=true:=by simpa using h
    obtain⟨k,ps,rfl,rfl,h1,h2⟩:=zb hf;rw[xa (jg cs) k ps c hf] at q;rw[vX,sU,sU,zm,vX] at hz;have h3:=Hn (.int (k:Nat));refine W9 (λp hp=>kb.el hp) (λp hp=>?_) (by lia) h1 h2 hst h1000 q;have e1:=rH hp;have e2:gA (.tup ps)≤jB [.int (k:Nat),.tup ps]:=rH (by simp);rw[rJ] at hd e2;lia
  ·refine⟨λ_=>?_,λh=>?_⟩
   ·rw[sT (jg cs) c (by simp) (by simp)] at q;exact⟨λ_=>bZ q,nofun⟩
   ·have h':(!(((ds.length+1+1+1:Nat):Int)==2))=false:=h;lia
 |_=>exact⟨nofun,λ_=>bad (by simp) (by simp)⟩
def yg(cs:List ψ)(d:D):Prop:=∃L,dj (λ_=>true) d (1,0)=some L/\L.Perm cs/\gX (cs.map dG)
def Bq:dh:=λds G Q=>∃(cs:List ψ) (d:D),ds=[a6 cs,d]/\ix G d/\gA d<40/\mP d≤63/\cs.length≤1000/\∀b,(b=true↔yg cs d)->Q (.bl b) G
def W7:au:=bu (ni (aq (qt true) (θ 2) (eC .aE)) (aq (dS false) (du xu (ξ (θ 2) (ab))) (du xG (ξ (θ 0) (ab)))))
def W6:au:=aS (bK (aN (za 40) (ξ (θ 0) (ξ (θ 1) (ξ (fN (ξ (eC (.int 1)) (ξ (eC (.int 0)) (ab)))) (ab))))) (hName 2)) W7
theorem W5(hp:mss.Perm (L.map dG)):∃cs':List ψ,mss=cs'.map dG/\cs'.Perm L:=by
 obtain⟨cs',rfl,_⟩:=BR (cs:=L) λns hn=>hp.mem_iff.mp hn;refine⟨cs',rfl,?_⟩;have h:=List.Perm.map (λns:List Int=>((ns.getD 0 0,ns.getD 1 0):ψ)) hp;rw[aJ,aJ] at h;have e:∀xs:List ψ,xs.map ((λns:List Int=>((ns.getD 0 0,ns.getD 1 0):ψ)) ∘ dG)=xs:=λxs=>(bB λc _=>rfl).trans (qI xs);rw[e,e] at h;exact h
theorem W4(e:dj (λ_=>true) d (1,0)=some L)(hp:cs'.Perm L)(hr:gX (cs'.map dG)):decide (cs'=cs)=true↔yg cs d:=by
 rw[decide_eq_true_iff];constructor
 ·rintro rfl;exact⟨L,e,hp.symm,hr⟩
 ·rintro⟨L',e',hp',hr'⟩;rw[e] at e';cases e';exact BL (hp.trans hp') hr hr'
theorem W3:qe 40 (1,0):=⟨by decide,by decide⟩
theorem W2:∀ds G Q,Bq ds G Q->W6 (aF Q) (aY ["clocks","thing","made"] ds) G:=by
 rintro ds G Q ⟨cs,d,rfl,hk,hd,hz,h1000,q⟩;refine⟨cs,d,(1,0),rfl,hk,hd,hz,W3,h1000,?_⟩;have ef:=XW (jg cs) (gA d) d (1,0) (ρ _);cases em:dj (jg cs) d (1,0) with
 |none=>
  refine⟨nofun,λ_=>bZ (q false ⟨nofun,λh=>?_⟩)⟩;obtain⟨L,e,hp,hr⟩:=h;rw[em,e] at ef;have:L.all (jg cs)=true:=cZ.mpr λc hc=>decide_eq_true (hp.mem_iff.mp hc);have ef:none=if L.all (jg cs) then some L else none:=ef;rw[this] at ef;cases ef
 |some L=>
  intro p1 G1 n1;have eL:dj (λ_=>true) d (1,0)=some L:=by
   cases e:dj (λ_=>true) d (1,0) with
   |none=>rw[em,e] at ef;cases ef
   |some L'=>
    rw[em,e] at ef;have ef:some L=if L'.all (jg cs) then some L' else none:=ef;split at ef
    ·cases ef;rfl
    ·cases ef
  have hl:=(EO _ (gA d) d (1,0) L (ρ _) eL).2;refine⟨λ_=>⟨_,OR n1.at_,by rw[ε];lia,BO,λp2 mss G2 n2 hpm hr=>?_⟩,nofun⟩;obtain⟨cs',rfl,hp⟩:=W5 hpm;rw[vZ] at n2;intro p3 G3 n3;refine⟨_,_,qQ (n3.sub _ _ n2.at_) (qv cs'),qQ n3.at_ (qv cs),BW _,?_⟩;rw[xk];exact sO ((n1.sub.trans n2.sub).trans n3.sub) (q _ (W4 eL hp hr))
def oz(cs:List ψ)(c:ψ)(k:Nat):Prop:=∀z∈cs,(k:Int)∣z.1 / c.1
instance (cs:List ψ) (c:ψ) (k:Nat):Decidable (oz cs c k):=List.decidableBAll _ cs
def twos(m:Nat):List Nat:=(Φ m).map (· + 2)
theorem twos_mem:k∈twos m↔2≤k/\k<m+2:=by
 unfold twos;rw[υ];constructor
 ·rintro⟨i,hi,rfl⟩;have:=az.mp hi;lia
 ·rintro⟨h1,h2⟩;exact⟨k-2,az.mpr (by lia),by lia⟩
theorem L0(m:Nat):kh 2 m=(twos m).map nD:=by
 unfold kh twos;rw[aJ];refine bB λi _=>?_;congr 1;lia
def je(cs:List ψ)(c:ψ):Option Nat:=(twos (cs.length-1)).find? λk=>decide (oz cs c k)
def ZV:Option Nat->D
 |none=>.aE
 |some k=>.int k
def EK:dh:=λds G Q=>∃(p:ν) (cs:List ψ) (c:ψ),ds=[.obj p,cD c]/\G p=some (.lst (cs.map cD))/\0<c.1/\c.1≤1000/\(∀z∈cs,0<z.1/\z.1≤1000)/\cs.length≤1000/\Q (ZV (je cs c)) G
def W1:au:=bK (aN vY (ξ (θ 2) (ξ (aq lE (aq cB (θ 3) (eC (.int 0))) (aq cB (θ 1) (eC (.int 0)))) (ab)))) (hName 2)
def W0:au:=gR (bz (aq (dS false) (aq gq (θ 2) (θ 4)) (eC (.int 0)))) (bu (θ 4)) (dB)
def WZ:au:=bu (eC .aE)
def WY:au:=aS (jd (p8 (ξ (eC (.int 2)) (ξ (aq eu (du k8 (ξ (θ 0) (ab))) (eC (.int 1))) (ab)))) (hName 4) (W0)) WZ
def WX:au:=aS (jd (gx (θ 0)) (hName 3) (W1)) WY
def WW:au:=aS (bK (eC (.int 0)) (hName 2)) WX
theorem WV:∀ds G Q,EK ds G Q->WW (aF Q) (aY ["clocks","clock","shared","inner","k"] ds) G:=by
 rintro ds G Q ⟨p,cs,c,rfl,hp,hc,hc2,hz,hl,q⟩;have hlm:(cs.map cD).length=cs.length:=ε ..;refine⟨_,hp,(mq (λds τ G'=>G'=G/\∃(zs:List ψ) (g:Nat) (x3:Option D),ds=zs.map cD/\τ=[some (.obj p),some (cD c),some (.int g),x3,none]/\(∀z∈zs,z∈cs)/\∀k:Nat,(k∣g/\oz zs c k)↔oz cs c k) (λ_ _ _ h=>by rw[h.1];exact hp) ?_ ?_ _ _ _ ⟨rfl,cs,0,none,rfl,rfl,λ_ h=>h,λk=>⟨λh=>h.2,λh=>⟨Nat.dvd_zero _,h⟩⟩⟩)⟩
 ·rintro d ds τ G' N ⟨eg,zs,g,x3,e1,rfl,hm,hk⟩ hN;cases zs with
  |nil=>cases e1
  |cons z zs=>
   cases e1;obtain⟨z1,z2⟩:=hz z (hm z ι);obtain⟨m,em⟩:∃m:Nat,z.1 / c.1=(m:Int):=⟨(z.1 / c.1).toNat,by rw[bp (kf (by lia) (by lia))]⟩;refine⟨_,rfl,_,rfl,⟨hc,jv (by lia) (by lia)⟩,g,m,?_,hN _ _ ⟨eg,zs,aW g m,_,rfl,rfl,λy hy=>hm y (μ _ hy),λk=>?_⟩⟩
   ·show [D.int (g:Int),D.int (z.1 / c.1)]=_;rw[em]
   ·rw[←hk k,Nat.dvd_gcd_iff];constructor
    ·rintro⟨⟨h1,h2⟩,h3⟩;refine⟨h1,λy hy=>?_⟩;rcases Ψ.mp hy with rfl|hy
     ·rw[em];exact a8.mpr h2
     ·exact h3 y hy
    ·rintro⟨h1,h2⟩;have h3:=h2 z ι;rw[em] at h3;exact⟨⟨h1,a8.mp h3⟩,λy hy=>h2 y (μ _ hy)⟩
 ·rintro τ G' ⟨rfl,zs,g,x3,e1,rfl,hm,hk⟩;have e0:zs=[]:=by cases zs with
   |nil=>rfl
   |cons z zs=>cases e1
  subst e0;have hk':∀k:Nat,k∣g↔oz cs c k:=λk=>⟨λh=>(hk k).mp ⟨h,nofun⟩,λh=>((hk k).mpr h).1⟩;refine⟨_,hp,⟨by decide,by decide,by rw[hlm];lia,by rw[hlm];lia⟩,?_⟩;rw[hlm,show ((cs.length:Int)+1-2).toNat=cs.length-1 by lia,L0];refine mq (λds τ G2=>G2=G'/\∃(ks:List Nat) (x4:Option D),ds=ks.map nD/\τ=[some (.obj p),some (cD c),some (.int g),x3,x4]/\(∀k∈ks,2≤k)/\ks.find? (λk=>decide (oz cs c k))=je cs c) (λ_ _ _ h=>trivial) ?_ ?_ _ _ _ ⟨rfl,_,none,rfl,rfl,λk hk=>(twos_mem.mp hk).1,rfl⟩
  ·rintro d ds τ G2 N ⟨eg,ks,x4,e2,rfl,h2,hf⟩ hN;cases ks with
   |nil=>cases e2
   |cons k ks=>
    cases e2;have k2:=h2 k ι;refine⟨show (0:Int)<(k:Int) by lia,_,_,rfl,rfl,ar _,λh=>?_,λh=>?_⟩
    ·have h':((g:Int)%(k:Int)==0)=true:=h;have hd:=a8.mp (ff (by simpa using h'));rw[fq,decide_eq_true ((hk' k).mp hd)] at hf;rw[←hf] at q;rw[eg];exact bZ q
    ·have h':=h;have hd:¬k∣g:=λz=>by
      have:=dg (a8.mpr z);rw[this] at h';cases h'
     rw[fq,decide_eq_false λz=>hd ((hk' k).mpr z)] at hf;exact hN _ _ ⟨eg,ks,_,rfl,rfl,λy hy=>h2 y (μ _ hy),hf⟩
  ·rintro τ G2 ⟨eg,ks,x4,e2,rfl,h2,hf⟩;cases ks with
   |cons k ks=>cases e2
   |nil=>
    rw[←hf] at q;rw[eg];exact bZ q
def gf:List (Option D)->Option (List D)
 |[]=>some []
 |o::r=>o.bind λd=>(gf r).map (d::·)
def eF(cs:List ψ)(p:ψ):List ψ:=cs.filter λz=>fu z p
def dU:Nat->List ψ->ψ->Option D
 |0,_,_=>none
 |n+1,cs,c=>if cs=[c] then some .aE else
  (je cs c).bind λk=>(gf ((parts c k).map λp=>dU n (eF cs p) p)).map λps=>.tup [.int k,.tup ps]
structure Within(m:Nat)(cs:List ψ)(c:ψ):Prop where
 v:Valid c
 small:c.1≤1000
 JH:1≤m
 len:cs.length≤60
 all:∀z∈cs,c.1∣z.1/\0<z.1/\z.1≤1000/\z.1<c.1*2^m
theorem EJ(h:Valid c)(hp:p∈parts c k):Valid p/\p.1=c.1*(k:Int):=by
 obtain⟨t,ht,rfl⟩:=υ.mp hp;have ht:=az.mp ht;obtain⟨h1,h2,h3⟩:=h;have e1:c.1*((t:Int)+1)≤c.1*(k:Int):=bG (by lia) (by lia);rw[uC,jR] at e1;have e2:0≤c.1*(t:Int):=m9 (by lia) (by lia);exact⟨⟨by lia,by lia,by lia⟩,rfl⟩
theorem EI{c z:ψ}(hc:0<c.1)(h1:c.1∣z.1)(h2:(k:Int)∣z.1 / c.1):c.1*(k:Int)∣z.1:=by
 obtain⟨a,ha⟩:=h1;rw[ha,pS a (by lia)] at h2;rw[ha];exact Int.mul_dvd_mul_left _ h2
theorem Within.part(W:Within (m+1) cs c)(hne:cs≠[])(h2:2≤k)(hd:oz cs c k)(hp:p∈parts c k):Within m (eF cs p) p:=by
 obtain⟨vp,ep⟩:=EJ W.v hp;have hc:=W.v.1;obtain⟨z0,hz0⟩:∃z,z∈cs:=by
  cases cs with
  |nil=>exact absurd rfl hne
  |cons z zs=>exact⟨z,ι⟩
 have dv:∀z∈cs,p.1∣z.1:=λz hz=>by
  rw[ep];exact EI hc (W.all z hz).1 (hd z hz)
 obtain⟨_,q1,q2,q3⟩:=W.all z0 hz0;have le0:=sv q1 (dv z0 hz0);have k2:c.1*2≤p.1:=by
  rw[ep];exact bG (by lia) (by lia)
 refine⟨vp,by lia,?_,aH (mh _ _) W.len,λz hz=>?_⟩
 ·cases m with
  |zero=>
   lia
  |succ m=>lia
 ·have hz:=(aI.mp hz).1;obtain⟨_,r1,r2,r3⟩:=W.all z hz;refine⟨dv z hz,r1,r2,Int.lt_of_lt_of_le r3 ?_⟩;rw[Int.pow_succ,ij (2^m) 2,←ba];refine Int.mul_le_mul_of_nonneg_right k2 ?_;lia
def vB:Nat->D->Prop
 |0,_=>False
 |n+1,d=>d=.aE∨∃(k:Nat) (ps:List D),d=.tup [.int k,.tup ps]/\ps.length≤60/\∀p∈ps,vB n p
theorem EH:∀{ps:List D},(∀p∈ps,∃u,eZ p=some u/\u.i4≤m)->∃us,c7 ps=some us/\Dat.jh us≤m
 |[],_=>⟨[],rfl,ar _⟩
 |p::ps,h=>by
  obtain⟨u,e1,h1⟩:=h p ι;obtain⟨us,e2,h2⟩:=EH λq hq=>h q (μ _ hq);refine⟨u::us,?_,Nat.max_le.mpr ⟨h1,h2⟩⟩;rw[c7,e1,e2]
theorem vB.dat:∀{m:Nat} {d:D},vB m d->∃u,eZ d=some u/\u.i4≤2*m
 |0,_,h=>h.elim
 |m+1,d,h=>by
  rcases h with rfl|⟨k,ps,rfl,_,h2⟩
  ·exact⟨_,rfl,ar _⟩
  ·obtain⟨us,e,h3⟩:=EH λp hp=>vB.dat (h2 p hp);refine⟨.tup [.int k,.tup us],?_,?_⟩
   ·rw[eZ,c7,c7,c7,eZ,eZ,e]
   ·show max 0 (max (Dat.jh us+1) 0)+1≤2*(m+1);lia
theorem EG:∀{os:List (Option D)} {ps:List D},gf os=some ps->d∈ps->some d∈os
 |[],ps,e,h=>by
  cases e;cases h
 |o::os,ps,e,h=>by
  cases o with
  |none=>cases e
  |some x=>
   have e:(gf os).map (x::·)=some ps:=e;cases e2:gf os with
   |none=>rw[e2] at e;cases e
   |some qs=>
    rw[e2] at e;cases e;rcases Ψ.mp h with rfl|h
    ·exact ι
    ·exact μ _ (EG e2 h)
theorem Bp:∀{os:List (Option D)} {ps:List D},gf os=some ps->ps.length=os.length
 |[],ps,e=>by
  cases e;rfl
 |o::os,ps,e=>by
  cases o with
  |none=>cases e
  |some x=>
   have e:(gf os).map (x::·)=some ps:=e;cases e2:gf os with
   |none=>rw[e2] at e;cases e
   |some qs=>
    rw[e2] at e;cases e;rw[ai,ai,Bp e2]
theorem w9(h:je cs c=some k):2≤k/\k≤cs.length/\oz cs c k:=by
 have h1:=fL h;have h2:=iP h;have h3:=twos_mem.mp h1;exact⟨h3.1,by lia,by simpa using h2⟩
theorem EF:∀{m:Nat} {cs:List ψ} {c:ψ} {d:D},cs.length≤60->dU m cs c=some d->vB m d
 |0,_,_,_,_,h=>nomatch h
 |m+1,cs,c,d,hl,h=>by
  unfold dU at h;split at h
  ·cases h;exact .inl rfl
  ·cases ek:je cs c with
   |none=>rw[ek] at h;cases h
   |some k=>
    rw[ek] at h;have h:(gf ((parts c k).map λp=>dU m (eF cs p) p)).map (λps=>D.tup [.int k,.tup ps])=some d:=h;cases es:gf ((parts c k).map λp=>dU m (eF cs p) p) with
    |none=>rw[es] at h;cases h
    |some ps=>
     rw[es] at h;cases h;obtain⟨k1,k2,_⟩:=w9 ek;refine .inr ⟨k,ps,rfl,?_,λp hp=>?_⟩
     ·rw[Bp es,ε,rG];lia
     ·obtain⟨y,_,ey⟩:=υ.mp (EG es hp);exact EF (aH (mh _ _) hl) ey
theorem xH(s:Sub G G1)(n:d8 G1 p o G2):d8 G p o G2:=by
 refine⟨?_,s.trans n.sub,n.at_⟩;cases e:G p with
 |none=>rfl
 |some x=>
  have:=s _ _ e;rw[n.aE] at this;cases this
def y9(n:Nat):dh:=λds G Q=>∃(p:ν) (cs:List ψ) (c:ψ) (m:Nat),ds=[.obj p,cD c]/\G p=some (.lst (cs.map cD))/\Within m cs c/\m≤n/\m≤12/\∀p' G',d8 G p' (.lst (dU m cs c).toList) G'->Q (.obj p') G'
theorem WU:∀ds G Q,¬y9 0 ds G Q:=by
 rintro ds G Q ⟨_,_,_,_,_,_,W,h,_⟩;have:=W.JH;lia
def WT(n:Nat):au:=pY (eM IS (θ 3) (ξ (aq cB (θ 5) (eC (.int 0))) (ab)))
def WS(n:Nat):au:=aS (gR (bz (aq (dS false) (θ 5) (kW (ab)))) (bu (kW (ab))) (dB)) (WT n)
def WR(n:Nat):au:=aS (bK (aN (y9 n) (ξ (fK ["inner"] [4] (gx (θ 0)) (hName 0) (bz (aN BK (ξ (θ 0) (ξ (θ 1) (ab))))) (θ 0)) (ξ (θ 4) (ab)))) (hName 5)) (WS n)
def WQ(n:Nat):au:=bu (kW (ξ (fN (ξ (θ 2) (ξ (du qR (ξ (θ 3) (ab))) (ab)))) (ab)))
def WO(n:Nat):au:=aS (jd (gx (aN xj (ξ (θ 1) (ξ (θ 2) (ab))))) (hName 4) ((WR n))) (WQ n)
def EE(n:Nat):au:=aS (bK (kW (ab)) (hName 3)) (WO n)
def WN(n:Nat):au:=aS (gR (bz (aq (qt false) (θ 2) (eC .aE))) (bu (kW (ab))) (dB)) (EE n)
def Xn(n:Nat):au:=aS (bK (aN EK (ξ (θ 0) (ξ (θ 1) (ab)))) (hName 2)) (WN n)
def Xm(n:Nat):au:=aS (gR (bz (aq (dS false) (θ 0) (kW (ξ (θ 1) (ab))))) (bu (kW (ξ (eC .aE) (ab)))) (dB)) (Xn n)
theorem ED{m:Nat}{cs:List ψ}{c:ψ}{G:Gp}{a:ν}(hm:m≤12)(hl:cs.length≤60)(h:G a=some (.lst (dU m cs c).toList)):∃us,iD G (.obj a)=some (.lst us)/\(Dat.D.lst us).i4≤50/\us.isEmpty=(dU m cs c).isNone:=by
 cases e:dU m cs c with
 |none=>
  rw[e] at h;exact⟨[],qQ h rfl,by decide,rfl⟩
 |some d=>
  rw[e] at h;obtain⟨u,e1,h1⟩:=(EF hl e).dat;refine⟨[u],qQ h ?_,?_,rfl⟩
  ·show c7 [d]=_;rw[c7,c7,e1]
  ·show max u.i4 0+1≤50;lia
theorem Xl(hp:G p=some (.lst (cs.map cD)))(W:Within (m+1) cs c)(hn:m≤n)(hm:m≤12)(hne:cs≠[])(h2:2≤k)(hk:k≤60)(hd:oz cs c k)
  (q:∀p' G',d8 G p' (.lst (((gf ((parts c k).map λp=>dU m (eF cs p) p)).map λps=>D.tup [.int k,.tup ps]).toList)) G'->Q (.obj p') G'):
  EE n (aF Q) [some (.obj p),some (cD c),some (.int k),none,none,none] G:=by
 intro g G1 n1;have hc:=W.small;have hc0:=W.v.1;refine⟨c,k,rfl,by lia,jv (by lia) (by lia),λp2 G2 n2=>⟨_,n2.at_,?_⟩⟩;have hne2:p2≠g:=λz=>by
  have:=n2.aE;rw[z,n1.at_] at this;cases this
 refine mq (λds τ G'=>∃(zs:List ψ) (A:List D) (x4 x5:Option D),ds=zs.map cD/\τ=[some (.obj p),some (cD c),some (.int k),some (.obj g),x4,x5]/\d8 G g (.lst A) G'/\G' p2=some (.lst ((parts c k).map cD))/\(∀z∈zs,z∈parts c k)/\A.length+zs.length=k/\gf ((parts c k).map λp=>dU m (eF cs p) p)=(gf (zs.map λp=>dU m (eF cs p) p)).map (A++·)) (λ_ _ _ h=>by
  obtain⟨_,_,_,_,_,_,_,h,_⟩:=h;exact h) ?_ ?_ _ _ _ ⟨parts c k,[],none,none,rfl,rfl,⟨n1.aE,n1.sub.trans n2.sub,n2.sub _ _ n1.at_⟩,n2.at_,λ_ h=>h,by rw[rG];simp,?_⟩
 ·rintro d ds τ G' N ⟨zs,A,x4,x5,e1,rfl,n3,e3,hz,hl,hw⟩ hN;cases zs with
  |nil=>cases e1
  |cons z zs=>
   cases e1;have hzp:=hz z ι;have Wz:=W.part hne h2 hd hzp;have hpG:=n3.sub _ _ hp;refine⟨_,hpG,by rw[ε];exact cH (by have:=W.len;lia),(ny (guard:=λG=>G p=some (.lst (cs.map cD))) (λτ=>∃x,τ=[x,some (cD z)]) cD (λy=>fu y z) cD (G:=G') hpG cs [] _ ⟨none,rfl⟩ ?_ ?_)⟩
   ·rintro y hy τ K1 K2 ⟨x,rfl⟩ h1 h2;exact⟨y,z,rfl,Wz.v.1,λh=>h1 h _ ⟨_,rfl⟩,λh=>h2 h _ ⟨_,rfl⟩⟩
   intro p4 G4 n4;rw[br] at n4;refine⟨p4,eF cs z,z,m,rfl,n4.at_,Wz,hn,hm,λp5 G5 n5=>?_⟩;intro p6 G6 n6;have s6:=(n4.sub.trans n5.sub).trans n6.sub;obtain⟨us,t1,t2,t3⟩:=ED hm Wz.len (n6.sub _ _ n5.at_);refine⟨_,_,t1,qQ n6.at_ rfl,t2,λh=>?_,λh=>?_⟩
   ·have h':=h;rw[zp,t3] at h';have e:dU m (eF cs z) z=none:=by simpa using h'
    rw[ay,e] at hw;rw[show gf ((parts c k).map λp=>dU m (eF cs p) p)=none from hw] at q;exactλp7 G7 n7=>bZ (q _ _ (xH (n3.sub.trans s6) n7))
   ·have h':=h;rw[zp,t3] at h';cases e:dU m (eF cs z) z with
    |none=>
     rw[e] at h';cases h'
    |some d=>
     rw[e] at n5;rw[ay,e] at hw;have hw:gf ((parts c k).map λp=>dU m (eF cs p) p)=((gf (zs.map λp=>dU m (eF cs p) p)).map (d::·)).map (A++·):=hw;rw[ai] at hl;refine⟨⟨g,_,rfl,s6 _ _ n3.at_⟩,_,d,n6.sub _ _ n5.at_,rfl,_,s6 _ _ n3.at_,bw (show A.length<1000 by lia) (by decide),hN _ _ ⟨zs,A++[d],_,_,rfl,rfl,⟨n3.aE,Sub.wQ (n3.sub.trans s6) n3.aE,oh⟩,?_,λy hy=>hz y (μ _ hy),?_,?_⟩⟩
     ·rw[mR hne2];exact s6 _ _ e3
     ·rw[π,c9];lia
     ·rw[hw,Option.map_map];congr 1;funext B;rw[Δ];rfl
 ·rintro τ G' ⟨zs,A,x4,x5,e1,rfl,n3,e3,hz,hl,hw⟩;cases zs with
  |cons z zs=>cases e1
  |nil=>
   have hw:gf ((parts c k).map λp=>dU m (eF cs p) p)=some (A++[]):=hw;rw[hw,bC] at q;exact⟨_,n3.at_,λp7 G7 n7=>bZ (q _ _ (xH n3.sub n7))⟩
 ·cases gf ((parts c k).map λp=>dU m (eF cs p) p) with
  |none=>rfl
  |some L=>rfl
theorem Xk(n:Nat):∀ds G Q,y9 (n+1) ds G Q->Xm n (aF Q) (aY ["clocks","clock","k","papers","part","found"] ds) G:=by
 rintro ds G Q ⟨p,cs,c,m,rfl,hp,W,hn,hm,q⟩;obtain⟨m,rfl⟩:∃m',m=m'+1:=⟨m-1,by have:=W.JH;lia⟩;intro p1 G1 n1;refine⟨_,_,qQ (n1.sub _ _ hp) (qv cs),qQ n1.at_ (qv [c]),BW _,λh=>?_,λh=>?_⟩
 ·have h':(Dat.D.lst (cs.map cX)).dF (.lst ([c].map cX))=true:=h;rw[xk,decide_eq_true_iff] at h';unfold dU at q;rw[if_pos h'] at q;exactλp2 G2 n2=>bZ (q _ _ (xH n1.sub n2))
 ·have h':(Dat.D.lst (cs.map cX)).dF (.lst ([c].map cX))=false:=h;rw[xk,decide_eq_false_iff_not] at h';unfold dU at q;rw[if_neg h'] at q;have hlen:=W.len;refine⟨p,cs,c,rfl,n1.sub _ _ hp,W.v.1,W.small,λz hz=>⟨(W.all z hz).2.1,(W.all z hz).2.2.1⟩,by lia,?_⟩;cases ek:je cs c with
  |none=>
   rw[ek] at q;exact⟨λ_=>λp2 G2 n2=>bZ (q _ _ (xH n1.sub n2)),nofun⟩
  |some k=>
   rw[ek] at q;obtain⟨k1,k2,k3⟩:=w9 ek;refine⟨nofun,λ_=>Xl (n1.sub _ _ hp) W (by lia) (by lia) (λz=>?_) k1 (by lia) k3 λp' G' n'=>q _ _ (xH n1.sub n')⟩;rw[z] at k2;have:k≤0:=k2;lia
def EC:dh:=λds G Q=>∃cs:List ψ,ds=[a6 cs]/\cs.length≤60/\(∀z∈cs,0<z.1/\z.1≤1000)/\Q ((dU 10 cs (1,0)).getD .aE) G
def Xj:au:=bu (J5 (bz (aq (dS true) (θ 1) (kW (ab)))) (aq cB (θ 1) (eC (.int 0))) (eC .aE))
def Xi:au:=aS (bK (aN (y9 40) (ξ (du xG (ξ (θ 0) (ab))) (ξ (fN (ξ (eC (.int 1)) (ξ (eC (.int 0)) (ab)))) (ab)))) (hName 1)) Xj
theorem Bo(hl:cs.length≤60)(hz:∀z∈cs,0<z.1/\z.1≤1000):Within 10 cs (1,0):=⟨⟨by decide,by decide,by decide⟩,by decide,by decide,hl,λz h=>by
 obtain⟨h1,h2⟩:=hz z h;exact⟨Int.one_dvd _,h1,h2,by lia⟩⟩
theorem Xh:∀ds G Q,EC ds G Q->Xi (aF Q) (aY ["clocks","papers"] ds) G:=by
 rintro ds G Q ⟨cs,rfl,hl,hz,q⟩;intro p1 G1 n1;refine⟨p1,cs,(1,0),10,rfl,n1.at_,Bo hl hz,by decide,by decide,λp2 G2 n2=>?_⟩;intro p3 G3 n3;obtain⟨us,t1,t2,t3⟩:=ED (by decide) hl (n3.sub _ _ n2.at_);have s3:=(n1.sub.trans n2.sub).trans n3.sub;refine⟨_,_,t1,qQ n3.at_ rfl,t2,λh=>?_,λh=>?_⟩
 ·have h':=h;rw[zp,t3] at h';cases e:dU 10 cs (1,0) with
  |none=>
   rw[e] at h';cases h'
  |some d=>
   rw[e] at n2 q;exact⟨_,d,n3.sub _ _ n2.at_,rfl,sO s3 q⟩
 ·have h':=h;rw[zp,t3] at h';cases e:dU 10 cs (1,0) with
  |none=>
   rw[e] at q;exact sO s3 q
  |some d=>
   rw[e] at h';cases h'
def sub(c:ψ)(n w:Nat):ψ:=(c.1*(n:Int),c.2+c.1*(w:Int))
def yR(cs:List ψ)(c:ψ)(n:Nat):Prop:=∀z∈cs,c.1*(n:Int)∣z.1
inductive lr:List ψ->ψ->Prop
 |leaf (c:ψ):lr [c] c
 |node {cs:List ψ} {c:ψ} (k:Nat) (h2:2≤k) (hd:yR cs c k) (h:∀t,t<k->lr (eF cs (sub c k t)) (sub c k t)):lr cs c
theorem Bn(c:ψ)(a b t u:Nat):sub (sub c a t) b u=sub c (a*b) (t+a*u):=by
 unfold sub;refine uT ?_ ?_
 ·rw[cU,ba]
 ·show c.2+c.1*(t:Int)+c.1*(a:Int)*(u:Int)=c.2+c.1*((t+a*u:Nat):Int);rw[fU,cU,uC,ba];lia
theorem Bm(h:Valid c)(hw:w<n):Valid (sub c n w):=by
 obtain⟨h1,h2,h3⟩:=h;have hn:(0:Int)<n:=by lia
 refine⟨nt h1 hn,?_,?_⟩
 ·show 0≤c.2+c.1*(w:Int);have:=m9 (show 0≤c.1 by lia) (show (0:Int)≤w by lia);lia
 ·show c.2+c.1*(w:Int)<c.1*(n:Int);have:=bG (show (w:Int)+1≤n by lia) (show 0≤c.1 by lia);rw[uC,jR] at this;lia
theorem Xg(hv:Valid c)(ht:t<a)(h:fu z (sub c (a*b) (t+a*u))=true):fu z (sub c a t)=true:=by
 have hs:=Bm hv ht;rw[←Bn] at h;unfold fu at h ⊢;rw[aM] at h ⊢;obtain⟨h1,h2⟩:=h;generalize hp:sub c a t=p at *;have e1:(sub p b u).1=p.1*(b:Int):=rfl;have e2:(sub p b u).2=p.2+p.1*(u:Int):=rfl;unfold rg at h2 ⊢;rw[e1] at h1 h2;rw[e2] at h2;rw[beq_iff_eq] at h1 h2 ⊢;rw[beq_iff_eq];constructor
 ·exact dg (d0 (bx _ _) (ff h1))
 ·have h3:=r6 z.2 (bx p.1 (b:Int));rw[←h3,h2,Int.add_mul_emod_self_left];exact f7 hs.2.1 hs.2.2
theorem EB(hv:Valid c)(ht:t<a):eF (eF cs (sub c a t)) (sub c (a*b) (t+a*u))=eF cs (sub c (a*b) (t+a*u)):=by
 unfold eF;rw[tQ];refine fi λz _=>?_;cases h:fu z (sub c (a*b) (t+a*u)) with
 |false=>rfl
 |true=>rw[Xg hv ht h];rfl
theorem lr.DY(hv:Valid c)(ht:t<a)(h:lr (eF cs (sub c (a*b) (t+a*u))) (sub c (a*b) (t+a*u))):lr (eF (eF cs (sub c a t)) (sub (sub c a t) b u)) (sub (sub c a t) b u):=by
 rwa [Bn,EB hv ht]
theorem lr.of2(hv:Valid c)(ht:t<a)(h:lr (eF (eF cs (sub c a t)) (sub (sub c a t) b u)) (sub (sub c a t) b u)):lr (eF cs (sub c (a*b) (t+a*u))) (sub c (a*b) (t+a*u)):=by
 rw[Bn,EB hv ht] at h;exact h
theorem EA(hc:uB q k)(h:(q:Int)∣(k:Int)*m):(q:Int)∣m:=by
 have h1:=jr.mpr h;rw[Int.natAbs_mul,gF,gF] at h1;have h2:=hc.dvd_of_dvd_mul_left h1;exact jr.mp (by rw[gF];exact h2)
theorem lr.swap(h:lr cs c):Valid c->∀q:Nat,2≤q->(∀k,uB q k∨q∣k)->yR cs c q->∀t,t<q->lr (eF cs (sub c q t)) (sub c q t):=by
 induction h with
 |leaf c=>
  intro hv q h2 _ hd;have h1:=hd c ι;have h3:=sv hv.1 h1;have h4:=bG (show (2:Int)≤q by lia) (show 0≤c.1 by have:=hv.1;lia);have:=hv.1;lia
 |node k h2 hd h ih=>
  rename_i cs c;intro hv q hq hpr hdq t ht;rcases hpr k with hc|⟨r,hr⟩
  ·refine .node k h2 (λz hz=>?_) λu hu=>?_
   ·have hz':=(aI.mp hz).1;obtain⟨m,hm⟩:=hd z hz';have h3:=hdq z hz';rw[hm,ba] at h3;have h4:=nI (show c.1≠0 by have:=hv.1;lia) h3;have h5:=EA hc h4;obtain⟨n,rfl⟩:=h5;refine⟨n,?_⟩;show z.1=c.1*(q:Int)*(k:Int)*n;rw[hm,ba,ba,ba,Int.mul_left_comm (k:Int)]
   ·refine lr.DY hv ht ?_;have hw:t+q*u<q*k:=by
     have:=jS q (show u+1≤k by lia);rw[nq,iV] at this;lia
    have hk0:0<k:=by lia
    have hm:=fS (t+q*u) hk0;have hdv:=rW (by rw[dE k q];exact hw);have key:=ih ((t+q*u)%k) hm (Bm hv hm) q hq hpr (λz hz=>?_) ((t+q*u) / k) hdv
    ·have:=lr.of2 hv hm key;rw[j8,dE k q] at this;exact this
    ·have hz':=(aI.mp hz).1;obtain⟨m,hm2⟩:=hd z hz';have h3:=hdq z hz';rw[hm2,ba] at h3;have h4:=nI (show c.1≠0 by have:=hv.1;lia) h3;have h5:=EA hc h4;obtain⟨n,rfl⟩:=h5;refine⟨n,?_⟩;show z.1=c.1*(k:Int)*(q:Int)*n;rw[hm2,ba,ba,ba]
  ·subst hr;by_cases h1:r=1
   ·subst h1;rw[iV] at h;exact h t ht
   ·have hr2:2≤r:=by
     rcases r with _|_|r
     ·lia
     ·lia
     ·lia
    refine .node r hr2 (λz hz=>?_) λu hu=>lr.DY hv ht (h _ ?_)
    ·have hz':=(aI.mp hz).1;have:=hd z hz';show c.1*(q:Int)*(r:Int)∣z.1;rwa [ba,←cU]
    ·have:=jS q (show u+1≤r by lia);rw[nq,iV] at this;lia
theorem Xf(d:D)(os:List (Option D)):(some d::os).filterMap id=d::os.filterMap id:=rfl
theorem Xe(os:List (Option D)):(none::os).filterMap id=os.filterMap id:=rfl
theorem WB(m:Nat)(cs:List ψ)(c:ψ):dU (m+1) cs c=if cs=[c] then some .aE else (je cs c).bind λk=>(gf ((parts c k).map λp=>dU m (eF cs p) p)).map λps=>.tup [.int k,.tup ps]:=rfl
theorem AY{f:ψ->Option D}:∀(ps cs:List ψ),ps.Pairwise (λp q=>∀z,fu z p=true->fu z q=true->False)->(∀p∈ps,f p≠none->∃z∈cs,fu z p=true)->((ps.map f).filterMap id).length≤cs.length
 |[],cs,_,_=>ar _
 |p::ps,cs,hd,h=>by
  have hd':=dm.mp hd;cases e:f p with
  |none=>
   rw[ay,e,Xe];exact AY ps cs hd'.2 λq hq=>h q (μ _ hq)
  |some d=>
   obtain⟨z,hz,hi⟩:=h p ι (by rw[e];simp);rw[ay,e,Xf,ai];have h1:=AY ps (cs.filter λy=>!fu y p) hd'.2 λq hq hn=>by
    obtain⟨y,hy,lg⟩:=h q (μ _ hq) hn;refine⟨y,aI.mpr ⟨hy,?_⟩,lg⟩;cases e2:fu y p with
    |false=>rfl
    |true=>exact (hd'.1 q hq y e2 lg).elim
   have h2:(cs.filter λy=>!fu y p).length<cs.length:=List.length_filter_lt_length_iff_exists.mpr ⟨z,hz,by rw[hi];simp⟩;lia
theorem Ez(hc:0<c.1)(k:Nat):(parts c k).Pairwise λp q=>∀z,fu z p=true->fu z q=true->False:=by
 unfold parts;rw[aO];refine ue ?_ (iW (n:=k));intro a b hab z h1 h2;have h1:(z.1%(c.1*(k:Int))==0&&z.2%(c.1*(k:Int))==c.2+c.1*(a:Int))=true:=h1;have h2:(z.1%(c.1*(k:Int))==0&&z.2%(c.1*(k:Int))==c.2+c.1*(b:Int))=true:=h2;rw[aM,beq_iff_eq,beq_iff_eq] at h1 h2;have e:c.1*(a:Int)=c.1*(b:Int):=by lia
 have:=Int.eq_of_mul_eq_mul_left (by lia) e;lia
theorem Ey:∀{os:List (Option D)},(∀o∈os,o≠none)->∃ps,gf os=some ps
 |[],_=>⟨[],rfl⟩
 |o::os,h=>by
  obtain⟨ps,e⟩:=Ey (os:=os) λx hx=>h x (μ _ hx);cases o with
  |none=>exact absurd rfl (h none ι)
  |some d=>
   refine⟨d::ps,?_⟩;show (gf os).map (d::·)=_;rw[e];rfl
theorem Ew(W:Within m cs c)(h:oz cs c k):yR cs c k:=λz hz=>EI W.v.1 (W.all z hz).1 (h z hz)
theorem WA(hc:0<c.1)(h:yR cs c k):oz cs c k:=λz hz=>by
 obtain⟨m,hm⟩:=h z hz;rw[hm,ba,pS _ (show c.1≠0 by omega)];exact bx _ _
theorem Wy(h:t<k):sub c k t∈parts c k:=υ.mpr ⟨t,az.mpr h,rfl⟩
theorem lr.ne(h:lr cs c):cs≠[]:=by
 induction h with
 |leaf c=>exact nofun
 |node k h2 hd h ih=>
  intro z;subst z;exact ih 0 (by omega) rfl
theorem Wx(h:je cs c=some q):∀n,uB q n∨q∣n:=λn=>by
 obtain⟨q2,ql,qd⟩:=w9 h;have hmin:∀d,2≤d->d<q->¬oz cs c d:=λd d2 dq hd=>by
  unfold je twos at h;rw[List.find?_map] at h;cases hf:(Φ (cs.length-1)).find? ((λk=>decide (oz cs c k)) ∘ λx=>x+2) with
  |none=>rw[hf] at h;cases h
  |some i=>
   rw[hf] at h;have hi:i+2=q:=aL h;rw[pQ] at hf;have:=hf.2.2 (d-2) (by omega);have hd':decide (oz cs c (d-2+2))=true:=decide_eq_true (by rw[show d-2+2=d by omega];exact hd);rw[show ((λk=>decide (oz cs c k)) ∘ λx=>x+2) (d-2)=decide (oz cs c (d-2+2)) from rfl,hd'] at this;cases this
 have hg:aW q n∣q:=gi _ _;have hg0:0<aW q n:=iA _ (by omega);have hle:=fE (by omega) hg;by_cases h1:aW q n=1
 ·exact .inl h1
 ·refine .inr ?_;have:aW q n=q:=by
   refine Nat.le_antisymm hle (Nat.le_of_not_lt λw=>hmin _ (by omega) w λz hz=>d0 (a8.mpr hg) (qd z hz))
  rw[←this];exact fh _ _
theorem Ww:∀{m:Nat} {cs:List ψ} {c:ψ},Within m cs c->lr cs c->dU m cs c≠none:=by
 intro m
 induction m with
 |zero=>intro cs c W _;exact absurd W.JH (by decide)
 |succ m ih=>
  intro cs c W h;rw[WB];by_cases e:cs=[c]
  ·rw[if_pos e];exact nofun
  rw[if_neg e];have hne:=h.ne;obtain⟨k,k2,kd,hk⟩:∃k,2≤k/\yR cs c k/\∀t,t<k->lr (eF cs (sub c k t)) (sub c k t):=by
   cases h with
   |leaf=>exact absurd rfl e
   |node k h2 hd h=>exact⟨k,h2,hd,h⟩
  have hkl:k≤cs.length:=by
   have:=AY (f:=λ_=>some D.aE) (parts c k) cs (Ez W.v.1 k) λp hp _=>by
    obtain⟨t,ht,rfl⟩:=υ.mp hp;have h0:=(hk t (az.mp ht)).ne;obtain⟨z,hz⟩:=oR _ h0;exact⟨z,(aI.mp hz).1,(aI.mp hz).2⟩
   have e2:((parts c k).map λ_=>some D.aE).filterMap id=(parts c k).map λ_=>D.aE:=by
    rw[nH]
    induction parts c k with
    |nil=>rfl
    |cons a as ih=>rw[eo,ay,←ih];rfl
   rw[e2,ε] at this;unfold parts at this;rw[ε,bo] at this;exact this
  cases hq:je cs c with
  |none=>
   unfold je at hq;rw[eN] at hq;exact absurd (decide_eq_true (WA W.v.1 kd)) (hq k (twos_mem.mpr ⟨k2,by omega⟩))
  |some q=>
   obtain⟨q2,ql,qd⟩:=w9 hq;have AW:=h.swap W.v q q2 (Wx hq) (Ew W qd);obtain⟨ps,eps⟩:=Ey (os:=(parts c q).map λp=>dU m (eF cs p) p) λo ho=>by
    obtain⟨p,hp,rfl⟩:=υ.mp ho;obtain⟨t,ht,rfl⟩:=υ.mp hp;exact ih (W.part hne q2 qd hp) (AW t (az.mp ht))
   show ((gf ((parts c q).map λp=>dU m (eF cs p) p)).map λps=>D.tup [.int q,.tup ps])≠none;rw[eps];exact nofun
theorem Wv{c z:ψ}(hv:Valid c){k:Nat}(hk:1≤k)(h:fu z c=true)(hd:c.1*(k:Int)∣z.1):∃t,t<k/\fu z (sub c k t)=true:=by
 unfold fu rg at h;rw[aM,beq_iff_eq,beq_iff_eq] at h;have hc:=hv.1;have hn:0<c.1*(k:Int):=nt hc (by lia);have r0:=cF z.2 (show c.1*(k:Int)≠0 by lia);have r1:=bV z.2 hn;have r2:z.2%(c.1*(k:Int))%c.1=c.2:=by rw[r6 _ (bx _ _)];exact h.2
 have r3:=Int.emod_add_mul_ediv (z.2%(c.1*(k:Int))) c.1;rw[r2] at r3;have w0:0≤z.2%(c.1*(k:Int)) / c.1:=kf r0 (by lia);have w1:=Int.ediv_lt_of_lt_mul hc (by rw[ij (k:Int)];exact r1);refine⟨(z.2%(c.1*(k:Int)) / c.1).toNat,by lia,?_⟩;unfold fu rg;rw[aM,beq_iff_eq,beq_iff_eq];refine⟨dg hd,?_⟩;show z.2%(c.1*(k:Int))=c.2+c.1*(((z.2%(c.1*(k:Int)) / c.1).toNat:Nat):Int);rw[bp w0];exact r3.symm
theorem Wu{c x:ψ}(hv:Valid c){k s t:Nat}(hs:s<k)(ht:t<k)(h1:fu x (sub c k s)=true)(h2:fu x (sub c k t)=true):s=t:=by
 refine Decidable.byContradiction λe=>?_;have key:=bW.mp (Ez hv.1 k);have hl:(parts c k).length=k:=by unfold parts;rw[ε,bo]
 have g:∀i (hi:i<k),(parts c k)[i]'(by omega)=sub c k i:=λi hi=>by unfold parts sub;simp
 rcases Nat.lt_or_gt_of_ne e with w|w
 ·have:=key s t (by lia) (by lia) w x;rw[g s hs,g t ht] at this;exact this h1 h2
 ·have:=key t s (by lia) (by lia) w x;rw[g s hs,g t ht] at this;exact this h2 h1
theorem Wt(hv:Valid c)(k:Nat):(parts c k).Pairwise vz:=by
 unfold parts;rw[aO];refine iW.imp λ{a b} h=>.inr ⟨rfl,?_⟩;have h0:=hv.1;have:c.1*(a:Int)<c.1*(b:Int):=Int.mul_lt_mul_of_pos_left (by lia) h0;show c.2+c.1*(a:Int)<c.2+c.1*(b:Int);lia
theorem Eu(hv:Valid c)(k:Nat):(parts c k).Nodup:=(Wt hv k).imp λ{a b} h e=>by
 subst e;exact F3 h h
theorem Et(nd:cs.Nodup)(hi:cs[i]?=some c):(gp cs i).Nodup/\c∉gp cs i:=by
 have e:=zi hi;rw[e] at nd;obtain⟨h1,h2,h3⟩:=jb.mp nd;obtain⟨h4,h5⟩:=cc.mp h2;refine⟨jb.mpr ⟨h1,h5,λa ha b hb=>h3 a ha b (μ _ hb)⟩,λh=>?_⟩;rcases aa.mp h with h|h
 ·exact h3 c h c ι rfl
 ·exact h4 h
theorem Ws(hv:Valid c)(nd:cs.Nodup)(hi:cs[i]?=some c)(hr:mB us)(hu:∀z,z∈us↔z∈gp cs i∨z∈parts c k)(ko:∀z∈parts c k,z∉gp cs i):us.Perm (gp cs i++parts c k):=by
 refine (dZ (F2 hr) (jb.mpr ⟨(Et nd hi).1,Eu hv k,λa ha b hb e=>?_⟩)).mpr λz=>by rw[hu,aa]
 subst e;exact ko a hb ha
theorem Wr(hv:Valid c)(hk:0<k)(nd:cs.Nodup)(hi:cs[i]?=some c)(hr:mB us)(hu:∀z,z∈us↔z∈gp cs i∨z∈parts c k)(ko:∀z∈parts c k,z∉gp cs i):iS us↔iS cs:=by
 have hp:=Ws hv nd hi hr hu ko;have key:∀n,(us.filter (ck n)).length=(cs.filter (ck n)).length:=λn=>by
  rw[(hp.filter _).length_eq,←Xr,MO hv.1 hi (Xs hk)]
 exact⟨λh n=>by rw[←key];exact h n,λh n=>by rw[key];exact h n⟩
theorem Bl{cs:List ψ}(hne:a≠b)(ha:a∈cs)(hb:b∈cs)(pa:p a=true)(pb:p b=true):(cs.filter p).length≠1:=λh=>by
 obtain⟨x,hx⟩:=qJ.mp h;have h1:=aI.mpr ⟨ha,pa⟩;have h2:=aI.mpr ⟨hb,pb⟩;rw[hx] at h1 h2;simp at h1 h2;exact hne (h1.trans h2.symm)
theorem Wq(hz:ck n z=true)(hp:ck n p=true)(hd:p.1∣z.1)(hv:Valid p):fu z p=true:=by
 show (z.1%p.1==0&&rg z.2 p)=true;rw[dg hd,←qP hv];have h1:=bO.mp hz;have h2:=bO.mp hp;have:=bO.mpr (by
  have h3:=fC h2 (d0 hd h1);rwa [show n-p.2-(n-z.2)=z.2-p.2 by lia] at h3)
 rw[this];rfl
theorem Es:fu z (1,0)=true:=by
 show (z.1%1==0&&(z.2%1==0))=true;rw[Int.emod_one,Int.emod_one];rfl
structure A6(e:Nat)(A:List ψ)(d:D)(c:ψ):Prop where
 g:gB d=true
 i4:gA d≤e
 KU:∃L,dj (λ_=>true) d c=some L/\L.Perm A/\mP d+3≤4*L.length
theorem Wp:∀{xs:List ψ} {ps:List D},gf (xs.map f)=some ps->(∀x∈xs,∀d,f x=some d->A6 e (A x) d x) ->
  (∀p∈ps,gB p=true/\gA p≤e)/\∃L,mz (λ_=>true) (ps.zip xs)=some L/\L.Perm (xs.flatMap A)/\mn ps+3*xs.length≤4*L.length:=by
 intro xs
 induction xs with
 |nil=>
  intro ps h _;cases h;exact⟨nofun,[],rfl,jq _,by rw[zm];exact ρ _⟩
 |cons x xs ih=>
  intro ps h hf;have h:(f x).bind (λd=>(gf (xs.map f)).map (d::·))=some ps:=h;cases e1:f x with
  |none=>rw[e1] at h;cases h
  |some d=>
   rw[e1] at h;cases e2:gf (xs.map f) with
   |none=>rw[e2] at h;cases h
   |some qs=>
    rw[e2] at h;cases h;obtain⟨g1,L,g2,g3,g4⟩:=ih e2 λy hy=>hf y (μ _ hy);have M:=hf x ι d e1;obtain⟨L1,l1,l2,l3⟩:=M.KU;refine⟨λp hp=>?_,L1++L,?_,?_,?_⟩
    ·rcases Ψ.mp hp with rfl|hp
     ·exact⟨M.g,M.i4⟩
     ·exact g1 p hp
    ·show (dj (λ_=>true) d x).bind (λa=>(mz (λ_=>true) (qs.zip xs)).map (a++·))=_;rw[l1,g2];rfl
    ·rw[List.flatMap_cons];exact l2.append g3
    ·rw[sU,ai,π];lia
theorem Wo(hv:Valid c)(hk:1≤k)(nd:cs.Nodup)(hi:∀x∈cs,fu x c=true)(hd:yR cs c k):((parts c k).flatMap (eF cs)).Perm cs:=by
 refine (dZ ?_ nd).mpr λz=>?_
 ·show List.Pairwise _ _;rw[rm];refine⟨λp _=>nd.filter _,?_⟩;unfold parts;rw[aO];refine c5 (λ{a b} ha hb hab x hx y hy e=>?_) iW;subst e;have:=Wu hv (az.mp ha) (az.mp hb) (aI.mp hx).2 (aI.mp hy).2;lia
 ·rw[gk];constructor
  ·rintro⟨p,_,h⟩;exact (aI.mp h).1
  ·intro h;obtain⟨t,ht,hs⟩:=Wv hv hk (hi z h) (hd z h);exact⟨sub c k t,Wy ht,aI.mpr ⟨h,hs⟩⟩
theorem Wn:∀{m:Nat} {cs:List ψ} {c:ψ} {d:D},Within m cs c->(∀x∈cs,fu x c=true)->cs.Nodup->dU m cs c=some d->A6 (2*m) cs d c:=by
 intro m
 induction m with
 |zero=>intro cs c d _ _ _ h;cases h
 |succ m ih=>
  intro cs c d W hi nd h;unfold dU at h;split at h
  ·rename_i e;cases h;refine⟨by rw[gB],by rw[gA];lia,[c],by rw[dj];rfl,by rw[e],by rw[mP];exact ρ _⟩
  ·rename_i hne;cases ek:je cs c with
   |none=>rw[ek] at h;cases h
   |some k=>
    rw[ek] at h;have h:(gf ((parts c k).map λp=>dU m (eF cs p) p)).map (λps=>D.tup [.int k,.tup ps])=some d:=h;cases es:gf ((parts c k).map λp=>dU m (eF cs p) p) with
    |none=>rw[es] at h;cases h
    |some ps=>
     rw[es] at h;cases h;obtain⟨k1,k2,k3⟩:=w9 ek;have hcs:cs≠[]:=λe=>by
      rw[e] at k2;simp at k2;lia
     obtain⟨g1,L,g2,g3,g4⟩:=Wp (e:=2*m) (A:=eF cs) es λp hp d hd=>ih (W.part hcs k1 k3 hp) (λx hx=>(aI.mp hx).2) (nd.filter _) hd;have hl:ps.length=k:=by rw[Bp es,ε,rG]
     have hf:gU (.int k) (.tup ps)=true:=by
      show (decide ((2:Int)≤(k:Int))&&(((ps.length:Nat):Int)==(k:Int)))=true;rw[hl,decide_eq_true (by lia),beq_self_eq_true];rfl
     refine⟨XX k1 hl λp hp=>(g1 p hp).1,?_,L,?_,g3.trans (Wo W.v (by lia) nd hi (Ew W k3)),?_⟩
     ·have h1:=Hq λp hp=>(g1 p hp).2;rw[rJ,jB,jB,jB,rJ,gA];lia
     ·rw[xa _ _ _ _ hf];exact g2
     ·rw[rG] at g4;rw[vX,sU,sU,zm,vX,mP];lia
theorem Wm(h:mB cs):gX (cs.map dG):=by
 show List.Pairwise _ _;rw[aO];refine h.imp λ{a b} q=>?_;obtain⟨s,r⟩:=a;obtain⟨s',r'⟩:=b;simp only[dG,aR.lx];rcases q with q|⟨q1,q2⟩
 ·simp only at q;rw[if_neg (by lia)];exact decide_eq_false (by lia)
 ·simp only at q1 q2;rw[if_pos q1.symm,if_neg (by lia)];exact decide_eq_false (by lia)
theorem Wl(ok:kY 1000 cs)(hr:mB cs)(hl:cs.length≤12)(h:dU 10 cs (1,0)=some d):(∀G,ix G d)/\gA d<40/\mP d≤63/\yg cs d:=by
 have W:=Bo (by lia) λz hz=>⟨(ok z hz).1.1,(ok z hz).2⟩;have M:=Wn W (λx _=>Es) (F2 hr) h;obtain⟨L,l1,l2,l3⟩:=M.KU;have:=M.i4;have e:=l2.length_eq;exact⟨λG=>EU (gA d) (ρ _) M.g,by lia,by lia,L,l1,l2,Wm hr⟩
theorem Bk:∀(f:Nat) (cs:List ψ),∀z∈lj ss f cs,∀c∈cs,c∈z
 |0,cs,z,hz,c,hc=>nomatch hz
 |f+1,cs,z,hz,c,hc=>by
  unfold lj at hz;cases hf:lh cs with
  |none=>
   rw[hf] at hz;rwa [ah.mp hz]
  |some x=>
   rw[hf] at hz;obtain⟨g,hg,hzg⟩:=gk.mp hz;obtain⟨d,_,rfl⟩:=υ.mp hg;exact Bk f _ z hzg c (aD _ hc)
theorem Wk(h:1≤s):ck x (s,x%s)=true:=by
 rw[bO];have:=cE x s;rw[show x-x%s=s*(x / s) by lia];exact bx _ _
theorem Fe(hs:∀s∈ss,1≤s)(nd:ss.Nodup):∀(f:Nat) (cs:List ψ),(∀c∈cs,Valid c)->(∀c∈cs,c.1∈ss)->cs.Pairwise Ap->(lj ss f cs).Pairwise λa b=>¬a.Perm b
 |0,cs,_,_,_=>.nil
 |f+1,cs,hv,hst,ha=>by
  unfold lj;cases hf:lh cs with
  |none=>exact bE _ _
  |some x=>
   have good:∀c∈((ss.map λs=>((s,(x:Int)%s):ψ)).filter (tx cs)),(∀d∈cs++[c],Valid d)/\(∀d∈cs++[c],d.1∈ss)/\(cs++[c]).Pairwise Ap/\ck (x:Int) c=true:=by
    intro c hc;obtain⟨hc1,hc2⟩:=aI.mp hc;obtain⟨s,hs1,rfl⟩:=υ.mp hc1;have hvc:Valid (s,(x:Int)%s):=zP (hs s hs1);refine⟨λd hd=>?_,λd hd=>?_,?_,Wk (hs s hs1)⟩
    ·rcases aa.mp hd with h|h
     ·exact hv d h
     ·rw[ah.mp h];exact hvc
    ·rcases aa.mp hd with h|h
     ·exact hst d h
     ·rw[ah.mp h];exact hs1
    ·refine Ξ.mpr ⟨ha,bE _ _,λa haa b hb=>?_⟩;rw[ah.mp hb];exact (uG (λd hd=>(hv d hd).1) hvc.1).mp hc2 a haa
   refine rm.mpr ⟨λg hg=>?_,?_⟩
   ·obtain⟨c,hc,rfl⟩:=υ.mp hg;obtain⟨g1,g2,g3,_⟩:=good c hc;exact Fe hs nd f _ g1 g2 g3
   ·unfold grown;rw[aO];have nd2:(ss.map λs=>((s,(x:Int)%s):ψ)).Nodup:=aO.mpr (nd.imp λ{a b} h e=>h (congrArg (·.1) e));refine c5 (λ{c d} hc hd qb z hz w hw hp=>?_) (rZ (tx cs) nd2);obtain⟨g1,g2,g3,g4⟩:=good c hc;obtain⟨_,_,_,g5⟩:=good d hd;have hE:=Bu hs f _ g1 g2 g3 z hz;have h1:=Bk f _ z hz c (by simp);have h2:=hp.mem_iff.mpr (Bk f _ w hw d (by simp));have:=hE.once (x:Int);exact Bl (p:=ck (x:Int)) qb h1 h2 g4 g5 this
theorem Wj(h:rh n rs):rs.Nodup:=by
 refine h.1.nodup_iff.mpr ?_;have nds:(dA n).Nodup:=by
  refine rZ _ (aO.mpr (jG.imp λ{a b} h e=>h (by lia)))
 have:=Fe (ss:=dA n) (λs hs=>(nv.mp hs).1) nds 40 [] (λc hc=>(nomatch hc)) (λc hc=>(nomatch hc)) .nil;refine aO.mpr (this.imp λ{a b} hn e=>hn ?_);exact (rF a).symm.trans (e▸rF b)
theorem Wi(hd:0<d.1)(k n:Int):ck n (qW k d)=ck (n-k) d:=by
 rw[cV,bO,bO];show d.1∣n-(d.2+k)%d.1↔d.1∣n-k-d.2;have e:=cE (d.2+k) d.1;have z:d.1∣d.1*((d.2+k) / d.1):=bx _ _;constructor
 ·intro h;have:=fC h z;rwa [show n-(d.2+k)%d.1-d.1*((d.2+k) / d.1)=n-k-d.2 by lia] at this
 ·intro h;have:=lC h z;rwa [show n-k-d.2+d.1*((d.2+k) / d.1)=n-(d.2+k)%d.1 by lia] at this
theorem Ex.ok(h1:1≤n)(h2:n≤1000)(h:Ex n cs):kY 1000 cs:=λc hc=>⟨(h.v c hc).1,by have:=vS h1 (h.v c hc).2;lia⟩
theorem Ex.ne(h:Ex n cs):cs≠[]:=λz=>by
 have:=h.once 0;rw[z] at this;cases this
theorem Ex.D5(h1:1≤n)(h2:n≤60)(h:Ex n cs):pA cs:=λc hc=>⟨(h.v c hc).1,by have:=vS h1 (h.v c hc).2;lia⟩
theorem Ex.moved(h:Ex n cs)(k:Int):Ex n (xP cs k):=by
 have hp:(xP cs k).Perm (cs.map (qW k)):=rF _;have ho:iS (cs.map (qW k)):=λm=>by
  rw[mM,ε,←h.once (m-k)];exact congrArg bM (fi λc hc=>(Wi (h.v c hc).1.1 k m))
 refine⟨λc hc=>?_,Bw hp.symm ho,Bt ho.nodup⟩;obtain⟨d,hd,rfl⟩:=υ.mp (hp.mem_iff.mp hc);obtain⟨h1,h2⟩:=h.v d hd;exact⟨⟨h1.1,cF _ (by have:=h1.1;lia),bV _ h1.1⟩,h2⟩
theorem Ex.twice(h1:1≤n)(h2:n≤60)(h:Ex n cs)(hl:1<cs.length)(hm:m∈gw cs)(hmax:∀s∈gw cs,s≤m):2≤(gw cs).countP (· == m):=by
 have h60:=h.D5 h1 h2;have hst:∀s∈gw cs,1≤s/\s≤60:=λs hs=>by
  obtain⟨c,hc,rfl⟩:=υ.mp hs;have:=(h60 c hc).1.1;exact⟨by lia,(h60 c hc).2⟩
 have hpos:0<(gw cs).countP (· == m):=sE.mpr ⟨m,hm,beq_self_eq_true m⟩;refine aB λhn=>?_;have hc:(gw cs).countP (· == m)=1:=by lia
 have hm1:1<m:=by
  refine aB λhz=>?_;have hone:∀c∈cs,ck 0 c=true:=λc hcc=>by
   have a1:=hmax c.1 (υ.mpr ⟨c,hcc,rfl⟩);have a2:=(h60 c hcc).1.1;rw[bO,show c.1=1 by lia];exact Int.one_dvd _
  have:=h.once 0;rw[iw.mpr hone] at this;lia
 exact Xo hst (by rw[←vT];exact FH h60 h.once) hmax hm1 hc ⟨cs,rfl,λc hc=>(h60 c hc).1,Bv h.once⟩
theorem Fd(hv:∀c∈cs,Valid c)(ho:iS cs)(hi:cs[i]?=some c)(k2:2≤k):∀z∈parts c k,z∉gp cs i:=λz hz hr=>by
 have hc:=hv c (av hi);obtain⟨t,ht,rfl⟩:=υ.mp hz;have hzm:(c.1*(k:Int),c.2+c.1*(t:Int))∈cs:=by
  rcases aa.mp hr with h|h
  ·exact cf h
  ·exact cg h
 have hne:(c.1*(k:Int),c.2+c.1*(t:Int))≠c:=λe=>by
  have h0:=hc.1;have:c.1*2≤c.1*(k:Int):=bG (by lia) (by lia);lia
 refine Bl (p:=ck (c.2+c.1*(t:Int))) hne hzm (av hi) (qu (c:=(c.1*(k:Int),c.2+c.1*(t:Int)))) ?_ (ho (c.2+c.1*(t:Int)));rw[bO,show c.2+c.1*(t:Int)-c.2=c.1*(t:Int) by lia];exact bx _ _
theorem Ex.split{k:Nat}(h:Ex n cs)(hi:cs[i]?=some c)(k2:2≤k)(hd:c.1*(k:Int)∣(n:Int))(hu:∀z,z∈us↔z∈gp cs i∨z∈parts c k)(hr:mB us):Ex n us:=by
 have hv:=λc hc=>(h.v c hc).1;have hc:=hv c (av hi);refine⟨λz hz=>?_,(Wr hc (by lia) h.once.nodup hi hr hu (Fd hv h.once hi k2)).mpr h.once,hr⟩;rcases (hu z).mp hz with hz|hz
 ·have hzm:z∈cs:=by
   rcases aa.mp hz with h|h
   ·exact cf h
   ·exact cg h
  exact h.v z hzm
 ·obtain⟨h1,h2⟩:=EJ hc hz;exact⟨h1,by rw[h2];exact hd⟩
theorem Ex.split_len(h1:1≤n){i k:Nat}(h:Ex n cs)(hi:cs[i]?=some c)(k2:2≤k)(hd:c.1*(k:Int)∣(n:Int)):cs.length+k≤n+1:=by
 have hv:=λc hc=>(h.v c hc).1;have hc:=hv c (av hi);have ko:=Fd hv h.once hi k2;have nd1:=(Et h.once.nodup hi).1;have nd:=jb.mpr ⟨nd1,Eu hc k,λa ha b hb e=>ko b hb (e▸ha)⟩;have hp:=rF (gp cs i++parts c k);have hr:=Bt nd;have:=(h.split hi k2 hd (λz=>by rw[hp.mem_iff,aa]) hr).len h1;rw[hp.length_eq,π,rG] at this;have hil:=(Γ.mp hi).1;have:(gp cs i).length=cs.length-1:=by
  unfold gp;rw[π,aZ,aX];lia
 lia
theorem Wh(k:List Int)(nd:(kns.map (·.1)).Nodup):((kr kns k).map (·.2)).sum=(kns.map (·.2)).sum+1:=by
 unfold kr;by_cases h:k∈kns.map (·.1)
 ·rw[if_pos h];have key:∀(v:Int) (l:List (List Int×Int)),(l.map (·.1)).Nodup->∀p∈l,p.1=k->((l.map λq=>if q.1=k then (q.1,v) else q).map (·.2)).sum=(l.map (·.2)).sum-p.2+v:=by
   intro v l
   induction l with
   |nil=>intro _ p hp;cases hp
   |cons q l ih=>
    intro nd p hp e;obtain⟨n1,n2⟩:=cc.mp nd;rw[ay,ay,bQ,ay,bQ];rcases Ψ.mp hp with rfl|hp
    ·rw[if_pos e];have:(l.map λq=>if q.1=k then (q.1,v) else q)=l:=by
      conv=>rhs;rw[←qI l]
      refine bB λq hq=>?_;rw[if_neg λz=>n1 (υ.mpr ⟨q,hq,by rw[z,←e]⟩)];rfl
     rw[this];lia
    ·have hne:¬q.1=k:=λz=>n1 (υ.mpr ⟨p,hp,by rw[e,←z]⟩);rw[if_neg hne,ih n2 p hp e];lia
  obtain⟨p,hp,e⟩:=υ.mp h;have hval:rB kns k=p.2:=by
   have hf:kns.find? (λq=>decide (q.1=k))=some p:=by
    clear h
    induction kns with
    |nil=>cases hp
    |cons q l ih=>
     obtain⟨n1,n2⟩:=cc.mp nd;rcases Ψ.mp hp with rfl|hp
     ·rw[fq,decide_eq_true e]
     ·rw[fq,decide_eq_false λz=>n1 (υ.mpr ⟨p,hp,by rw[e];exact z.symm⟩)];exact ih n2 hp
   unfold rB;rw[hf];rfl
  rw[key _ kns nd p hp e,hval];lia
 ·rw[if_neg h];have hval:rB kns k=0:=by
   unfold rB;rw[eN.mpr λq hq z=>h (υ.mpr ⟨q,hq,of_decide_eq_true z⟩)];rfl
  rw[aP,kc,hval];simp
theorem Wg(tss:List (List Int)):((uX tss).map (·.2)).sum=((tss.length:Nat):Int)/\((uX tss).map (·.1)).Nodup:=by
 have key:∀(l:List (List Int)) (kns:List (List Int×Int)),(kns.map (·.1)).Nodup->((l.foldl kr kns).map (·.2)).sum=(kns.map (·.2)).sum+((l.length:Nat):Int)/\((l.foldl kr kns).map (·.1)).Nodup:=by
  intro l
  induction l with
  |nil=>intro kns nd;exact⟨by simp,nd⟩
  |cons k l ih=>
   intro kns nd;obtain⟨h1,h2⟩:=ih (kr kns k) (FR k nd);refine⟨?_,h2⟩;rw[mL,h1,Wh k nd,ai];lia
 obtain⟨h1,h2⟩:=key tss [] jo;exact⟨by unfold uX;rw[h1];simp,h2⟩
theorem Fc(hc:Valid c)(h:fu z c=true):z.1%c.1=0/\z.2%c.1=c.2:=by
 unfold fu rg at h;rw[aM,beq_iff_eq,beq_iff_eq] at h;exact h
theorem Fb(p j:Nat):((p^(j+1):Nat):Int)=((p^j:Nat):Int)*(p:Int):=by rw[kB,cU]
theorem Wf(h:a≤j):((p^a:Nat):Int)∣((p^j:Nat):Int):=a8.mpr (Nat.pow_dvd_pow p h)
theorem E9{cs:List ψ}{c z:ψ}(hv:Valid c)(hz:∀z∈cs,Valid z/\fu z c=true)(hx:∀n,ck n c=true->(cs.filter (ck n)).length=1)(hm:z∈cs)(e:z.1=c.1):lr cs c:=by
 obtain⟨v,hi⟩:=hz z hm;have h1:=(Fc hv hi).2;rw[←e,f7 v.2.1 v.2.2] at h1;have ez:z=c:=uT e h1;subst ez;have all:∀d∈cs,d=z:=λd hd=>aB λhne=>by
  have hr:ck d.2 z=true:=by
   rw[qP hv];unfold rg;rw[(Fc hv (hz d hd).2).2];exact beq_self_eq_true _
  exact Bl (p:=ck d.2) hne hd hm qu hr (hx d.2 hr)
 have h2:=hx z.2 qu;rw[iw.mpr λd hd=>by rw[all d hd];exact qu] at h2;obtain⟨y,hy⟩:=qJ.mp h2;have:y=z:=all y (by rw[hy];simp);rw[hy,this];exact .leaf z
theorem We(hp:2≤p):∀(e a:Nat) {cs:List ψ} {c:ψ},c.1=((p^a:Nat):Int)->Valid c->(∀z∈cs,Valid z/\fu z c=true/\∃j,a≤j/\j≤a+e/\z.1=((p^j:Nat):Int)) ->
  (∀n,ck n c=true->(cs.filter (ck n)).length=1)->lr cs c:=by
 intro e
 induction e with
 |zero=>
  intro a cs c hc hv hz hx;obtain⟨z,hzf⟩:=i7 (show 0<(cs.filter (ck c.2)).length by rw[hx c.2 qu];decide);have hm:=(aI.mp hzf).1;obtain⟨_,_,j,j1,j2,j3⟩:=hz z hm;exact E9 hv (λz hz'=>⟨(hz z hz').1,(hz z hz').2.1⟩) hx hm (by rw[j3,hc,show j=a by lia])
 |succ e ih=>
  intro a cs c hc hv hz hx;by_cases hex:∃z∈cs,z.1=c.1
  ·obtain⟨z,hm,ez⟩:=hex;exact E9 hv (λz hz'=>⟨(hz z hz').1,(hz z hz').2.1⟩) hx hm ez
  ·have hj:∀z∈cs,∃j,a+1≤j/\j≤a+1+e/\z.1=((p^j:Nat):Int):=λz hm=>by
    obtain⟨_,_,j,j1,j2,j3⟩:=hz z hm;refine⟨j,?_,by lia,j3⟩;have:j≠a:=λq=>hex ⟨z,hm,by rw[j3,hc,q]⟩;lia
   have hd:∀z∈cs,c.1*(p:Int)∣z.1:=λz hm=>by
    obtain⟨j,j1,j2,j3⟩:=hj z hm;rw[hc,←Fb,j3];exact Wf j1
   refine .node p hp hd λt ht=>?_;have hvq:=Bm hv ht;have hq1:(sub c p t).1=((p^(a+1):Nat):Int):=by
    show c.1*(p:Int)=_;rw[hc,←Fb]
   refine ih (a+1) hq1 hvq (λz hm=>?_) λn hn=>?_
   ·obtain⟨hm1,hm2⟩:=aI.mp hm;exact⟨(hz z hm1).1,hm2,hj z hm1⟩
   ·have hnc:ck n c=true:=by
     have h1:=bO.mp hn;have h1:c.1*(p:Int)∣n-(c.2+c.1*(t:Int)):=h1;have h2:=lC (d0 (bx c.1 (p:Int)) h1) (bx c.1 (t:Int));rw[show n-(c.2+c.1*(t:Int))+c.1*(t:Int)=n-c.2 by lia] at h2;exact bO.mpr h2
    rw[←hx n hnc];unfold eF;rw[tQ];refine congrArg bM (fi λz hm=>?_);cases hr:ck n z with
    |false=>rfl
    |true=>
     rw[Wq hr hn (hd z hm) hvq];rfl
theorem Wd{n:Nat}(h:n=2∨n=3∨n=4∨n=5∨n=7∨n=8∨n=9):∃p,2≤p/\∀s∈dA n,∃j,j≤3/\s=((p^j:Nat):Int):=by
 have key:∀(n p:Nat),(dA n).all (λs=>(Φ 4).any λj=>s==((p^j:Nat):Int))=true->∀s∈dA n,∃j,j≤3/\s=((p^j:Nat):Int):=λn p hk s hs=>by
  obtain⟨j,hj,e⟩:=jH.mp (cZ.mp hk s hs);have:=az.mp hj;exact⟨j,by lia,eq_of_beq e⟩
 rcases h with rfl|rfl|rfl|rfl|rfl|rfl|rfl
 ·exact⟨2,by decide,key 2 2 (by decide +kernel)⟩
 ·exact⟨3,by decide,key 3 3 (by decide +kernel)⟩
 ·exact⟨2,by decide,key 4 2 (by decide +kernel)⟩
 ·exact⟨5,by decide,key 5 5 (by decide +kernel)⟩
 ·exact⟨7,by decide,key 7 7 (by decide +kernel)⟩
 ·exact⟨2,by decide,key 8 2 (by decide +kernel)⟩
 ·exact⟨3,by decide,key 9 3 (by decide +kernel)⟩
theorem Ex.Ks(h:n=2∨n=3∨n=4∨n=5∨n=7∨n=8∨n=9)(hE:Ex n cs):∃d,dU 10 cs (1,0)=some d:=by
 have h1:1≤n:=by lia
 obtain⟨p,hp,hs⟩:=Wd h;have hv1:Valid ((1,0):ψ):=⟨by decide,by decide,by decide⟩;have hS:=We hp 3 0 (by rw[Nat.pow_zero];rfl) hv1 (λz hz=>by
  obtain⟨a,b⟩:=hE.v z hz;obtain⟨j,j1,j2⟩:=hs z.1 (nv.mpr ⟨by have:=a.1;lia,vS h1 b,b⟩);exact⟨a,Es,j,ar _,by lia,j2⟩) λm _=>hE.once m
 have hl:=hE.len h1;have W:=Bo (by lia) λz hz=>⟨(hE.v z hz).1.1,by have:=vS h1 (hE.v z hz).2;lia⟩;cases hd:dU 10 cs (1,0) with
 |none=>exact absurd hd (Ww W hS)
 |some d=>exact⟨d,rfl⟩
end My
namespace L3
open PySem PySem.Spec PyProof.Rows L2 My
section
variable {X:Cx} {e:aT} {ta:cu} {pos p p' pos':d9}
theorem E8(hc:X.calm=true)(hu:X.A.units+64<cLine):gG X (.type "set") (λvs H Q=>∃(a:ν) (xs:List V) (nss:List (List (List Int))),vs=[.ref a]/\fw X.K H a xs/\aU X.K H (nss.map eJ) xs/\nss.length≤1100 ∧
  ∀(b:ν) (zs:List (List (List Int)×ν)),H b=none->(∀p∈zs,ra X.K H p.1 p.2)->(∀ns,ns∈zs.map (·.1)↔ns∈nss)->(zs.map (·.1)).Nodup->zs.length≤nss.length->Q (.ref b) (upd H b (.ext (tW X.prog X.w b zs)))):=by
 intro pins s σ H vs us Q I r h;obtain⟨a,xs,nss,rfl,hl,hv,hz,q⟩:=h;obtain⟨u,rfl,ru⟩:=vals1 r;cases ru;obtain⟨its,rv,pl,_⟩:=I.list hl;obtain⟨ps,e1,e2,e3,e4⟩:=Ci I hv rv;subst e3;have hlen:ps.length=nss.length:=by rw[←e1,ε]
 refine cQ.wI (ps:=ps) (I.ok.hd hc) pl.isList rfl (λp hp=>(e4 p hp).2) (by lia) (by lia) λh' tk zs kk hS hD=>?_;obtain⟨o,es,ep,t,S,T⟩:=hS;refine⟨.ref s.heap.objs.size,_,I.laid (o:=.ext (tW X.prog X.w s.heap.objs.size zs)) kk (ρ _) ?_,rfl,q _ zs (I.bX.fresh (ρ _)) (λp hp=>(e4 p (hD.sub p hp)).1) (λns=>?_) S.nd ?_⟩
 ·refine⟨⟨o,es,ep,t,S.at_,S.ex,S.dat,S.ents,S.nd,S.plain,S.led,T⟩,⟨o,S.at_⟩,λh1 h2 ⟨o',es',ep',t',y1,y⟩ kk2=>⟨o',es',ep',t',kk2 _ y1,y⟩⟩
 ·rw[←e1];constructor
  ·intro hm;obtain⟨p,hp,rfl⟩:=υ.mp hm;exact υ.mpr ⟨p,hD.sub p hp,rfl⟩
  ·intro hm;obtain⟨p,hp,rfl⟩:=υ.mp hm;exact hD.all p hp
 ·rw[←hlen];exact hD.len
theorem Wc:gG X (.builtin "len") (λvs H Q=>∃(b:ν) (zs:List (List (List Int)×ν)),vs=[.ref b]/\H b=some (.ext (tW X.prog X.w b zs))/\zs.length≤1100/\Q (.int zs.length) H):=by
 intro pins s σ H vs us Q I r ⟨b,zs,e1,hb,hz,q⟩;subst e1;obtain⟨u,rfl,ru⟩:=vals1 r;cases ru;obtain⟨⟨o,es,ep,t,y1,y2,y3,y4,y5,y6,y7,T⟩,_⟩:=(show fk X.prog X.w H s.heap b _ from I.bX b _ hb);have hsz:es.size=zs.length:=by
  have:es.toList.length=zs.length:=by rw[y4,ε]
  simpa using this
 refine call_len_set y1 y2 y3 (cQ.kg (cQ.Tab.r T)) (by rw[hsz];lia) ?_;rw[hsz];exact⟨.int zs.length,H,I.tok _,⟨_,rfl⟩,q⟩
theorem Wb(hc:X.calm=true)(hu:X.A.units+64<cLine):gG X (.builtin "sorted") (λvs H Q=>∃(b:ν) (zs:List (List (List Int)×ν)),vs=[.ref b]/\H b=some (.ext (tW X.prog X.w b zs))/\(∀p∈zs,ra X.K H p.1 p.2)/\zs.length≤1100/\(∀p∈zs,p.1≠[]) ∧
  ∀(p:ν) (mss:List (List (List Int))) (ys:List V),H p=none->mss.Perm (zs.map (·.1))->jZ mss->aU X.K H (mss.map eJ) ys->Q (.ref p) (upd H p (.lst ys))):=by
 intro pins s σ H vs us Q I r h;obtain⟨b,zs,rfl,hb,hk,hz,hne,q⟩:=h;obtain⟨u,rfl,ru⟩:=vals1 r;cases ru;obtain⟨⟨o,es,ep,t,y1,y2,y3,y4,y5,y6,y7,T⟩,_⟩:=(show fk X.prog X.w H s.heap b _ from I.bX b _ hb);have hK:=λp hp=>vV I (hk p hp);have S:cQ.lO X.w s.heap b o es ep t:=⟨y1,y2,y3,y6,y7⟩;obtain⟨zs',p1,p2⟩:=lb (cQ.mm X.w b ep es) y4;have hsz:es.size=zs.length:=by
  have:es.toList.length=zs.length:=by rw[y4,ε]
  simpa using this
 have hz':zs'.length≤1100:=by rw[p1.length_eq];lia
 have inj:∀p∈zs',∀q∈zs',aR.x9 p=aR.x9 q->p=q:=λp hp q hq e=>by
  obtain⟨k,b⟩:=p;obtain⟨k',b'⟩:=q;injection e with e;subst e;have ek:k=k':=(hK _ (p1.mem_iff.mp hp)).inj (hK _ (p1.mem_iff.mp hq));rw[ek]
 refine fQ.rD (κ:=tuples' false) (f:=aR.x9) (ps:=zs') aR.Dn inj (λs' h2 kk=>?_) (by lia) (λR hR=>?_) λqs s' c D' hS hn hD hm=>?_
 ·have hk':∀p∈zs',cQ.gC X.prog X.w s'.heap p.1 p.2/\p.1≠[]:=λp hp=>⟨cQ.uP kk (hK p (p1.mem_iff.mp hp)),hne _ (p1.mem_iff.mp hp)⟩;exact⟨λQ E q=>aR.xT (λz=>by rw[z] at h2;simp at h2) hk' q,λp hp q hq Q E hq'=>aR.wA (by lia) (hk' p hp).1 (hk' q hq).1 hq'⟩
 ·refine cQ.qO (by have:=I.ok.hd hc;simpa using this) S T (by lia) λs' hm=>?_;have:=hR s' hm;rwa [p2,aJ]
 ·have e:s'={ s with heap:=s'.heap,toks:=s'.toks }:=by
   cases s';cases s;have h1:=hm.gens;have h2:=hm.drawn;have h3:=hm.os;subst h1 h2 h3;rfl
  rw[e];refine⟨.ref D',_,Inv.wM I (o:=.lst (qs.map λp=>.ref p.2)) (λb u z=>hm.heap b u (λy=>nomatch y) z) hn ?_,rfl,?_⟩
  ·refine⟨?_,_,c,Cg qs,hD⟩;rw[ε,hS.perm.length_eq,cG];lia
  ·refine q _ (qs.map (·.1)) _ (Inv.vj I hn) ((hS.perm.map _).trans (p1.map _)) ?_ (Cj λp hp=>hk p (p1.mem_iff.mp (hS.perm.mem_iff.mp hp)));exact aO.mpr hS.rise
def wC(ta:cu):cu:=λτ G Q=>ta τ G λx G1=>match x with
 |.obj a=>∃nss:List (List (List Int)),G1 a=some (.lst (nss.map eJ))/\nss.length≤1100/\(∀ns∈nss,ns≠[])/\∀(p:ν) (mss:List (List (List Int))) (G':Gp),d8 G1 p (.lst (mss.map eJ)) G'->(∀ns,ns∈mss↔ns∈nss)->mss.Nodup->jZ mss->Q (.obj p) G'
 |_=>False
theorem WM(hu:X.A.units+64<cLine)(ha:QE X e ta)(hm:X.mg "sorted" = none)(hm2:X.mg "set" = none)(hc:X.calm=true:=by rfl)(hg:Gl X "sorted":=by rfl)(hg2:Gl X "set":=by rfl)(he2:notStar e=true:=by rfl):
  QE X (.Call (.Name "sorted" p) [.Call (.Name "set" p') [e] [] pos'] [] pos) (wC ta):=
 ⟨jJ (qT (Wb hc hu) hg hm rfl (sW (vQ (E8 hc hu) hg2 hm2 rfl (sW ha.of uk (eU he2)) (he:=eU he2) (hpl:=k9 rfl)) uk (eU rfl)) (he:=eU rfl) (hpl:=k9 rfl)) λσ H Q zz=>by
  obtain⟨τ,G,Q3,RS,RG,h,k⟩:=zz;refine⟨τ,G,_,RS,RG,h,λv H1 d G1 h1 S1 R1 q1=>?_⟩;cases d with
  |obj a=>
   obtain⟨nss,e1,hz,hne,q⟩:=q1;obtain⟨xs,e2,e3⟩:=R1 a _ e1;rw[iY h1];refine⟨a,xs,nss,rfl,.of e2,e3,hz,λb zs hb hk hmem hnd hlen=>?_⟩;have E2:Ext H1 (upd H1 b (.ext (tW X.prog X.w b zs))):=.laid hb;refine⟨b,zs,rfl,jw,λp hp=>ra.ext E2 (hk p hp),by lia,λp hp=>hne _ ((hmem _).mp (υ.mpr ⟨p,hp,rfl⟩)),λp mss ys hp hpm hr hv=>?_⟩;have R2:bh X.K G1 (upd H1 b (.ext (tW X.prog X.w b zs))):=R1.laid hb;refine k _ _ (.obj p) _ qS ((S1.trans (.laid hb)).trans (.iq hp)) (R2.nN hp hv) (q p mss _ (.mk' (R2.free hp)) (λns=>?_) ?_ hr)
   ·rw[hpm.mem_iff];exact hmem ns
   ·exact hpm.nodup_iff.mpr hnd
  |_=>exact q1.elim⟩
def qc(ta:cu):cu:=λτ G Q=>ta τ G λx G1=>match x with
 |.obj a=>∃nss:List (List (List Int)),G1 a=some (.lst (nss.map eJ))/\nss.length≤1100/\∀(mss:List (List (List Int))),(∀ns,ns∈mss↔ns∈nss)->mss.Nodup->Q (.int mss.length) G1
 |_=>False
theorem WL(hu:X.A.units+64<cLine)(ha:QE X e ta)(hm:X.mg "len" = none)(hm2:X.mg "set" = none)(hc:X.calm=true:=by rfl)(hg:Gl X "len":=by rfl)(hg2:Gl X "set":=by rfl)(he2:notStar e=true:=by rfl):
  QE X (.Call (.Name "len" p) [.Call (.Name "set" p') [e] [] pos'] [] pos) (qc ta):=
 ⟨jJ (qT Wc hg hm rfl (sW (vQ (E8 hc hu) hg2 hm2 rfl (sW ha.of uk (eU he2)) (he:=eU he2) (hpl:=k9 rfl)) uk (eU rfl)) (he:=eU rfl) (hpl:=k9 rfl)) λσ H Q zz=>by
  obtain⟨τ,G,Q3,RS,RG,h,k⟩:=zz;refine⟨τ,G,_,RS,RG,h,λv H1 d G1 h1 S1 R1 q1=>?_⟩;cases d with
  |obj a=>
   obtain⟨nss,e1,hz,q⟩:=q1;obtain⟨xs,e2,e3⟩:=R1 a _ e1;refine⟨a,xs,nss,by rw[iY h1],.of e2,e3,hz,λb zs hb _ hmem hnd hlen=>⟨b,zs,rfl,jw,by lia,?_⟩⟩;have q':=q (zs.map (·.1)) hmem hnd;rw[ε] at q';exact k _ _ (.int zs.length) G1 mo (S1.trans (.laid hb)) (R1.laid hb) q'
  |_=>exact q1.elim⟩
end
end L3
namespace HT
open PySem PyProof.Rows
def lexLe:List Int->List Int->Bool
 |[],[]=>true
 |[],_::_=>true
 |_::_,[]=>false
 |x::xs,y::ys=>if x=y then lexLe xs ys else decide (x≤y)
theorem aan(x y:Int)(xs ys:List Int):lexLe (x::xs) (y::ys)=if x=y then lexLe xs ys else decide (x≤y):=rfl
theorem aam:lexLe [] []=true:=rfl
theorem aak(y:Int)(ys:List Int):lexLe [] (y::ys)=true:=rfl
theorem aaj(x:Int)(xs:List Int):lexLe (x::xs) []=false:=rfl
theorem WK(A:aQ)(s:η)(a:Int)(t:Tok)(c:Int)(u:Tok)(prog:ao)(w:aC)(E:ζ->η->Prop)(Q:ζ->η->Prop)(h:Q (.bool (decide (a≤c))) s):
  χ (model prog w) A (jQ .LtE (.int a t) (.int c u)) Q E s:=
 (PyProof.Rows.le_int h:χ (model prog w) A (compareOp .LtE (.int a t) (.int c u)) Q E s)
section
variable {prog:ao} {w:aC} {A:aQ} {E:ζ->η->Prop} {s:η}
theorem WJ(hl:gK s.heap l items)(hb:gK s.heap b items2)(hi:f6 items.toList ns)(hj:f6 items2.toList ms)
  (hu:A.units<cLine) (h:Q (.bool (lexLe ns ms)) s):χ (model prog w) A (compareOp .LtE (.ref l) (.ref b)) Q E s:=by
 obtain⟨⟨cls,dd,data,sl⟩,ho,hc,n,hd⟩:=id hl;obtain⟨⟨cls2,dd2,data2,sl2⟩,ho2,hc2,n2,hd2⟩:=id hb;simp only at hc hd hc2 hd2;subst hc hd hc2 hd2;exact iU (op:=.LtE) ⟨_,ho,rfl⟩ ⟨_,ho2,rfl⟩ PySem.F.slot_tuple_le PySem.F.entry_tuple_le (PySem.F.args_tuple_le_2 _ _) (Aa true lexLe (λa b=>decide (a≤b)) (λv i=>∃t,v=.int i t) l b items items2 n n2 dd dd2 sl sl2 ns ms rfl (λ_ _=>rfl) (λ_ _=>rfl) λ_ _ _ _=>rfl)
  ⟨ho,ho2,⟨vf hi,vf hj,λprog w x y u v ⟨t1,e1⟩ ⟨t2,e2⟩=>by
   subst e1 e2;exact⟨λE Q q=>kz u t1 v t2 prog w _ _ q,λE Q q=>WK _ _ u t1 v t2 prog w _ _ q⟩⟩,show gu (lexLe ns ms)≠jE/\Q (.bool (lexLe ns ms)) s from⟨(λx=>nomatch x),h⟩⟩ hu
end
def nz:List (List Int)->List (List Int)->Bool
 |[],[]=>true
 |[],_::_=>true
 |_::_,[]=>false
 |x::xs,y::ys=>if x=y then nz xs ys else lexLe x y
theorem EZ:∀x y:List Int,lexLe x y = !aR.lx y x
 |[],[]=>rfl
 |[],_::_=>rfl
 |_::_,[]=>rfl
 |x::xs,y::ys=>by
  show (if x=y then lexLe xs ys else decide (x≤y)) = !(if y=x then aR.lx ys xs else decide (y<x));by_cases e:x=y
  ·rw[if_pos e,if_pos e.symm,EZ xs ys]
  ·rw[if_neg e,if_neg (di e)];by_cases h:x≤y
   ·rw[decide_eq_true h,decide_eq_false (by lia)];rfl
   ·rw[decide_eq_false h,decide_eq_true (by lia)];rfl
theorem wz:∀x y:List (List Int),nz x y = !aR.e8 y x
 |[],[]=>rfl
 |[],_::_=>rfl
 |_::_,[]=>rfl
 |x::xs,y::ys=>by
  show (if x=y then nz xs ys else lexLe x y) = !(if y=x then aR.e8 ys xs else aR.lx y x);by_cases e:x=y
  ·rw[if_pos e,if_pos e.symm,wz xs ys]
  ·rw[if_neg e,if_neg (di e),EZ]
section
variable {prog:ao} {w:aC} {A:aQ} {E:ζ->η->Prop} {s:η}
theorem Ah(hl:gK s.heap l items)(hb:gK s.heap b items2)(hi:nQ s.heap items.toList ns)(hj:nQ s.heap items2.toList ms)
  (hu:A.units+16<cLine) (h:Q (.bool (nz ns ms)) s):χ (model prog w) A (compareOp .LtE (.ref l) (.ref b)) Q E s:=by
 obtain⟨⟨cls,dd,data,sl⟩,ho,hc,n,hd⟩:=id hl;obtain⟨⟨cls2,dd2,data2,sl2⟩,ho2,hc2,n2,hd2⟩:=id hb;subst hc hd hc2 hd2;exact iU (op:=.LtE) ⟨_,ho,rfl⟩ ⟨_,ho2,rfl⟩ PySem.F.slot_tuple_le PySem.F.entry_tuple_le (PySem.F.args_tuple_le_2 _ _) (Aa true nz lexLe (RT s.heap) l b items items2 n n2 dd dd2 sl sl2 ns ms rfl (λ_ _=>rfl) (λ_ _=>rfl) λ_ _ _ _=>rfl)
  ⟨ho,ho2,⟨hi.it,hj.it,λprog w x y u v ⟨a1,i1,e1,t1,j1⟩ ⟨a2,i2,e2,t2,j2⟩=>by
   subst e1 e2;exact⟨λE Q q=>gD (knd:=intKind prog w) (by first|(show A.units+1<cLine;omega)|(show A.units+1+1<cLine;omega)|(show A.units+2+1<cLine;omega)) (zh t1 j1) (zh t2 j2) q,λE Q q=>WJ t1 t2 j1 j2 (by first|(show A.units+1<cLine;omega)|(show A.units+1+1<cLine;omega)|(show A.units+2+1<cLine;omega)) q⟩⟩,show gu (nz ns ms)≠jE/\Q (.bool (nz ns ms)) s from⟨(λx=>nomatch x),h⟩⟩ (by omega)
end
end HT
namespace L3
open PySem PySem.Spec PyProof.Rows L2 My
section
variable {X:Cx} {K:PySem.W.Frag}
def Ec(K:PySem.W.Frag):R2:=λx y H Q=>∃a b ns ms,x=.ref a/\y=.ref b/\ra K H ns a/\ra K H ms b/\Q (.bl (!aR.e8 ms ns)) H
theorem WI(hu:X.A.units+64<cLine):eV X (compareOp .LtE) (Ec X.K):=by
 intro pins s σ H x y v u Q I rx ry h;obtain⟨a,b,ns,ms,rfl,rfl,ha,hb,q⟩:=h;cases rx;cases ry;obtain⟨oa,ia,na,ea,ca,da,ta⟩:=vV I ha;obtain⟨ob,ib,nb,eb,cb,db,tb⟩:=vV I hb;rw[←HT.wz] at q;exact HT.Ah (prog:=X.prog) (w:=X.w) ⟨oa,ea,ca,na,da⟩ ⟨ob,eb,cb,nb,db⟩ (HT.rO ta) (HT.rO tb) (by lia) ⟨.bl (HT.nz ns ms),H,I,rfl,q⟩
def Dk:R3:=λx y G Q=>∃ns ms,x=eJ ns/\y=eJ ms/\Q (.bl (!aR.e8 ms ns)) G
theorem WH:eG K Dk (Ec K):=λx y vx vy G H Q3 Q hx hy RG ⟨ns,ms,e1,e2,q⟩ k=>by
 subst e1;subst e2;obtain⟨a,rfl,h1⟩:=xh hx;obtain⟨b,rfl,h2⟩:=xh hy;exact⟨a,b,ns,ms,rfl,rfl,h1,h2,k _ H (.bl _) G pZ (.refl H G) RG q⟩
end
end L3
namespace L3
open PySem PySem.Spec PyProof.Rows L2
def pick{α:Type}(js:List Nat)(xs:List α):List α:=js.filterMap (xs[·]?)
def wB(lo:Int)(n:Nat):List Nat:=sliceRange (sliceBounds (some lo) none (some 3) n).1 (sliceBounds (some lo) none (some 3) n).2.1 (sliceBounds (some lo) none (some 3) n).2.2
theorem EY(lo:Int)(n:Nat):(wB lo n).length≤n:=by
 unfold wB sliceRange sliceBounds;simp only[uU,show (3:Int) > 0 by decide,if_true,ε,bo];split<;>split<;>omega
theorem yV(xs:List ζ)(lo:Int):slicePick xs.toArray (some lo) none (some 3)=(pick (wB lo xs.length) xs).toArray:=by
 unfold slicePick pick wB;rw[Ω];simp
theorem EX(js:List Nat)(xs:List α):(pick js xs).length≤js.length:=List.length_filterMap_le _ _
theorem WG(h:x∈pick js xs):x∈xs:=by
 obtain⟨j,_,e⟩:=kE.mp h;exact av e
theorem Bj(r:bq xs us):∀js:List Nat,bq (pick js xs) (pick js us)
 |[]=>.nil
 |j::js=>by
  unfold pick;rw[eo,eo];have hl:=r.length;by_cases hj:j<xs.length
  ·have e1:=Θ hj;obtain⟨u,e2,e3⟩:=r.get e1;rw[e1,e2];exact .cons e3 (Bj r js)
  ·rw[eH (by omega),eH (by omega)];exact Bj r js
theorem Bi{K:PySem.W.Frag}(h:aU K H ds vs):∀js:List Nat,aU K H (pick js ds) (pick js vs)
 |[]=>.nil
 |j::js=>by
  unfold pick;rw[eo,eo];have hl:=h.length;by_cases hj:j<ds.length
  ·have e1:=Θ hj;obtain⟨v,e2,e3⟩:=h.get e1;rw[e1,e2];exact .cons e3 (Bi h js)
  ·rw[eH (by omega),eH (by omega)];exact Bi h js
section
variable {X:Cx} {a l:aT} {ta tl:cu} {te:TE} {tlo:TO} {pos p2 p4:d9} {j:Nat}
theorem WE(he:PE X a te)(hl:PO X (some l) tlo):PE X (.Subscript a (.Slice (some l) none (some (.Constant (.int 3) j p4)) p2) pos) (λσ H Q=>te σ H λx H1=>tlo σ H1 λlo H2=>∃i a xs,lo=some i/\x=.ref a/\fw X.K H2 a xs/\∀p,H2 p=none->Q (.ref p) (upd H2 p (.lst (pick (wB i xs.length) xs)))):=by
 intro pins s σ H Q I h;refine Subscript_ (bN (he pins s σ H _ I h) λv s1 zz=>?_);obtain⟨x,H1,I1,r1,q1⟩:=zz;refine wpAny_Slice (bN (hl pins s1 σ H1 _ I1 q1) λvl s2 zz=>?_);obtain⟨lo,H2,I2,pl,q2⟩:=zz;rw[sk];refine δ ?_;rw[evalPart_some];refine bN (Jc (j:=j) (pos:=p4) pins s2 σ H2 (λy H'=>y=.int 3/\H'=H2) I2 ⟨rfl,rfl⟩) λu s3 zz=>?_;obtain⟨y,H3,I3,r3,e1,e2⟩:=zz;subst e1 e2;obtain⟨t,rfl⟩:=(show ∃t,u=iG 3 t from r3);obtain⟨i,b,xs,rfl,rfl,hx,q⟩:=q2;cases (show v=aw b from r1);have I4:Inv X pins σ H3 { s3 with heap:=s3.heap.push { cls:=.type "slice",data:=.fields #[vl,.none,.int 3 t]}}:=I3.kept (t':=s3.toks) λb ob q=>Heap.get?_push_of_some _ q
 obtain⟨its,r,ht,hz⟩:=I4.list hx;have hl:=r.length;refine tail_any (ops:=[.ref b,.ref s3.heap.objs.size]) ht.isList.typeIs oB.lookup (pE ht.isList (Heap.IsSliceOf.new ..) pl .none (.int 3 t) (by decide) ?_ (by rw[Ω,←r.length];exact hz)) (by with_unfolding_all rfl);rw[yV,←hl];refine⟨.ref _,_,I4.laid (t':=s3.toks) (o:=.lst (pick (wB i xs.length) xs)) (λb ob q=>Heap.get?_push_of_some _ q) (ρ _) ?_,rfl,q _ (I4.bX.fresh (ρ _))⟩;exact⟨aH (aH (EX _ _) (EY _ _)) hz,_,0,Bj r _,Heap.get?_push_size _ rfl⟩
def J4(ta tl:cu):cu:=λτ G Q=>ta τ G λx G1=>nc tl τ G1 λlo G2=>match lo,x with
 |some _,.obj a=>∃ds,G2 a=some (.lst ds)/\∀p es G3,(∀d∈es,d∈ds)->es.length≤ds.length->d8 G2 p (.lst es) G3->Q (.obj p) G3
 |_,_=>False
theorem WD(ha:QE X a ta)(hl:QE X l tl):QE X (.Subscript a (.Slice (some l) none (some (.Constant (.int 3) j p4)) p2) pos) (J4 ta tl):=⟨jJ (WE ha.of (IT hl.of)) λσ H Q zz=>by
 obtain⟨τ,G,Q3,RS,RG,h,k⟩:=zz;refine⟨τ,G,_,RS,RG,h,λv H1 d G1 h1 S1 R1 q1=>⟨τ,G1,_,RS.ext (S1.ext RG),R1,q1,λlo H2 G2 S2 R2 q2=>?_⟩⟩;cases lo with
 |none=>exact q2.elim
 |some i=>
  cases d with
  |obj b=>
   obtain⟨ds,e1,q⟩:=q2;obtain⟨vs,e2,e3⟩:=R2 b _ e1;refine⟨i,b,vs,rfl,iY h1,.of e2,λp hp=>k _ _ (.obj p) _ qS ((S1.trans S2).trans (.iq hp)) (R2.nN hp (Bi e3 _)) (q p (pick (wB i vs.length) ds) _ (λd hd=>WG hd) ?_ (.mk' (R2.free hp)))⟩;have:=EX (wB i vs.length) ds;have h2:=EY i vs.length;have h3:=e3.length;omega
  |_=>exact q2.elim⟩
end
end L3
namespace My
open PySem L2 L3
def Kc(rs:List (List ψ))(m:List (List Int)):Prop:=∃c∈rs,∃l,l6 c l/\m=gT l
theorem Ex.Jt(h1:1≤n)(h2:n≤12)(h:Ex n cs):DE cs:=by
 have hl:=h.len h1;refine⟨h.ok h1 (by lia),by lia,?_⟩;have hd:cK cs∣n:=Hk (Nat.one_dvd _) λc hc=>by
  have h0:=(h.v c hc).1.1;have:((c.1.toNat:Nat):Int)∣(n:Int):=by rw[bp (by lia)];exact (h.v c hc).2
  exact a8.mp this
 have:=fE (by lia) hd;lia
theorem Ex.least(h:Ex n cs)(hm:l6 cs m):Ex n m:=by
 obtain⟨x,_,rfl⟩:=υ.mp hm.1;exact h.moved _
theorem EW(e1:G1 q1=some (.lst (rs0.map a6)))(hl:rs0.length≤1000)(bX:∀c∈rs0,DE c)(q:∀(mss:List (List (List Int))) G',Sub G1 G'->mss.Nodup->(∀m,m∈mss↔Kc rs0 m)->Q (.int mss.length) G'):
  qc (fK ["clocks"] [] (gx λ_ G Q=>Q (.obj q1) G) (hName 0) dD (aN xg (ξ (θ 0) (ab)))) τ G1 Q:=by
 refine⟨_,e1,by rw[ε];exact cH (by lia),(xn (λes acc τ G'=>∃(dn rs ms:List (List ψ)) (x:Option D),dn++rs=rs0/\es=rs.map a6/\acc=ms.map a6/\ms.length=dn.length/\(∀m∈ms,∃c∈dn,l6 c m)/\(∀c∈dn,∃m∈ms,l6 c m)/\Sub G1 G'/\τ=[x]) (λ_ _ _ _ h=>?_) ?_ ?_ _ _ _ _ ⟨[],rs0,[],none,rfl,rfl,rfl,rfl,λm hm=>(nomatch hm),λc hc=>(nomatch hc),Sub.refl _,rfl⟩)⟩
 ·obtain⟨_,_,_,_,_,_,_,_,_,_,s,_⟩:=h;exact s _ _ e1
 ·rintro d es acc τ G3 K1 K2 ⟨dn,rs,ms,x,e2,e3,rfl,el,ha,hb,s1,rfl⟩ g1 g2;cases rs with
  |nil=>cases e3
  |cons c rs=>
   cases e3;have hcm:c∈rs0:=by
    rw[←e2];exact aj _ ι
   refine⟨λ_=>⟨c,rfl,bX c hcm,λm G4 hm s4=>(g1 _ _ _ ⟨dn++[c],rs,ms++[m],_,by rw[Δ];exact e2,rfl,by rw[aP];rfl,by rw[π,π,el];rfl,λz hz=>?_,λz hz=>?_,s1.trans s4,rfl⟩)⟩,nofun⟩
   ·rcases aa.mp hz with hz|hz
    ·obtain⟨c',h3,h4⟩:=ha z hz;exact⟨c',aD _ h3,h4⟩
    ·rw[ah.mp hz];exact⟨c,aj _ ι,hm⟩
   ·rcases aa.mp hz with hz|hz
    ·obtain⟨c',h3,h4⟩:=hb z hz;exact⟨c',aD _ h3,h4⟩
    ·rw[ah.mp hz];exact⟨m,aj _ ι,hm⟩
 ·rintro acc τ G3 ⟨dn,rs,ms,x,e2,e3,rfl,el,ha,hb,s1,rfl⟩;have e0:rs=[]:=by
   cases rs with
   |nil=>rfl
   |cons z zs=>cases e3
  subst e0;rw[bC] at e2;subst e2;intro p4 G4 n4;rw[vU] at n4;refine⟨_,n4.at_,by rw[ε];lia,λmss hm nd=>q mss G4 (s1.trans n4.sub) nd λm=>?_⟩;rw[hm];constructor
  ·intro hz;obtain⟨l,hl',rfl⟩:=υ.mp hz;obtain⟨c,hc,hL⟩:=ha l hl';exact⟨c,hc,l,hL,rfl⟩
  ·rintro⟨c,hc,l,hL,rfl⟩;obtain⟨m',hm',hL'⟩:=hb c hc;rw[Md hL hL'];exact sy hm'
def Er:dh:=λds G Q=>∃n:Nat,ds=[.int n]/\1≤n/\n≤12/\∀(rs:List (List ψ)) (mss:List (List (List Int))) G',rh n rs->Sub G G'->mss.Nodup->(∀m,m∈mss↔Kc rs m)->Q (.int mss.length) G'
def WC:au:=bu (qc (fK ["clocks"] [] (gx (aN xc (ξ (θ 0) (ab)))) (hName 0) (dD) (aN xg (ξ (θ 0) (ab)))))
theorem Wa:∀ds G Q,Er ds G Q->WC (aF Q) (aY ["n"] ds) G:=by
 rintro ds G Q ⟨n,rfl,h1,h2,q⟩;refine⟨n,rfl,h1,by lia,λq1 rs G1 hp hr n1=>?_⟩;have E:rh n rs:=⟨hp,hr⟩;exact EW (Q:=(aF Q).rt) (τ:=[some (.int (n:Nat))]) n1.at_ (zc h1 (by lia) E).1 (λc hc=>((xb h1 (by lia) E c).mp hc).Jt h1 h2) λmss G' s' nd hm=>bZ (q rs mss G' E (n1.sub.trans s') nd hm)
def nC(cs:List ψ):Dat.D:=.tup (cs.map cX)
theorem y8:∀rs:List (List ψ),c7 (rs.map a6)=some (rs.map nC)
 |[]=>rfl
 |c::cs=>by
  show (match eZ (a6 c) with
   |some x=>match c7 (cs.map a6) with
    |some xs=>some (x::xs)
    |none=>none
   | none=>none)=_
  have h:eZ (a6 c)=some (nC c):=by
   show eZ (.tup (c.map cD))=_;rw[eZ,qv];rfl
  rw[y8 cs,h];rfl
theorem Bh:∀rs:List (List ψ),Dat.jh (rs.map nC)≤2
 |[]=>ar _
 |c::cs=>by
  show max (nC c).i4 (Dat.jh (cs.map nC))≤2;have h1:(nC c).i4=Dat.jh (c.map cX)+1:=rfl;have h2:=xp c;have:=Bh cs;lia
theorem Ep:∀rs:List (List ψ),Dat.jA (rs.map nC) (rs.map nC)=true
 |[]=>rfl
 |c::cs=>by
  show ((nC c).dF (nC c)&&Dat.jA (cs.map nC) (cs.map nC))=true;rw[Ep cs,nZ];exact F4 c
theorem yZ{rs:List (List ψ)}(e:G q1=some (.lst (rs.map a6)))(hv:v∈rs):∃u vs,iD G (a6 v)=some u/\(iD G (.obj q1)=some (.lst vs)∨iD G (.obj q1)=some (.tup vs))/\Dat.jh vs≤50/\(vs.any λw=>w.dF u)=true:=
 ⟨nC v,rs.map nC,FK v,.inl (qQ e (y8 rs)),aH (Bh rs) (by decide),jH.mpr ⟨nC v,υ.mpr ⟨v,hv,rfl⟩,F4 v⟩⟩
theorem V9(q:Q ((gw cs).map D.int) G):iE (λ_=>True) (pk 2 (gr (hName 0) (gr (hName 1) px))) dD (θ 0) Q (cs.map cD) [] [none,none] G:=by
 refine ny (λτ=>∃x y,τ=[x,y]) cD (λ_=>true) (λz:ψ=>D.int z.1) (G:=G) trivial cs [] _ ⟨none,none,rfl⟩ ?_ ?_
 ·rintro z hz τ K1 K2 ⟨x,y,rfl⟩ g1 g2;exact⟨rfl,λ_=>g1 rfl _ ⟨_,_,rfl⟩,nofun⟩
 ·rw[br,By];have:cs.map (λz:ψ=>D.int z.1)=(gw cs).map D.int:=by
   rw[aJ];rfl
  rwa [this]
theorem V8(h:dU m cs c=some .aE):cs=[c]:=by
 cases m with
 |zero=>cases h
 |succ m=>
  unfold dU at h;split at h
  ·rename_i e;exact e
  ·cases ek:je cs c with
   |none=>rw[ek] at h;cases h
   |some k=>
    rw[ek] at h;obtain⟨ps,_,h2⟩:=qD.mp h;cases h2
structure One(G:Gp)(n:Nat)(q1 pp:ν)(rs:List (List ψ))(cs:List ψ):Prop where
 h1:1≤n
 h2:n≤12
 E:rh n rs
 m:cs∈rs
 l:cs.length≤10
 e:G q1=some (.lst (rs.map a6))
 p:G pp=some .qV
theorem One.sub(h:One G n q1 pp rs cs)(s:Sub G G'):One G' n q1 pp rs cs:=⟨h.h1,h.h2,h.E,h.m,h.l,s _ _ h.e,s _ _ h.p⟩
theorem One.ex(h:One G n q1 pp rs cs):Ex n cs:=(xb h.h1 (by have:=h.h2;lia) h.E cs).mp h.m
theorem One.Du(h:One G n q1 pp rs cs)(hv:Ex n v):v∈rs:=(xb h.h1 (by have:=h.h2;lia) h.E v).mpr hv
def Eo:dh:=λds G Q=>∃(n:Nat) (q1 pp:ν) (rs:List (List ψ)) (cs:List ψ),ds=[.int n,.obj q1,a6 cs,.obj pp]/\One G n q1 pp rs cs/\∀G',Sub G G'->Q (.bl true) G'
def V7:au:=gR (ya (tp (bz (aq (qt false) (θ 5) (eC .aE))) (bz (aq (dS true) (θ 2) (fN (ξ (fN (ξ (eC (.int 1)) (ξ (eC (.int 0)) (ab)))) (ab)))))) (bz (aq u0 (aN Bq (ξ (θ 2) (ξ (θ 5) (ab)))) (eC (.bl true))))) (bu (eC (.bl false))) (dB)
def V6:au:=gR (tp (bz (aq (dS false) (aq gq (θ 0) (aq i8 (aq cB (θ 4) (θ 6)) (θ 7))) (eC (.int 0)))) (bz (aq (lJ true) (aN F8 (ξ (θ 2) (ξ (θ 6) (ξ (θ 7) (ab))))) (θ 1)))) (bu (eC (.bl false))) (dB)
def V5:au:=bu (ni (aq (lJ false) (θ 8) (θ 1)) (aq Dk (θ 8) (θ 2)))
def En:au:=aS (bK (aN Fs (ξ (du qR (ξ (θ 4) (ab))) (ab))) (hName 8)) V5
def V4:au:=aS (jd (p8 (ξ (eC (.int 2)) (ξ (aq eu (θ 0) (eC (.int 1))) (ab)))) (hName 7) (V6)) En
def yY:au:=aS (bK (aN vL (ξ (θ 3) (ξ (du k8 (ξ (θ 2) (ab))) (ab)))) (hName 6)) V4
def Em:au:=aS (gR (bz (aq (lJ false) (θ 0) (fN (ξ (eC (.int 2)) (ξ (eC (.int 3)) (ξ (eC (.int 4)) (ξ (eC (.int 5)) (ξ (eC (.int 7)) (ξ (eC (.int 8)) (ξ (eC (.int 9)) (ab))))))))))) (aS (bK (aN EC (ξ (θ 2) (ab))) (hName 5)) V7) (dB)) yY
def El:au:=aS (gR (ya (bz (aq (lJ true) (aN zS (ξ (θ 2) (ξ (aN vL (ξ (θ 3) (ξ (eC (.int 100)) (ab)))) (ab)))) (θ 1))) (bz (aq (lJ true) (aN xg (ξ (θ 2) (ab))) (θ 1)))) (bu (eC (.bl false))) (dB)) Em
def V2:au:=aS (gR (ya (bz (aq u0 (aN Gg (ξ (θ 2) (ab))) (eC (.bl true)))) (tp (bz (aq Bf (du k8 (ξ (θ 4) (ab))) (eC (.int 1)))) (bz (aq wL (eM Bx (θ 4) (ξ (du zr (ξ (θ 4) (ab))) (ab))) (eC (.int 2)))))) (bu (eC (.bl false))) (dB)) El
def V1:au:=aS (bK (fK ["step","rest"] [] (gx (θ 2)) (pk 2 (gr (hName 0) (gr (hName 1) (px)))) (dD) (θ 0)) (hName 4)) V2
theorem V0(h:One G n q1 pp rs cs)(e4:G p4=some (.lst ((gw cs).map D.int)))(q:∀G',Sub G G'->Q (.bl true) G'):
  En (aF Q) [some (.int (n:Nat)),some (.obj q1),some (a6 cs),some (.obj pp),some (.obj p4),x5,x6,x7,x8] G:=by
 have hE:=h.ex;have hn1:=h.h1;have hn2:=h.h2;have hl:=h.l;have h60:=hE.D5 hn1 (by lia);have hst:∀s∈gw cs,1≤s/\s≤60:=λs hs=>by
  obtain⟨c,hc,rfl⟩:=υ.mp hs;have:=(h60 c hc).1.1;exact⟨by lia,(h60 c hc).2⟩
 have hasn:uy (gw cs) cs:=⟨rfl,λc hc=>(h60 c hc).1,Bv hE.once⟩;have hsum:jc (gw cs)=dH:=by rw[←FH h60 hE.once,vT]
 have hsort:=aO.mpr (hE.r.imp λ{a b} q=>by
  rcases q with q|q
  ·exact ju q
  ·exact Int.le_of_eq q.1)
 refine⟨_,e4,gw cs,rfl,λz=>hE.ne (sA.mp z),by rw[ε];lia,hst,λG1 s1=>⟨λz=>absurd hsum z,λz=>absurd ⟨cs,hasn⟩ z,λ_ ws hF=>?_⟩⟩;have hEw:Ex n ws:=⟨λc hc=>⟨hF.yf.2.1 c hc,by
  have hm:c.1∈gw cs:=by rw[←hF.yf.1];exact υ.mpr ⟨c,hc,rfl⟩
  obtain⟨d,hd,e⟩:=υ.mp hm;rw[←e];exact (hE.v d hd).2⟩,hF.once,Xp hF hsort⟩
 obtain⟨u1,vs1,a1,a2,a3,a4⟩:=yZ (s1 _ _ h.e) (h.Du hEw);refine⟨u1,vs1,a1,a2,a3,?_⟩;rw[a4];refine⟨λ_=>⟨gT ws,gT cs,zT ws,zT cs,?_⟩,nofun⟩;rw[Fy hF hasn];exact bZ (q G1 s1)
theorem Ek(h:One G n q1 pp rs cs)(e4:G p4=some (.lst ((gw cs).map D.int)))(q:∀G',Sub G G'->Q (.bl true) G'):
  yY (aF Q) [some (.int (n:Nat)),some (.obj q1),some (a6 cs),some (.obj pp),some (.obj p4),x5,x6,x7,x8] G:=by
 have hE:=h.ex;have hn1:=h.h1;have hn2:=h.h2;have hl:=h.l;have ok:=hE.ok hn1 (by lia);have h0:=jT.mpr hE.ne;have hlm:(cs.map cD).length=cs.length:=ε _;refine⟨pp,_,rfl,h.p,⟨by rw[hlm];lia,by rw[hlm];exact jv (by lia) (by lia)⟩,λi i0 i1=>?_⟩;rw[hlm] at i1;obtain⟨j,rfl⟩:∃j:Nat,i=(j:Int):=⟨i.toNat,by lia⟩;have hj:cs[j]?=some (cs[j]'(by lia)):=Θ (by lia);obtain⟨c,ec⟩:∃c,(cs[j]'(by lia))=c:=⟨_,rfl⟩;rw[ec] at hj;have hcm:=av hj;obtain⟨hv,hdv⟩:=hE.v c hcm;have hc12:=vS hn1 hdv;have hc1:=hv.1;refine⟨⟨by decide,by decide,by lia,by lia⟩,(mq (λds τ G'=>(∃zs:List Nat,ds=zs.map nD/\∀k∈zs,2≤k/\k≤n)/\Sub G G'/\∃x7,τ=[some (.int (n:Nat)),some (.obj q1),some (a6 cs),some (.obj pp),some (.obj p4),x5,some (.int (j:Int)),x7,x8]) (λ_ _ _ _=>trivial) ?_ ?_ _ _ _ ⟨⟨(Φ (((n:Int)+1)-2).toNat).map (· + 2),?_,λk hk=>?_⟩,Sub.refl _,_,rfl⟩)⟩
 ·rintro d ds τ G2 N ⟨⟨zs,e,hz⟩,s2,x7,rfl⟩ hN;cases zs with
  |nil=>cases e
  |cons k zs=>
   cases e;obtain⟨k1,k2⟩:=hz k ι;have e4':=s2 _ _ e4;have hmul:c.1*(k:Int)≤12*12:=Int.mul_le_mul (by lia) (by lia) (by lia) (by decide);have hmul0:0<c.1*(k:Int):=nt hc1 (by lia);have next:∀G3,Sub G2 G3->N [some (.int (n:Nat)),some (.obj q1),some (a6 cs),some (.obj pp),some (.obj p4),x5,some (.int (j:Int)),some (nD k),x8] G3:=λG3 s3=>hN _ _ ⟨⟨zs,rfl,λt ht=>hz t (μ _ ht)⟩,s2.trans s3,_,rfl⟩
   refine⟨_,.int c.1,e4',uM (by rw[ax,ax,hj];rfl),⟨jv (by lia) (by lia),jv (by lia) (by lia)⟩,hmul0,_,_,rfl,rfl,ar _,λg=>?_,λ_=>⟨nofun,λ_=>next G2 (Sub.refl _)⟩⟩
   have g':=g;have hd:=ff (eq_of_beq g');have hsl:=hE.split_len hn1 hj k1 hd;refine⟨cs,j,k,c,rfl,hj,ok,by lia,by lia,k1,λus G3 s3 hm hr _=>?_⟩;obtain⟨u1,vs1,a1,a2,a3,a4⟩:=yZ (s3 _ _ (s2 _ _ h.e)) (h.Du (hE.split hj k1 hd hm hr));refine⟨u1,vs1,a1,a2,a3,?_⟩;rw[a4];exact⟨nofun,λ_=>next G3 s3⟩
 ·rintro τ G2 ⟨_,s2,x7,rfl⟩;exact V0 (h.sub s2) (s2 _ _ e4) λG' s'=>q G' (s2.trans s')
 ·rw[aJ];refine bB λt _=>?_;show D.int (2+(t:Int))=D.int ((t+2:Nat):Int);rw[show (2:Int)+(t:Int)=((t+2:Nat):Int) by lia]
 ·obtain⟨t,ht,rfl⟩:=υ.mp hk;have:=az.mp ht;lia
theorem VZ(h:One G n q1 pp rs cs)(e4:G p4=some (.lst ((gw cs).map D.int)))(q:∀G',Sub G G'->Q (.bl true) G'):
  Em (aF Q) [some (.int (n:Nat)),some (.obj q1),some (a6 cs),some (.obj pp),some (.obj p4),x5,x6,x7,x8] G:=by
 have hE:=h.ex;have hn1:=h.h1;have hn2:=h.h2;have hl:=h.l;have ok:=hE.ok hn1 (by lia);refine⟨.int (n:Nat),([2,3,4,5,7,8,9]:List Int).map Dat.D.int,rfl,.inr rfl,by decide,λg=>?_,λ_=>Ek h e4 q⟩;have g':=g;rw[FY] at g';have hn:n=2∨n=3∨n=4∨n=5∨n=7∨n=8∨n=9:=by
  have:=of_decide_eq_true g';simp only[Ψ,cz,or_false] at this;lia
 obtain⟨d,hd⟩:=hE.Ks hn;obtain⟨t1,t2,t3,t4⟩:=Wl ok hE.r (by lia) hd;refine⟨cs,rfl,by lia,λz hz=>⟨(ok z hz).1.1,(ok z hz).2⟩,?_⟩;rw[hd];have good:Bq [a6 cs,d] G λx G1=>u0 x (.bl true) G1 λy G2=>match y with
  |.bl b=>Br b ((bu (eC (.bl false))) { aF Q with nx:=yY (aF Q)} [some (.int (n:Nat)),some (.obj q1),some (a6 cs),some (.obj pp),some (.obj p4),some d,x6,x7,x8] G2) (yY (aF Q) [some (.int (n:Nat)),some (.obj q1),some (a6 cs),some (.obj pp),some (.obj p4),some d,x6,x7,x8] G2)
  |_=>False:=by
  refine⟨cs,d,rfl,t1 G,t2,t3,by lia,λb hb=>?_⟩;rw[hb.mpr t4];exact⟨nofun,λ_=>Ek h e4 q⟩
 refine⟨λgn=>?_,λ_=>⟨nofun,λ_=>good⟩⟩;have e0:d=.aE:=by
  cases d with
  |aE=>rfl
  |_=>cases gn
 rw[e0] at hd;have ec:=V8 hd;refine⟨_,.tup ([(1,0)].map cX),FK cs,rfl,?_,λz=>?_,λ_=>good⟩
 ·show Dat.jh (cs.map cX)+1≤50;have:=xp cs;lia
 ·exfalso;have z':=z;rw[ec] at z';exact absurd z' (by decide)
theorem VY(h:One G n q1 pp rs cs)(e4:G p4=some (.lst ((gw cs).map D.int)))(q:∀G',Sub G G'->Q (.bl true) G'):
  El (aF Q) [some (.int (n:Nat)),some (.obj q1),some (a6 cs),some (.obj pp),some (.obj p4),x5,x6,x7,x8] G:=by
 have hE:=h.ex;have hl:=h.l;refine⟨pp,100,rfl,h.p,⟨by decide,jv (by decide) (by decide)⟩,λr r0 r1=>⟨a6 cs,cs,r,rfl,.inl rfl,λc hc=>(hE.v c hc).1.1,by lia,λG1 s1=>?_⟩⟩;obtain⟨u1,vs1,a1,a2,a3,a4⟩:=yZ (s1 _ _ h.e) (h.Du (hE.moved r));refine⟨u1,vs1,a1,a2,a3,?_⟩;rw[a4];refine⟨nofun,λ_=>⟨cs,rfl,hE.Jt h.h1 h.h2,λm G2 hm s2=>?_⟩⟩;obtain⟨u2,vs2,b1,b2,b3,b4⟩:=yZ (s2 _ _ (s1 _ _ h.e)) (h.Du (hE.least hm));refine⟨u2,vs2,b1,b2,b3,?_⟩;rw[b4];exact⟨nofun,λ_=>VZ (h.sub (s1.trans s2)) (s2 _ _ (s1 _ _ e4)) λG' s'=>q G' ((s1.trans s2).trans s')⟩
theorem VX:∀ds G Q,Eo ds G Q->V1 (aF Q) (aY ["n","every","clocks","pen","steps","paper","place","k","first"] ds) G:=by
 rintro ds G Q ⟨n,q1,pp,rs,cs,rfl,h,q⟩;have hE:=h.ex;have hl:=h.l;have ok:=hE.ok h.h1 (by have:=h.h2;lia);refine⟨by rw[ε];exact cH (by lia),V9 ?_⟩;intro p4 G1 n1;have next:=VY (x5:=none) (x6:=none) (x7:=none) (x8:=none) (h.sub n1.sub) n1.at_ λG' s'=>q G' (n1.sub.trans s')
 refine⟨cs,rfl,ok,by lia,?_⟩;rw[CV ok hE.once];refine⟨nofun,λ_=>⟨_,n1.at_,λg=>?_,λ_=>⟨nofun,λ_=>next⟩⟩⟩
 have g':=of_decide_eq_true g;rw[ε,ε] at g';refine⟨⟨p4,_,rfl,n1.at_⟩,_,_,n1.at_,xl (gw cs),by rw[ε];lia,λm hm hmax=>⟨_,_,n1.at_,xl (gw cs),λg2=>?_,λ_=>next⟩⟩
 have:=hE.twice h.h1 (by have:=h.h2;lia) (by lia) hm hmax;lia
theorem VW{α:Type}{xs:List D}{lo hi:Option Int}{d:D}(h:d∈iy xs lo hi):d∈xs:=cg (cf h)
theorem VV{as:List Int}(h:as.Perm bs):as.sum=bs.sum:=by
 induction h with
 |nil=>rfl
 |cons x _ ih=>rw[bQ,bQ,ih]
 |swap x y l=>simp only[bQ];lia
 |trans _ _ a b=>rw[a,b]
def o6:dh:=λds G Q=>∃ns:List Int,ds=[.gQ (ns.map .int)]/\ns.length≤63/\Q (.bl true) G
def VU:au:=gR (tp (bz (aq Bd (du k8 (ξ (θ 4) (ab))) (eC (.int 10)))) (wg (bz (aN Eo (ξ (θ 2) (ξ (θ 3) (ξ (θ 4) (ξ (θ 1) (ab))))))))) (bu (eC (.bl false))) (dB)
def Ej:au:=bu (aq (dS false) (aN Er (ξ (θ 2) (ab))) (qc (fK ["clocks"] [] (gx (θ 3)) (hName 0) (dD) (aN xg (ξ (θ 0) (ab))))))
def Ei:au:=aS (jd (gx (vn (J4 (θ 3) (aN vL (ξ (θ 1) (ξ (eC (.int 3)) (ab))))) (oE) (nc (eC (.int 40))))) (hName 4) (VU)) Ej
def VT:au:=aS (gR (bz (aq (dS true) (du xt (ξ (fK ["steps","many"] [] (gx (aN FO (ξ (θ 2) (ab)))) (pk 2 (gr (hName 0) (gr (hName 1) (px)))) (dD) (θ 1)) (ab))) (du k8 (ξ (θ 3) (ab))))) (bu (eC (.bl false))) (dB)) Ei
def VS:au:=aS (gR (ya (bz (aq (dS true) (du k8 (ξ (θ 3) (ab))) (aN Fp (ξ (θ 2) (ab))))) (bz (aq (dS true) (θ 3) (wC (θ 3))))) (bu (eC (.bl false))) (dB)) VT
def Eh:au:=aS (bK (aN xc (ξ (θ 2) (ab))) (hName 3)) VS
def VR:au:=aS (gR (bz (aq (dS false) (aN vL (ξ (θ 1) (ξ (eC (.int 4)) (ab)))) (eC (.int 0)))) (bK (eC (.int 12)) (hName 2)) (dB)) Eh
def VQ:au:=aS (bK (aq eu (eC (.int 1)) (aN vL (ξ (θ 1) (ξ (eC (.int 10)) (ab))))) (hName 2)) VR
def VP:au:=aS (bK (aN GN (ξ (aN GR (ξ (θ 0) (ξ (eC (.int 0)) (ab)))) (ab))) (hName 1)) VQ
theorem VO(h1:1≤n)(h2:n≤12)(E:rh n rs)(e:G q1=some (.lst (rs.map a6)))(q:∀G',Sub G G'->(aF Q).rt (.bl true) G'):
  Ej (aF Q) [x0,x1,some (.int (n:Nat)),some (.obj q1),x4] G:=by
 refine⟨n,rfl,h1,h2,λrs7 mss7 G7 E7 s7 nd7 hm7=>?_⟩;have er:=FP E7 E;subst er;refine EW (Q:=λy G2=>dS false (.int (mss7.length:Nat)) y G2 (aF Q).rt) (τ:=[x0,x1,some (.int (n:Nat)),some (.obj q1),x4]) (s7 _ _ e) (zc h1 (by lia) E).1 (λc hc=>((xb h1 (by lia) E c).mp hc).Jt h1 h2) λmss8 G8 s8 nd8 hm8=>?_;have hl:=((dZ nd7 nd8).mpr λm=>by rw[hm7,hm8]).length_eq;refine⟨_,_,rfl,rfl,ar _,?_⟩;show (aF Q).rt (.bl (((mss7.length:Nat):Int)==((mss8.length:Nat):Int))) G8;rw[hl,beq_self_eq_true];exact q G8 (s7.trans s8)
theorem VN(h1:1≤n)(h2:n≤12)(E:rh n rs)(e:G q1=some (.lst (rs.map a6)))(hp:G pp=some .qV)(q:∀G',Sub G G'->(aF Q).rt (.bl true) G'):
  Ei (aF Q) [x0,some (.obj pp),some (.int (n:Nat)),some (.obj q1),x4] G:=by
 refine⟨pp,3,rfl,hp,⟨by decide,jv (by decide) (by decide)⟩,λr r0 r1=>⟨_,e,λp3 es G3 hm hl n3=>⟨_,n3.at_,λp4 G4 n4=>⟨_,n4.at_,(mq (λds τ G'=>(∀d∈ds,∃c∈rs,d=a6 c)/\Sub G4 G'/\∃x4,τ=[x0,some (.obj pp),some (.int (n:Nat)),some (.obj q1),x4]) (λ_ _ _ h=>h.2.1 _ _ n4.at_) ?_ ?_ _ _ _ ⟨λd hd=>?_,Sub.refl _,_,rfl⟩)⟩⟩⟩⟩
 ·rintro d ds τ G5 N ⟨hd,s5,y4,rfl⟩ hN;obtain⟨c,hc,rfl⟩:=hd d ι;have s0:=n3.sub.trans (n4.sub.trans s5);have next:∀G6,Sub G5 G6->N [x0,some (.obj pp),some (.int (n:Nat)),some (.obj q1),some (a6 c)] G6:=λG6 s6=>hN _ _ ⟨λd' hd'=>hd d' (μ _ hd'),s5.trans s6,_,rfl⟩
  refine⟨λg=>?_,λ_=>⟨nofun,λ_=>next G5 (Sub.refl _)⟩⟩
  have g':=of_decide_eq_true g;rw[ε] at g';exact⟨n,q1,pp,rs,c,rfl,⟨h1,h2,E,hc,by lia,s0 _ _ e,s0 _ _ hp⟩,λG6 s6=>⟨nofun,λ_=>next G6 s6⟩⟩
 ·rintro τ G5 ⟨_,s5,y4,rfl⟩;have s0:=n3.sub.trans (n4.sub.trans s5);exact VO h1 h2 E (s0 _ _ e) λG' s'=>q G' (s0.trans s')
 ·obtain⟨c,hc,e'⟩:=υ.mp (hm d (VW (α:=Nat) hd));exact⟨c,hc,e'.symm⟩
theorem Eg(h1:1≤n)(h2:n≤12)(hp:G pp=some .qV)(q:∀G',Sub G G'->(aF Q).rt (.bl true) G'):
  Eh (aF Q) [x0,some (.obj pp),some (.int (n:Nat)),x3,x4] G:=by
 refine⟨n,rfl,h1,by lia,λq1 rs G1 hpm hr n1=>?_⟩;have E:rh n rs:=⟨hpm,hr⟩;obtain⟨hl,hcl⟩:=zc h1 (by lia) E;have hlr:rs.length=(raw n).length:=by rw[hpm.length_eq,ε]
 refine⟨_,n1.at_,n,rfl,h1,by lia,λG2 s2=>⟨_,_,rfl,rfl,ar _,λg=>?_,λ_=>?_⟩⟩
 ·exfalso;have g':(!((((rs.map a6).length:Nat):Int)==(((raw n).length:Nat):Int)))=true:=g;rw[ε,hlr,beq_self_eq_true] at g';cases g'
 have e2:=s2 _ _ n1.at_;refine⟨rs.map gT,by rw[←vU];exact e2,by rw[ε];lia,λns hns=>?_,λp5 mss G5 n5 hm nd hr5=>?_⟩
 ·obtain⟨c,hc,rfl⟩:=υ.mp hns;have:=((xb h1 (by lia) E c).mp hc).ne;exactλz=>this (sA.mp z)
 have hnd:(rs.map gT).Nodup:=aO.mpr ((Wj E).imp λ{a b} h z=>h (Cf z));have em:=BD ((dZ nd hnd).mpr hm) hr5 hr;rw[em,←vU] at n5;have e5:=n5.sub _ _ e2;refine⟨_,_,qQ e5 (y8 rs),qQ n5.at_ (y8 rs),?_,λg=>?_,λ_=>?_⟩
 ·show Dat.jh _+1≤50;have:=Bh rs;lia
 ·exfalso;have g':=g;have:(Dat.D.lst (rs.map nC)).dF (.lst (rs.map nC))=true:=Ep rs;rw[this] at g';cases g'
 refine⟨n,rfl,h1,by lia,λq6 rs6 ms6 G6 E6 hp6 hr6 n6=>?_⟩;have er:=FP E6 E;subst er;obtain⟨ts1,ts2⟩:=Wg (rs6.map gw);have hml:ms6.length≤1000:=by
  rw[hp6.length_eq];have:∀(l:List (List Int)) (kns:List (List Int×Int)),(l.foldl kr kns).length≤kns.length+l.length:=by
   intro l
   induction l with
   |nil=>intro kns;exact ρ _
   |cons k l ih=>
    intro kns;have h3:=ih (kr kns k);have h4:=FQ kns k;rw[mL,ai];lia
  have h5:=this (rs6.map gw) [];rw[ε] at h5;unfold uX;simp at h5;lia
 refine⟨_,n6.at_,by rw[ε];exact cH hml,(ny (λτ=>∃x y,τ=[x,y]) AU (λ_=>true) (λp=>D.int p.2) (G:=G6) n6.at_ ms6 [] _ ⟨none,none,rfl⟩ ?_ ?_)⟩
 ·rintro p hpm τ K1 K2 ⟨x,y,rfl⟩ g1 g2;exact⟨rfl,λ_=>g1 rfl _ ⟨_,_,rfl⟩,nofun⟩
 intro p7 G7 n7;rw[br,By] at n7;have e7:ms6.map (λp=>D.int p.2)=(ms6.map (·.2)).map D.int:=by
  rw[aJ];rfl
 rw[e7] at n7;have s7:=n5.sub.trans (n6.sub.trans n7.sub);refine⟨_,_,n7.at_,xl _,?_⟩;rw[VV (hp6.map (·.2)),ts1];refine⟨_,s7 _ _ e2,_,_,rfl,rfl,ar _,λg=>?_,λ_=>?_⟩
 ·exfalso;have g':(!((((rs6.map gw).length:Nat):Int)==(((rs6.map a6).length:Nat):Int)))=true:=g;rw[ε,ε,beq_self_eq_true] at g';cases g'
 have s0:=(n1.sub.trans s2).trans s7;exact VN h1 h2 E (s7 _ _ e2) (s0 _ _ hp) λG' s'=>q G' (s0.trans s')
theorem VM:∀ds G Q,o6 ds G Q->VP (aF Q) (aY ["script","pen","n","every","clocks"] ds) G:=by
 rintro ds G Q ⟨ns,rfl,hl,q⟩;refine⟨ns,0,rfl,λi=>⟨i,rfl,λpp G1 n1=>⟨pp,10,rfl,n1.at_,⟨by decide,jv (by decide) (by decide)⟩,λr r0 r1=>?_⟩⟩⟩;have q':∀G',Sub G1 G'->(aF Q).rt (.bl true) G':=λG' s'=>sO (n1.sub.trans s') q;refine⟨pp,4,rfl,n1.at_,⟨by decide,jv (by decide) (by decide)⟩,λt t0 t1=>⟨_,_,rfl,rfl,ar _,λ_=>?_,λ_=>?_⟩⟩
 ·exact Eg (n:=12) (by decide) (by decide) n1.at_ q'
 ·rw[show (1:Int)+r=(((1+r).toNat:Nat):Int) by lia];exact Eg (by lia) (by lia) n1.at_ q'
end My
namespace My
open PySem PySem.Spec PyProof.Rows L2 L3
def top(i:Nat):iz:=PySem.Challenge.pw_coverclocks_k65_whole_exact_ones.main.body.getD i (.Pass ⟨0,0,0,0⟩)
def dW(K:PySem.W.Frag)(x:aG)(i:Nat):Prop:=∃f d,A9 K x x (top i) f d/\PySem.W.nsIn K cO x=some (some (.ref f))
theorem JP{K:PySem.W.Frag}{x:aG}{i:Nat}{f:ν}{od an:Option ν}{sl:Array (Option ζ)}{oc kV dc pm cd ct:ζ}(a:PySem.W.nsIn K cO x=some (some (.ref f)))(l:K.lookup f=some ⟨oc,od,.func (PySem.W.fnOf x x (qY (top i)) (lZ (top i)) (dw (top i)) .none kV dc pm an cd ct),sl⟩)(c:PySem.W.codeIn K cd x=true)(k:PySem.W.keepIn K (.ref f)=true):dW K x i:=⟨f,_,UH l c k,a⟩
def BA(x:aG)(i:Nat)(ps:List aG):Prop:=∀(kV doc pm:ζ) (an:Option ν) (cdv ct:ζ) (us:List ζ),us.length=ps.length->bindArgs (PySem.W.fnOf x x (qY (top i)) (lZ (top i)) (dw (top i)) .none kV doc pm an cdv ct) ⟨us,[]⟩=pure (ps.zip us)
inductive Ba(K:PySem.W.Frag):List aG->Prop
 |nil:Ba K []
 |cons {x xs}:PySem.W.nsIn K cO x=some none->Ba K xs->Ba K (x::xs)
abbrev bs:List aG:=["bool","enumerate","int","isinstance","len","list","max","min","range","set","sorted","sum","tuple","zip"]
structure Cn(P:ao)(w:aC)(K:PySem.W.Frag)(mg:aG->Option ζ):Prop where
 e:∃h:Heap,K.In h/\h.Ns cO mg
 z:∀x∈bs,mg x=none
theorem cn{P:ao}{w:aC}{K:PySem.W.Frag}{mg:aG->Option ζ}{h:Heap}(X:K.In h)(G:h.Ns cO mg)(a:Ba K bs):Cn P w K mg:=⟨⟨h,X,G⟩,by
 generalize bs=l at a
 induction a with
 |nil=>exactλ_ h=>nomatch h
 |cons a _ i=>exactλx h=>(Ψ.1 h).elim (λe=>e▸PySem.W.mg_none_of X G a) (i x)⟩
structure OK(P:ao)(w:aC)(K:PySem.W.Frag)(mg:aG->Option ζ)(x:aG)(k:Nat)(ps:List aG)(sp:dh):Prop where
 ex:∃f fd,mg x=some (.ref f)/\PySem.W.keepIn K (.ref f)=true/\(∀us:List ζ,us.length=ps.length->bindArgs fd ⟨us,[]⟩=pure (ps.zip us))/\∀base,wO P w K mg base k f fd ps sp
def CN:List aG->Bool
 |[]=>true
 |x::l=>!l.contains x&&CN l
theorem Jv:∀{l:List aG},CN l=true->l.Nodup
 |[],_=>.nil
 |x::l,h=>by
  simp only[CN,aM,gb,List.contains_eq_mem,decide_eq_false_iff_not] at h;exact cc.2 ⟨h.1,Jv h.2⟩
theorem cmp{N:List aG}{sc scope:kP}{own:List aG}{js:List Nat}(a:scope.kind=.function)(b:(scope.names.all λy=>decide (y.2≠.cell)&&(decide (y.2=.local->scope.names.lookup y.1=some .local)&&(decide (y.2=.free->sc.names.lookup y.1=some .cell/\own.contains y.1=false)&&decide (y.2=.free->scope.names.lookup y.1=some .free))))=true)(c:(js.all λj=>decide (j<N.length/\(N.getD j iH,cS)∈scope.names))=true):j4 N sc scope own js:=by
 simp only[cZ,aM,decide_eq_true_eq] at b c;exact⟨a,λy h=>(b y h).1,λy h=>(b y h).2.1,λy h=>(b y h).2.2.1,λy h=>(b y h).2.2.2,c⟩
structure OA(X:Cx)(o:Operator)(r:R3):Prop where
 ex:∃r2,eG X.K r r2/\eV X (binaryOp o) r2
structure OC(X:Cx)(o:CmpOp)(r:R3):Prop where
 ex:∃r2,eG X.K r r2/\eV X (compareOp o) r2
section
variable {X:Cx} {a b e:aT} {ta tb:cu} {r:R3} {o:CmpOp} {pos:d9}
theorem ZT{o:Operator}(h:OA X o r)(ha:QE X a ta)(hb:QE X b tb):QE X (.BinOp a o b pos) (aq r ta tb):=by
 obtain⟨_,l,o⟩:=h.ex;exact⟨ZD l o ha.of hb.of⟩
theorem ZU(h:OC X o r)(ha:QE X a ta)(hb:QE X b tb)(hm:behindInMarks o b=false):QE X (.Compare a [o] [b] pos) (aq r ta tb):=by
 obtain⟨_,l,o⟩:=h.ex;exact⟨TK l o ha.of hb.of hm⟩
theorem ZS(h:OC X o r)(ha:QE X a ta)(hb:QE X b tb)(hm:behindInMarks o b=false):QT X (.Compare a [o] [b] pos) (bz (aq r ta tb)):=by
 obtain⟨_,l,o⟩:=h.ex;exact⟨TJ l o ha.of hb.of hm⟩
end
section
variable {X:Cx} {e:aT} {es:List aT} {t:jK} {x:aG} {p pos:d9}
theorem Kq{P:ao}{w:aC}{K:PySem.W.Frag}{mg:aG->Option ζ}{j k:Nat}{ps:List aG}{sp:dh}(h:OK P w K mg x j ps sp)(hr:cW k X.A)(hj:j≤k)(ha:QA X (e::es) t)(e1:X.prog=P:=by rfl)(e2:X.w=w:=by rfl)(e3:X.K=K:=by rfl)(e4:X.mg=mg:=by rfl)(hg:Gl X x:=by rfl)(hd:(x==("__debug__":aG))=false:=by decide)(he:notStar e=true:=by rfl)(hp:es.all notStar=true:=by rfl):QE X (.Call (.Name x p) (e::es) [] pos) (aN sp t):=by
 subst e1 e2 e3 e4;obtain⟨f,fd,m,kp,b,F⟩:=h.ex;exact⟨SO ((F _).mono hj) hr m kp (.all b) ha.of hg hd he hp⟩
end
section
variable {P:ao} {w:aC} {K:PySem.W.Frag} {mg:aG->Option ζ} {x:aG} {i:Nat} {N ps:List aG}
theorem OK.imp{k:Nat}{sp sp':dh}(F:OK P w K mg x k ps sp)(h:∀vs H Q E,mv K sp' vs H Q E->mv K sp vs H Q E):OK P w K mg x k ps sp':=by
 obtain⟨f,fd,m,kp,b,F⟩:=F.ex;exact⟨f,fd,m,kp,b,λB=>(F B).imp h⟩
theorem fr{sp:Nat->dh}(k:Nat)(H:dW K x i)(ps:List aG)(hb:BA x i ps)(z:∀ds G Q,¬sp 0 ds G Q)(s:∀n,OK P w K mg x (k+n) ps (sp n)->OK P w K mg x (k+n+1) ps (sp (n+1)))(C:Cn P w K mg:=by assumption):OK P w K mg x (k+40) ps (sp 40):=by
 have:∀n,OK P w K mg x (k+n) ps (sp n):=λn=>by
  induction n with
  |zero=>
   obtain⟨q,fd,F,l⟩:=H;obtain⟨h,X,G⟩:=C.e;refine⟨q,fd,PySem.W.mg_of X G l,F.kp,?_,λbase=>P1 z⟩;obtain⟨oc,od,kV,doc,pm,an,cdv,ct,osl,rfl,lk,qb⟩:=F.ex;exact hb kV doc pm an cdv ct
  |succ n ih=>exact s n ih
 exact this 40
theorem fn{sp:dh}{tb:au}(k:Nat)(H:dW K x i)(m:Nat)(rd:∀ds G Q,sp ds G Q->tb (aF Q) (aY N ds) G)(len:∀ds G Q,sp ds G Q->ds.length=m)(hb:BA x i (N.take m))
  (body:∀(cdv:ζ) (A:aQ) (outer:List Env) (s:η) (H:Hp) (E:XK) (base:Heap) (f:ν),jP N (N.take m) (dw (top i))->cW k (A.deeper (envOfC x (dw (top i)) s.heap.objs.size f cdv)) ->
   tF (tu wG P w K mg base N x (dw (top i)) f cdv A outer s H E).yE (lZ (top i)) tb)
  (C:Cn P w K mg:=by assumption) (a:(dw (top i)).kind=.function:=by exact rfl) (b:(dw (top i)).isCoroutine=false:=by exact rfl) (c:(dw (top i)).isGenerator=false:=by exact rfl) (d:N.Nodup:=by decide +kernel) (f:∀x∈N.take m,(dw (top i)).names.lookup x=some .local∨(dw (top i)).names.lookup x=some .cell:=by decide +kernel) (g:∀y∈(dw (top i)).names,y.2≠.free:=by decide +kernel) (hm:m≤N.length:=by decide):OK P w K mg x (k+1) (N.take m) sp:=by
 obtain⟨q,fd,F,l⟩:=H;obtain⟨h,X,G⟩:=C.e;have hl:(N.take m).length=m:=by rw[aZ,iJ hm]
 have S:jP N (N.take m) (dw (top i)):=⟨a,b,c,d,by rw[hl],f,g⟩;refine⟨q,fd,PySem.W.mg_of X G l,F.kp,?_,λbase=>Z3 F S (by rw[hl];exact hm) (λds G Q h=>(len ds G Q h).trans hl.symm) tb (λcdv A outer s H E hr=>(body cdv A outer s H E base q S hr).of) rd⟩;obtain⟨oc,od,kV,doc,pm,an,cdv,ct,osl,rfl,lk,qb⟩:=F.ex;exact hb kV doc pm an cdv ct
end
theorem el{a b:Prop}(h:a)(f:a->b):b:=f h
theorem VL(K:PySem.W.Frag)(H:Hp)(a:ν)(ns:List Int)(hl:ns.length≤63)(ho:Av H)(hS:fw K H a (ns.map V.int)):mv K o6 [.ref a] H (λv _=>v=.bl true) λ_ _ _=>False:=by
 refine⟨[.gQ (ns.map .int)],λ_=>none,λd _=>d=.bl true,.cons ?_ .nil,(λ_ _ e=>nomatch e),⟨ns,rfl,hl,rfl⟩,λv H' d G' hv _ _ q=>?_⟩
 ·unfold Hv;refine⟨a,ns.map V.int,rfl,?_,aU.ints ns⟩;rcases hS with (h|h)|h
  ·rcases ho a with z|⟨o,xs,z⟩
   ·rw[z] at h;cases h
   ·rw[z] at h;cases h
  ·exact .inl h
  ·exact .inr h
 ·subst q;exact vP hv
def Fin(P:ao)(w:aC)(K:PySem.W.Frag)(mg:aG->Option ζ)(fa:ν):Prop:=∃fd:ik,(∀(s:η) (u:ζ),BindsTo s fd ⟨[u],[]⟩ [("script",u)])/\∀base:Heap,K.In base->base.Ns cO mg->mC P w K mg base wG 48 fa fd ["script"] (mv K o6)
theorem last{P:ao}{w:aC}{K:PySem.W.Frag}{mg:aG->Option ζ}{x:aG}{fa:ν}(h:OK P w K mg "law" 48 ["script"] o6)(e:mg x=some (.ref fa))(hx:x="law":=by rfl):Fin P w K mg fa:=by
 subst hx;obtain⟨f,fd,m,_,b,F⟩:=h.ex;cases e.symm.trans m;exact⟨fd,λs u=>.of_eq (b [u] rfl),λB _ _=>F B⟩
theorem walk{l:PySem.W.OpenLaw}{q:ao}{loose:List aG}{XP:(aG->Option ζ)->Heap->Prop}{YP:aC->Heap->Prop}{d:DefRec}{K:Params->PySem.W.Frag}(hn:l.most=some 63)(hdf:d.params.defaults=[])
  (hY:∀(w:aC) (h:Heap),YP w h->(K w.params).In h)
  (F:∀(w:aC) (mg:aG->Option ζ) (fa:ν) (h:Heap),(K w.params).In h->h.Ns cO mg->mg d.name=some (.ref fa)->Fin l.prog w (K w.params) mg fa):
  PySem.W.WalkO q loose XP YP l.row.toRowW d [] (λf vs=>PySem.call f vs):=
 L2.yv (n:=63) (k:=48) (x:="script") (CX:=λ_=>wG) (sp:=λw=>mv (K w.params) o6) hn (by decide) hdf ⟨rfl,by decide,by decide⟩ hY F (λw H a ns hl ho hS=>VL (K w.params) H a ns hl ho hS) λ_ _ _ _ _ z=>z
theorem core{P:ao}{w:aC}{K:PySem.W.Frag}{mg:aG->Option ζ}{h:Heap}(X:K.In h)(G:h.Ns cO mg)(Z:Ba K bs)
  (h0:dW K "whole_good" 6)
  (h1:dW K "place_good" 7)
  (h2:dW K "refuse_no_place" 8)
  (h3:dW K "split_form_good" 9)
  (h4:dW K "rising_once" 10)
  (h5:dW K "refuse_above" 11)
  (h6:dW K "common_divisor" 12)
  (h7:dW K "common_multiple" 13)
  (h8:dW K "inverse_of" 14)
  (h9:dW K "lowest_terms" 15)
  (LC:dW K "counts_within" 16)
  (LB:dW K "first_counted" 17)
  (LA:dW K "rings" 21)
  (Lz:dW K "rings_at" 22)
  (Ly:dW K "round_of" 23)
  (Lx:dW K "meet_of" 24)
  (Lw:dW K "inside_of" 25)
  (Lv:dW K "parts_of" 26)
  (Lu:dW K "first_missed" 28)
  (Ls:dW K "first_within" 29)
  (Lr:dW K "shares_of" 31)
  (Lq:dW K "clash_of" 32)
  (Lp:dW K "exact_good" 33)
  (Lo:dW K "exact_of" 35)
  (JU:dW K "exact_from" 36)
  (Ln:dW K "grown_at" 37)
  (Lm:dW K "clear_of" 38)
  (Ll:dW K "exact_many" 39)
  (Lj:dW K "exact_steps" 40)
  (Li:dW K "exact_with" 41)
  (Lh:dW K "first_filling" 42)
  (JT:dW K "can_fill" 43)
  (Lg:dW K "missed_by" 44)
  (Lf:dW K "moved_to" 45)
  (Dv:dW K "first_moved" 46)
  (Ld:dW K "moved_kinds" 47)
  (Lc:dW K "split_at" 49)
  (Lb:dW K "split_good" 50)
  (JS:dW K "made_of" 51)
  (La:dW K "split_paper" 52)
  (JR:dW K "papers_making" 53)
  (K9:dW K "prime_for" 54)
  (K8:dW K "_law_cell_at" 56)
  (K7:dW K "_law_next" 57)
  (K6:dW K "_law_pen_of" 58)
  (K5:dW K "_law_draw" 59)
  (K4:dW K "_law_one_right" 60)
  (Z0:dW K "law" 61)
  (g0:∃t,PySem.W.nsIn K cO "MOST_CLOCKS" = some (some (.int 12 t)))
  (g1:∃t,PySem.W.nsIn K cO "MOST_NUMBERS" = some (some (.int 10000 t)))
  (g2:∃t,PySem.W.nsIn K cO "MOST_STEP" = some (some (.int 1000 t)))
  : OK P w K mg "law" 48 ["script"] o6:=by
 have:=cn (P:=P) (w:=w) X G Z;have:=PySem.W.mg_of X G g0.choose_spec;have:=PySem.W.mg_of X G g1.choose_spec;have:=PySem.W.mg_of X G g2.choose_spec
 repeat ((first|(refine el (fn 0 h0 1 Pa ?_ ?_ ?_) λ_=>?_;rotate_right;clear h0)|(refine el (fn 1 h1 2 Na ?_ ?_ ?_) λ_=>?_;rotate_right;clear h1)|(refine el (fn 2 h2 2 M5 ?_ ?_ ?_) λ_=>?_;rotate_right;clear h2)|(refine el (fn 1 h3 2 NJ ?_ ?_ ?_) λ_=>?_;rotate_right;clear h3)|(refine el (fn 0 h4 1 M8 ?_ ?_ ?_) λ_=>?_;rotate_right;clear h4)|(refine el (fn 0 h5 2 NA ?_ ?_ ?_) λ_=>?_;rotate_right;clear h5)|(refine el (fn 0 h6 2 Pm ?_ ?_ ?_) λ_=>?_;rotate_right;clear h6)|(refine el (fn 1 h7 1 Pg ?_ ?_ ?_) λ_=>?_;rotate_right;clear h7)|(refine el (fn 0 h8 2 N9 ?_ ?_ ?_) λ_=>?_;rotate_right;clear h8)|(refine el (fn 1 h9 2 Ow ?_ ?_ ?_) λ_=>?_;rotate_right;clear h9)|(refine el (fn 1 LC 2 N3 ?_ ?_ ?_) λ_=>?_;rotate_right;clear LC)|(refine el (fn 0 LB 3 NY ?_ ?_ ?_) λ_=>?_;rotate_right;clear LB)|(refine el (fn 0 LA 2 OX ?_ ?_ ?_) λ_=>?_;rotate_right;clear LA)|(refine el (fn 1 Lz 2 OV ?_ ?_ ?_) λ_=>?_;rotate_right;clear Lz)|(refine el (fn 2 Ly 1 Pd ?_ ?_ ?_) λ_=>?_;rotate_right;clear Ly)|(refine el (fn 1 Lx 2 OF ?_ ?_ ?_) λ_=>?_;rotate_right;clear Lx)|(refine el (fn 1 Lw 2 NC ?_ ?_ ?_) λ_=>?_;rotate_right;clear Lw)|(refine el (fn 0 Lv 2 NM ?_ ?_ ?_) λ_=>?_;rotate_right;clear Lv)|(refine el (fn 3 Ls 2 L8 ?_ ?_ ?_) λ_=>?_;rotate_right;clear Ls)|(refine el (fn 4 Lu 1 MK ?_ ?_ ?_) λ_=>?_;rotate_right;clear Lu)|(refine el (fn 3 Lr 1 Ot ?_ ?_ ?_) λ_=>?_;rotate_right;clear Lr)|(refine el (fn 2 Lq 1 NR ?_ ?_ ?_) λ_=>?_;rotate_right;clear Lq)|(refine el (fn 4 Lp 1 Nc ?_ ?_ ?_) λ_=>?_;rotate_right;clear Lp)|(refine el (fn 1 Lm 2 MD ?_ ?_ ?_) λ_=>?_;rotate_right;clear Lm)|(refine el (fn 2 Ln 3 MA ?_ ?_ ?_) λ_=>?_;rotate_right;clear Ln)|(refine el (fr 5 JU ["steps","clocks"] ?_ Mz λn _=>fn (5+n) JU 2 (YX n) ?_ ?_ ?_) λ_=>?_;rotate_right;clear JU)|(refine el (fn 45 Lo 1 X7 ?_ ?_ ?_) λ_=>?_;rotate_right;clear Lo)|(refine el (fn 46 Ll 1 X5 ?_ ?_ ?_) λ_=>?_;rotate_right;clear Ll)|(refine el (fn 46 Lj 1 Xw ?_ ?_ ?_) λ_=>?_;rotate_right;clear Lj)|(refine el (fn 2 Lg 1 YH ?_ ?_ ?_) λ_=>?_;rotate_right;clear Lg)|(refine el (fr 3 JT ["clocks","steps"] ?_ YG λn _=>fn (3+n) JT 2 (Y9 n) ?_ ?_ ?_) λ_=>?_;rotate_right;clear JT)|(refine el (fn 43 Lh 3 Ys ?_ ?_ ?_) λ_=>?_;rotate_right;clear Lh)|(refine el (fn 44 Li 1 Yi ?_ ?_ ?_) λ_=>?_;rotate_right;clear Li)|(refine el (fn 0 Lf 2 Me ?_ ?_ ?_) λ_=>?_;rotate_right;clear Lf)|(refine el (fn 3 Dv 1 Ma ?_ ?_ ?_) λ_=>?_;rotate_right;clear Dv)|(refine el (fn 46 Ld 1 Wa ?_ ?_ ?_) λ_=>?_;rotate_right;clear Ld)|(refine el (fn 3 Lc 3 MW ?_ ?_ ?_) λ_=>?_;rotate_right;clear Lc)|(refine el (fr 2 JS ["clocks","thing","clock"] ?_ XT λn _=>fn (2+n) JS 3 (W8 n) ?_ ?_ ?_) λ_=>?_;rotate_right;clear JS)|(refine el (fn 42 Lb 2 W2 ?_ ?_ ?_) λ_=>?_;rotate_right;clear Lb)|(refine el (fn 1 K9 2 WV ?_ ?_ ?_) λ_=>?_;rotate_right;clear K9)|(refine el (fr 2 JR ["clocks","clock"] ?_ WU λn _=>fn (2+n) JR 2 (Xk n) ?_ ?_ ?_) λ_=>?_;rotate_right;clear JR)|(refine el (fn 42 La 1 Xh ?_ ?_ ?_) λ_=>?_;rotate_right;clear La)|(refine el (fn 0 K8 2 O8 ?_ ?_ ?_) λ_=>?_;rotate_right;clear K8)|(refine el (fn 0 K7 1 O6 ?_ ?_ ?_) λ_=>?_;rotate_right;clear K7)|(refine el ((fn 0 K6 1 O0 ?_ ?_ ?_).imp OZ) λ_=>?_;rotate_right;clear K6)|(refine el ((fn 1 K5 2 O4 ?_ ?_ ?_).imp O3) λ_=>?_;rotate_right;clear K5)|(refine el (fn 45 K4 4 VX ?_ ?_ ?_) λ_=>?_;rotate_right;clear K4)|refine fn 47 Z0 1 VM ?_ ?_ ?_);any_goals first|(intros;show tF _ _ _;repeat' first|(show QE _ _ _;first|(show QE _ (.Name _ _) _;first|exact Py (pv _)|exact⟨TL (by assumption)⟩)|(show QE _ (.Constant _ _ _) _;first|exact Px|exact Pw|exact⟨ZF⟩)|(show QE _ (.Subscript _ _ _) _;first|refine WD ?_ ?_|(show QE _ (.Subscript _ (.Slice _ _ _ _) _) _;refine⟨ZC (QE.of ?_) (QO.of ?_) (QO.of ?_)⟩)|refine P4 ?_ ?_)|(show QE _ (.BinOp _ _ _ _) _;refine ZT ?_ ?_ ?_)|(show QE _ (.Call _ _ _ _) _;first|refine Kq (by with_reducible assumption) (by assumption) (by first|decide|omega) ?_|(show QE _ (.Call (.Name "len" _) _ _ _) (du k8 _);refine⟨SY (cW.units ‹_›) ?_ (QA.of ?_)⟩)|(show QE _ (.Call (.Name "tuple" _) _ _ _) (du qR _);refine⟨R7 (cW.units ‹_›) ?_ (QA.of ?_)⟩)|(show QE _ (.Call (.Name "list" _) _ _ _) (du xG _);refine⟨RZ (cW.units ‹_›) ?_ (QA.of ?_)⟩)|(show QE _ (.Call (.Name "sum" _) _ _ _) (du xt _);refine⟨Qk (cW.units ‹_›) ?_ (QA.of ?_)⟩)|(show QE _ (.Call (.Name "sorted" _) _ _ _) (du xu _);refine⟨Qn (cW.units ‹_›) ?_ (QA.of ?_)⟩)|refine Yf (cW.units ‹_›) ?_ ?_|refine Mk (cW.units ‹_›) ?_ ?_|(show QE _ (.Call (.Name "max" _) _ _ _) (du Cq _);refine⟨R9 (cW.units ‹_›) ?_ (QA.of ?_)⟩)|(show QE _ (.Call (.Name "max" _) _ _ _) (du zr _);refine⟨Qh (cW.units ‹_›) ?_ (QA.of ?_)⟩)|(show QE _ (.Call (.Name "int" _) _ _ _) (du zJ _);refine⟨SW (cW.units ‹_›) ?_ (QA.of ?_)⟩)|refine WL (cW.units ‹_›) ?_ ?_ ?_|refine Mg (cW.units ‹_›) ?_ ?_|(show QE _ _ (tm _);refine⟨PV (cW.units ‹_›) (QE.of ?_) ?_ ?_⟩)|refine WM (cW.units ‹_›) ?_ ?_ ?_|refine XM (cW.units ‹_›) ?_ ?_|(show QE _ (.Call (.Name "isinstance" _) _ _ _) _;refine⟨Qs (by first|exact Qv|exact Qu|exact kit_tuple) rfl (QE.of ?_) ?_ ?_ rfl (by decide) (by decide)⟩)|refine B0 RV PySem.F.slot_list_extend PySem.F.type_list_extend Ua ?_ ?_|refine B0 RX PySem.F.slot_list_append PySem.F.type_list_append IK ?_ ?_|refine B0 Xu PySem.F.slot_list_count PySem.F.type_list_count Xv ?_ ?_|refine XH (cW.units ‹_›) ?_ ?_ ?_)|(show QE _ (.Tuple _ _ _) _;refine Pq ?_)|(show QE _ (.List _ _) _;refine⟨Tp (QA.of ?_)⟩)|(show QE _ (.Compare _ [_] _ _) _;refine ZU ?_ ?_ ?_ (by first|exact AM _|with_unfolding_all rfl))|(show QE _ (.BoolOp _ _ _) _;first|(show QE _ (.BoolOp _ [_] _) _;refine⟨Tw (QE.of ?_)⟩)|refine⟨Tv (QE.of ?_) (QE.of ?_)⟩)|(show QE _ (.UnaryOp _ _ _) _;refine⟨Tu (QE.of ?_)⟩)|(show QE _ (.ListComp _ _ _ _) _;refine⟨SF rfl (cmp rfl rfl rfl) (QI.of ?_) λ_ _ _=>⟨QG.of ?_,QC.of ?_,QE.of ?_⟩⟩)|(show QE _ (.IfExp _ _ _ _) _;refine⟨Tt (QT.of ?_) (QE.of ?_) (QE.of ?_)⟩)|(show QE _ (.Dict _ _ _) _;exact XJ)|refine P2 JI IV Jl (IW (cW.AF ‹_›)) ?_ ?_ ?_)|(show tF _ _ _;first|exact Pp|refine Qb ?_|refine Po ?_ ?_)|(show QA _ _ _;first|exact Pt|refine Pr ?_ ?_)|(show OA _ _ _;first|(show OA _ .Add _;exact⟨_,Sq,Sr⟩)|(show OA _ .Mod _;exact⟨_,Sw,UR⟩)|(show OA _ .Mult _;exact⟨_,Sn,So⟩)|(show OA _ .FloorDiv _;exact⟨_,Sx,Sy⟩)|(show OA _ .Sub _;exact⟨_,SA,US⟩)|exact⟨_,Sv,UQ⟩)|(show QS _ _ _;first|(show QS _ (.Assign _ _ _) _;first|refine P7 (by first|exact jP.nd ‹_›|exact Jv rfl) ?_|(show QS _ (.Assign _ (.ListComp _ _ _ _) _) _;refine⟨SE rfl (jP.nd ‹_›) (cmp rfl rfl rfl) (QI.of ?_) λ_ _ _=>⟨QG.of ?_,QC.of ?_,QE.of ?_⟩⟩)|(show QS _ _ (bK _ (hSub _ _));refine⟨TQ (QE.of ?_) (QG.of ?_)⟩)|refine XI (cW.units ‹_›) ?_ ?_ ?_)|(show QS _ (.Return _ _) _;refine Qa ?_)|(show QS _ (.If _ _ _ _) _;refine P9 ?_ ?_ ?_)|(show QS _ (.For _ _ _ _ _) _;refine P5 .never rfl ?_ ?_ ?_)|(show QS _ (.While _ _ _ _) _;refine⟨SR .never (QT.of ?_) (tF.of ?_)⟩)|(show QS _ (.Expr _ _) _;refine⟨T5 (QE.of ?_)⟩)|(show QS _ (.AugAssign (.Name _ _) _ _ _) _;refine⟨TM PB (jP.nd ‹_›) (QE.of ?_) Jn⟩)|(show QS _ (.AugAssign _ _ _ _) _;refine⟨Pz (QE.of ?_) (QE.of ?_) (QE.of ?_)⟩)|exact⟨TZ⟩)|(show QT _ _ _;first|(show QT _ (.UnaryOp _ _ _) _;refine⟨Tx (QT.of ?_)⟩)|(show QT _ (.BoolOp _ _ _) _;first|(show QT _ (.BoolOp .And _ _) _;refine⟨DT (IB (QT.of ?_) (QW.of ?_))⟩)|refine⟨DT (IA (QT.of ?_) (QW.of ?_))⟩)|(show QT _ (.Compare _ [_] _ _) _;refine ZS ?_ ?_ ?_ (by first|exact AM _|with_unfolding_all rfl))|refine Pu ?_)|(show OC _ _ _;first|(show OC _ .Eq _;exact⟨_,Zs,Ta (cW.units ‹_›)⟩)|(show OC _ .NotEq _;exact⟨_,Zm,S9 (cW.units ‹_›)⟩)|(show OC _ .In _;exact⟨_,Zp,P0 (cW.units ‹_›)⟩)|(show OC _ .NotIn _;exact⟨_,PY,PZ (cW.units ‹_›)⟩)|(show OC _ .Lt _;exact⟨_,IV,IW (cW.AF ‹_›)⟩)|(show OC _ .Is _;exact⟨_,Zo,UN⟩)|(show OC _ .IsNot _;first|exact⟨_,Sm,UM⟩|exact⟨_,QF,QH⟩)|(show OC _ .LtE _;first|exact⟨_,JI,Jl⟩|exact⟨_,WH,WI (cW.units ‹_›)⟩)|(show OC _ .Gt _;exact⟨_,Zq,UP⟩)|exact⟨_,Zr,UO⟩)|(show QG _ _ _;first|(show QG _ (.Name _ _) _;refine P8 (by first|exact jP.nd ‹_›|exact Jv rfl))|(show QG _ (.Tuple _ _ _) _;refine⟨TU rfl (DB.of ?_)⟩)|refine⟨SU (QE.of ?_) (QE.of ?_)⟩)|(show QW _ _ _;first|(show QW _ (.BoolOp .And [_] _) _;refine⟨TB (QT.of ?_)⟩)|(show QW _ (.BoolOp .Or [_] _) _;refine⟨Tz (QT.of ?_)⟩)|(show QW _ (.BoolOp .And _ _) _;refine⟨IB (QT.of ?_) (QW.of ?_)⟩)|refine⟨IA (QT.of ?_) (QW.of ?_)⟩)|(show QI _ _ _ _;first|(show QI _ _ (.Call _ _ _ _) _;first|(show QI _ _ (.Call (.Name "range" _) [_] _ _) _;refine⟨SK ?_ (QA.of ?_)⟩)|(show QI _ _ (.Call (.Name "range" _) [_,_] _ _) _;refine⟨SJ ?_ (QA.of ?_)⟩)|(show QI _ _ (.Call (.Name "range" _) [_,_,_] _ _) _;refine⟨PC ?_ (QA.of ?_)⟩)|(show QI _ _ (.Call (.Name "zip" _) _ _ _) _;refine⟨QR ?_ (QA.of ?_)⟩)|(show QI _ _ (.Call (.Name "enumerate" _) _ _ _) _;refine⟨QJ ?_ (QA.of ?_)⟩))|refine P6 ?_)|(show DB _ _ _;first|(show DB _ [] _;exact⟨TX⟩)|refine⟨TV (QG.of ?_) (DB.of ?_)⟩)|(show QO _ _ _;first|(show QO _ none _;exact⟨S8⟩)|refine⟨IT (QE.of ?_)⟩)|(show QC _ _ _;first|(show QC _ [] _;exact⟨SH⟩)|refine⟨SG (QT.of ?_)⟩)|exact Cn.z ‹Cn _ _ _ _› _ (by decide))|(intro ds G Q h;first|(obtain⟨rfl,_⟩:=h;rfl)|(obtain⟨_,rfl,_⟩:=h;rfl)|(obtain⟨_,_,rfl,_⟩:=h;rfl)|(obtain⟨_,_,_,rfl,_⟩:=h;rfl)|(obtain⟨_,_,_,_,rfl,_⟩:=h;rfl)|(obtain⟨_,_,_,_,_,rfl,_⟩:=h;rfl)|(obtain⟨_,_,_,_,_,_,rfl,_⟩:=h;rfl)|(obtain⟨_,_,_,_,_,_,_,rfl,_⟩:=h;rfl)|(rcases ds with _|⟨_,_|⟨_,_|⟨_,_|⟨_,_⟩⟩⟩⟩<;>first|rfl|exact h.elim))|(intro _ _ _ _ _ _ us hl;rcases us with _|⟨_,_|⟨_,_|⟨_,_|⟨_,_|_⟩⟩⟩⟩<;>first|rfl|cases hl))
end My
open PySem PySem.W PyProof.Rows
set_option maxRecDepth 100000 in
set_option maxHeartbeats 0 in
theorem PySem.Challenge.cw_coverclocks_k65_whole_exact_ones_holds : PySem.Challenge.rw_coverclocks_k65_whole_exact_ones.Holds := by
 w_on;o_law;k_head;(case hw=>w_witness2)
 k_fill
 refine My.walk (l:=PySem.Challenge.rw_coverclocks_k65_whole_exact_ones) rfl rfl (fun w h Y=>PySem.W.kIn_of Y) fun w mg fa h KX G hmg=>My.last (My.core KX G (.cons ?_<|.cons ?_<|.cons ?_<|.cons ?_<|.cons ?_<|.cons ?_<|.cons ?_<|.cons ?_<|.cons ?_<|.cons ?_<|.cons ?_<|.cons ?_<|.cons ?_<|.cons ?_<|.nil) ?_ ?_ ?_ ?_ ?_ ?_ ?_ ?_ ?_ ?_ ?_ ?_ ?_ ?_ ?_ ?_ ?_ ?_ ?_ ?_ ?_ ?_ ?_ ?_ ?_ ?_ ?_ ?_ ?_ ?_ ?_ ?_ ?_ ?_ ?_ ?_ ?_ ?_ ?_ ?_ ?_ ?_ ?_ ?_ ?_ ?_ ?_ ?_ ?_ ?_ ?_) hmg
 all_goals first|k_is|exact My.JP (by k_is) (by k_is) (by k_is) (by k_is)|exact⟨_,by k_is⟩
