import PyProof.Rows.All
import Wide.All
import OpenK.AllK
import Wide.FinOn
import Lean
import PyProof.EqAt
import PyProof.EqKinds
import PyProof.TupleCall
import PyProof.NeKinds
import KE.KSortAsk
import PySem.SetTable
import PyProof.SetKind
import PyProof.TupleKey
import PyProof.IsRules
import PyProof.DictKinds
import PyProof.FactsAll.set
import PyProof.RangeIter
import PyProof.Seq
import PyProof.ForAny
import PyProof.WalksMore
import PyProof.CollectWalk
import PyProof.CollectIter
import PyProof.WalksS
import PyProof.Rows.SetFrom
import KE.KSortTup
import PyProof.Draws
import PyProof.Rows.Range3
import PyProof.ExcClass2
import PyProof.InstSpecial
import PyProof.RaisesMany
import PyProof.Rows.Own
import KE.KTryDeep
import PyProof.InstStoreFacts
import PyProof.ExcArgs
import PyProof.SetRoads
import PyProof.Rows.CallKwBuiltin
import KE.KMinKey
import PyProof.ListCopy
import PyProof.Rows.SortShell
import PyProof.DictRoadsH
import PyProof.DictTruth
import PyProof.TupleOfGen
import KE.BitLaws
import KE.KMinBuiltin
import PySem.Challenge.RW_coverclocks_k27_least_covers
set_option Elab.async false
set_option linter.all false
set_option maxRecDepth 100000
set_option maxHeartbeats 6400000
namespace PySem.W.Fast
def tw1023755469157289981:=0
def tw10447438044152617452:=0
def tw10448267781373165283:=0
def tw10531961233628178224:=0
def tw10869342310502903923:=0
def tw10883930335028124507:=0
def tw11002406563857690886:=0
def tw11017225395101984721:=0
def tw11023630548180914789:=0
def tw11229844751748602846:=0
def tw1129366234120516733:=0
def tw11454530622904841238:=0
def tw11513515048212716264:=0
def tw11582915856716443602:=0
def tw11624389874825728537:=0
def tw11627396909329031060:=0
def tw11840935943518132989:=0
def tw1188660476960266875:=0
def tw11939362049234359539:=0
def tw12133932947410654721:=0
def tw12192125866870621243:=0
def tw12218708084471686330:=0
def tw12394728439121129862:=0
def tw12741668886745112228:=0
def tw12781022745266703363:=0
def tw13474831736704540096:=0
def tw13925943967585557541:=0
def tw14187734122528359025:=0
def tw14244203155792210184:=0
def tw14745044629246591660:=0
def tw14965499881293559829:=0
def tw15041898653502734325:=0
def tw15119993287429054536:=0
def tw15131603199013769547:=0
def tw15636284908565054517:=0
def tw15684919749481832087:=0
def tw16223135838009747620:=0
def tw16254311159945761364:=0
def tw1639422910023088420:=0
def tw16426731527321871042:=0
def tw16551852704450650172:=0
def tw1656120816096365739:=0
def tw16697379209808449831:=0
def tw17072676002491655928:=0
def tw1717296358495971166:=0
def tw173331081601017204:=0
def tw17418890037968557749:=0
def tw17666915395342053718:=0
def tw17998764195034553892:=0
def tw18000151035062535487:=0
def tw18085674168344090834:=0
def tw2019299289272197067:=0
def tw2155370881842155159:=0
def tw2211524999828624368:=0
def tw2212517499093301772:=0
def tw2416956959587531599:=0
def tw263382832553540252:=0
def tw2988788935237125591:=0
def tw3236807348168064324:=0
def tw3805519140365313722:=0
def tw409458731338401219:=0
def tw4110845364916951276:=0
def tw4171758551613509229:=0
def tw4196581034207456506:=0
def tw4226991454801707263:=0
def tw4283097067029366402:=0
def tw4351484755020131854:=0
def tw4549671419418123000:=0
def tw4598439164858465238:=0
def tw4770774386251929077:=0
def tw4843506009623765305:=0
def tw4869236656075417640:=0
def tw5161462625538047843:=0
def tw5198457262747492817:=0
def tw5384363552117557828:=0
def tw572875999015457891:=0
def tw5784537987819723056:=0
def tw6067232623736413030:=0
def tw641827154524977981:=0
def tw6427676573415402715:=0
def tw6535810683238252377:=0
def tw6717830686672844538:=0
def tw6772556657599034674:=0
def tw6916160529559566332:=0
def tw7111766504460774469:=0
def tw712497603189619910:=0
def tw7344703582218543612:=0
def tw7497934040499299569:=0
def tw7536523966999631595:=0
def tw7580033647703636669:=0
def tw7672874602873154593:=0
def tw7690146731331732591:=0
def tw7716639889300656552:=0
def tw7889501216055597896:=0
def tw8294817314668670687:=0
def tw8428590392765681153:=0
def tw8442000020361098493:=0
def tw8884976139465967532:=0
def tw8992908354051373959:=0
def tw9188465056162145100:=0
def tw9243957546275454372:=0
def tw9277607110546141036:=0
def tw9421312739630500459:=0
def tw9523829636561684310:=0
def tw9538873728989491584:=0
def tw9668089096451800614:=0
def tw9726696802521277093:=0
def tw10245698087625582447:=0
def tw11123038258377049521:=0
def tw1122540878485943901:=0
def tw11417902142909616450:=0
def tw11430135448883364404:=0
def tw12542072171431543649:=0
def tw12723563364125152367:=0
def tw12923325967030385335:=0
def tw13025748198356310882:=0
def tw13032811113355708733:=0
def tw13035728431294808100:=0
def tw1347749529765163400:=0
def tw1378019633923788860:=0
def tw14109921867855000129:=0
def tw16303109406651652786:=0
def tw16474357807513902435:=0
def tw17056552020478241655:=0
def tw17456758961634698732:=0
def tw17885803333728326315:=0
def tw18342977818530971587:=0
def tw1843017212032469328:=0
def tw2036204267443393642:=0
def tw2112518390938259840:=0
def tw2133029139780323581:=0
def tw313899887770526479:=0
def tw329726101552652098:=0
def tw3840642234682669962:=0
def tw4230987340712757751:=0
def tw4575617654153163604:=0
def tw4653042295513562367:=0
def tw5249224335837441726:=0
def tw5491668891404694894:=0
def tw5527829266792910580:=0
def tw5707778244154301669:=0
def tw5844388000950859924:=0
def tw6226467746540791735:=0
def tw6246107200563908367:=0
def tw6713699738593869551:=0
def tw7041576241497941062:=0
def tw741839708417019882:=0
def tw8096416505887251665:=0
def tw9398807563750624536:=0
def tw9759048774660647902:=0
def tw10326122038711103701:=0
def tw10409088136637659904:=0
def tw11079962065589414498:=0
def tw1219588969057966554:=0
def tw13154278516120314418:=0
def tw13375655027239548542:=0
def tw13505825231459970527:=0
def tw13553362020814385837:=0
def tw13728437153597581149:=0
def tw14218328913776525917:=0
def tw14284272428746120669:=0
def tw1433905912409095998:=0
def tw15902673864317036876:=0
def tw16119814506355357306:=0
def tw16300237239877474586:=0
def tw16536074095867472133:=0
def tw1668420696540559622:=0
def tw16959288165817210524:=0
def tw18048823565012390184:=0
def tw18377672627502286949:=0
def tw1923936879017666909:=0
def tw2013387184121560244:=0
def tw3551343042356516563:=0
def tw3656267192332096451:=0
def tw4072771616203252935:=0
def tw4430156314337939004:=0
def tw4793811027444991127:=0
def tw5498553554820048421:=0
def tw6267699118738040433:=0
def tw6787731471893719635:=0
def tw7988372094132586187:=0
def tw8867626057141576171:=0
def tw9210118114168046756:=0
def tw9393605459156100724:=0
def tw11983271227262644013:=0
def tw12845121345592366774:=0
def tw15438495512475494259:=0
def tw16841710274964301384:=0
def tw17252350242945534978:=0
def tw17857851033830624573:=0
def tw18166132780921764027:=0
def tw18403020359937411260:=0
def tw3481133957710573290:=0
def tw4710181630479947038:=0
def tw4752189862721066744:=0
def tw6432121912793800059:=0
def tw7234843060331983292:=0
def tw7541744641406941854:=0
def tw7828540555143254812:=0
def tw8040297818268893437:=0
def tw14003913281394685176:=0
def tw17770235946328396896:=0
def tw18259826804404587720:=0
def tw2290245363342273181:=0
def tw3448422798523129987:=0
def tw3616720586003916170:=0
def tw5755923769516021958:=0
def tw7361016153167114181:=0
def tw9911973371858908318:=0
def tw12974507154471981034:=0
def tw13190418117759266150:=0
def tw14448727402027844815:=0
def tw15419394539415217828:=0
def tw15457290140623546829:=0
def tw253277986256319444:=0
def tw3491963254621825974:=0
def tw7147566088800934949:=0
end PySem.W.Fast
open Array renaming getElem?_eq_some_iff->aN,getElem?_toList->bj,length_toList->fP,mem_toList_iff->gE,getElem?_eq_none_iff->jj,getD->mz,getElem?_eq_getElem->oY,toList->qe,toList_filterMap->rl,toList_extract->sR,forIn_toList->uF,append_empty->uG
open Bool renaming false_ne_true->ar,and_eq_true->bQ,false_eq_true->cI,false_or->gz,eq_iff_iff->jM,and_false->kx,or_false->kZ,or_true->mx,or_eq_true->my,false_and->mX,true_and->tw,and_true->tz,not_not->uE
open Classical renaming byContradiction->aK
open False renaming elim->br
open ForInStep renaming yield->hV
open Int renaming toNat_natCast->bC,emod_lt_of_pos->fg,emod_nonneg->gr,natCast_dvd_natCast->gY,toNat_of_nonneg->jz,emod_eq_emod_iff_emod_sub_eq_zero->jN,natCast_nonneg->kh,natCast_ediv->lu,natCast_mul->mv,mul_le_mul_of_nonneg_left->mC,dvd_mul_right->oH,le_trans->qb,ediv_nonneg->qA
open List renaming length_map->π,mem_cons_self->χ,mem_cons_of_mem->ψ,size_toArray->Γ,mem_cons->Δ,mem_map->aj,getElem?_eq_some_iff->ak,range->ao,length_append->aq,mem_range->ax,getElem?_eq_getElem->aB,getElem?_map->aI,length_cons->aL,not_mem_nil->aR,mem_singleton->aV,mem_append_right->aY,append_nil->bh,replicate->bo,mem_of_getElem?->bE,mem_filter->bK,mem_append->bL,map_cons->bP,length_take->bW,map_append->cg,pairwise_map->cm,lookup_cons->cB,nil_append->cW,mem_append_left->cY,map_map->cZ,getElem?_eq_none_iff->da,nodup_cons->dm,pairwise_cons->dw,pairwise_iff_getElem->dO,mem_of_mem_take->eF,map_congr_left->eO,filterMap_cons->eP,getElem?_append_right->eU,range'_succ->eX,all_eq_true->eY,filter_append->fe,getElem?_append_left->fi,of_mem_zip->fu,length_range->fB,append_assoc->fC,pairwise_singleton->fK,replicate_succ->fO,length_drop->fV,take_of_length_le->gd,zip_cons_cons->gh,lookup_append->gi,getD_eq_getElem?_getD->gx,getElem?_of_mem->gC,getElem_of_mem->gV,getElem?_range->gW,length_eq_zero_iff->gX,length_nil->hU,length->ij,drop_eq_nil_of_le->ik,flatten_cons->iA,length_singleton->iN,range_eq_range'->i7,getElem_mem->i8,filter_cons->i9,perm_ext_iff_of_nodup->ji,drop_eq_getElem_cons->jJ,toArray->kg,getElem?_replicate->kI,filter_cons_of_pos->kJ,take_sublist->kL,ext_getElem?->kM,length_eq_one_iff->kS,getElem?_set_self->kT,Pairwise->kX,nodup_range->lq,any_eq_true->lr,take_append_drop->lF,length_replicate->lG,pairwise_append->mn,length_zip->mo,getElem?_set_ne->mq,eq_nil_of_length_eq_zero->mB,nodup_nil->mW,range'->nj,mem_filterMap->nG,getD->nH,contains_cons->nI,all_cons->nV,getElem?_inj->oG,isEmpty_map->pZ,getElem?_take_of_lt->p8,filterMap_cons_some->p9,getElem?_cons_succ->qj,filter_cons_of_neg->qk,lookup_nil->qy,forIn_cons->qz,range_succ_eq_map->qZ,pairwise_lt_range->ra,length_pos_of_mem->rb,getElem_cons_drop->rf,getElem?_eq_none->rQ,replicate_succ'->sO,getElem_toArray->sP,map_take->tm,map_drop->tu,mem_map_of_mem->tH,length_zipWith->tI,flatten_append->tJ,filter_eq_self->tK,map_nil->uy,map_filterMap->uz,getElem?_drop->uA,filterMap_map->uB,foldl->wX
open List.Pairwise renaming imp_of_mem->gQ,nil->uY,map->uZ,imp->u6
open List.cons renaming injEq->wY
open Nat renaming le_refl->Θ,le_trans->aA,ne_of_lt->aW,lt_of_lt_of_le->aX,zero_le->ba,lt_irrefl->bU,pow_le_pow_right->cE,testBit_two_pow_mul_add->eN,pow_succ->eR,lt_of_le_of_lt->fc,lt_succ_self->fS,testBit_lt_two_pow->gb,gcd->gI,ne_of_gt->gO,le_add_right->gP,mod_lt->hJ,lt_succ_of_lt->iz,lcm->iM,le_of_dvd->jh,two_pow_pos->mh,mul_comm->mi,lt_trans->mj,eq_of_testBit_eq->ml,add_comm->mm,lt_pow_two_of_testBit->oW,zero_testBit->pT,zero_add->pU,succ_pos->pV,le_of_lt->pW,gcd_comm->pY,le_mul_of_pos_right->qh,gcd_pos_of_pos_left->qi,mul_le_mul_right->sN,mul_le_mul_left->tG,min_self->ux,le_succ->vp,lcm_pos->vq,lcm_dvd->vt
open Ne renaming symm->di
open Option renaming bind_some->i6,isSome_iff_exists->kc,map->sM,getD_none->wc
open Option.some renaming inj->aD
open Or renaming inr->nF,inl->pS
open PyProof.Rows renaming slot_tuple_getitem->cP,callWith_type1->eL,IntsAre->ff,assignInOrder_cons->g8,IsTup->iB,AllBare->ky,get?_update_seq->me,listUpdate_at->nT,assignInOrder_nil->oB,SortKind->pR,seqEpoch_at->qX
open PyProof.Rows.F renaming plain_set_update_loop->gg,entry_set_update_loop->ka
open PySem renaming wpAny_bind->δ,Value->ε,Addr->ζ,Shared->η,wpAny_pure->μ,Str->ν,wpAny->ξ,Expr->ρ,Heap->Ψ,Program->Ω,FuncData->ag,World->ah,Spec->ai,sizeLine->au,Around->aE,Pos->aO,Obj->aP,Stmt->aQ,mainGlobals->aT,wpAny_holding->aZ,wpAny_newObj_type->bG,wpAny_field->bI,starEach->bM,SetTable->bN,wpAny_callSpecial?_slot->bS,wpAny_seqItems->bY,wpAny_mono->cb,wpAny_call_entry->cA,wpAny_Call_Name_kw->cG,sizeLine_eq->cH,codeAny_builtin->cJ,Env->cK,Builtin->cS,wpAny_passesOwn->cU,wpAny_setState_of->dg,wpAny_setField_rec->dn,wpAny_pyIter_tuple->dq,plainId_quiet->dC,wpAny_tryCatch->dD,Moved->dU,codeAny_mono->ed,wpAny_letGo->eQ,Scope->eS,wpAny_setField->fb,wpAny_updateSeq->fq,wpAny_execs_nil->ft,wpAny_truthy_bool->fx,wpAny_pyIter_list->fy,wpAny_loadPart_at->fz,codeAny->fA,mem_of_lookup->fN,NameKind->fU,wpAny_call->fZ,wpAny_standAt->gs,wpAny_newFunctionEnv_cells->gu,wpAny_attempt->gv,wpAny_execs_cons->gL,bootBuiltins->gM,IsPair->gR,wpAny_rule->g7,PassesOwn->g9,wpAny_of_eq->ib,richCompare->ie,codeAny_call_function->iJ,wpAny_loadName_local->i3,wpAny_isInstance->i4,wpAny_forIn_list->i5,wpAny_isSubtype_exc->jy,wpAny_typeOf->j4,Sem->j5,call_meets->kr,IsZip->kY,Operator->lp,GenState->ly,wpAny_updateSeq_pair->md,codeAny_call_builtin->mf,IsPart->mr,wpAny_bindName->mR,isSubtype_stop->mT,BindsTo->mY,wpAny_onRaise->nS,wpAny_Name->oQ,wpAny_comprehension_free->pN,wpAny_askSetting->pO,noFill_tuple_add->pP,codeAny_func->pQ,wpAny_pyNext_tuple_item->qf,wpAny_specialOf->qw,codeAny_of_tree->qx,wpAny_throw->qV,seqIndex_of->qW,IsRangeIter->rh,wpAny_runValue->rH,wpAny_newTuple->rJ,isSubtype_type->rK,WalksS->rL,SetTable->rO,wpAny_newList->sX,wpAny_handled->sY,seq_tuple_add->sZ,DictEntry->uD,call->wR
open PySem.Around renaming under_plainId->bX,frames_deeper->sS
open PySem.AutoSeq1 renaming sub_tuple_tuple->qd
open PySem.Builtin renaming bitAnd->dj
open PySem.Builtin.Builtins renaming bindParams->gj
open PySem.Builtin.Frozenset renaming slot0->ql
open PySem.Builtin.Int renaming intBits->jA
open PySem.Builtin.List renaming listTooLong->gT,listExtendWith->nL,listSameRef->qc
open PySem.Builtin.Range renaming rangeSize->cQ,small->mF
open PySem.Builtin.Slice renaming slicePlaces->gD,sliceAdjust->jL,sliceApplied->nY
open PySem.Builtin.SmallTypes renaming nextOf->cF,ownedTupleIsFree->eG,ownedTupleHandOut->ki
open PySem.Builtin.Tuple renaming tupleExact->gS,tupleCompareSizes->lH,tupleItemsOf->nX
open PySem.Calls renaming Name_function_global->nW,call_function_entry->oX
open PySem.Code renaming quiet_builtin->nK
open PySem.Data renaming cell->nJ,fields->rk
open PySem.EntryCells renaming newEntry->tM
open PySem.F renaming type_list_append->j7,slot_list_append->j8,args_tuple_add_2->j9,entry_tuple_add->kH,slot_tuple_add->kR,args_tuple_lt_2->qg,entry_tuple_lt->qY,slot_tuple_lt->rP
open PySem.Flow renaming next->uC
open PySem.Heap renaming get?_push_of_some->ι,lt_size->Ξ,get?_push_size->af,get?_update_other->ay,get?_update_self->bu,size_push->dF,SameBut->et,get?_none_of_le->fv,ExtBut->kU,IsTuple->mw,IsList->rj,get?_push_cases->sQ,get?_update_ne->tL
open PySem.Heap.IsList renaming push->wd
open PySem.Heap.IsTuple renaming push->u7
open PySem.Heap.SameBut renaming update->cy
open PySem.Moved renaming trans->fj,drop_new->mV
open PySem.NameKind renaming free->cR,cell->tj
open PySem.Obj renaming mapSeq->bq,data_mapFields->cV,isFreed_of_fields->dR,mapFields->gw,cls_mapFields->oF,putSet->oV
open PySem.PassesOwn renaming never->cf
open PySem.SeqAt.EqAt renaming bool_bool->sL
open PySem.SeqAt.RcAt renaming lists_lengths->uw
open PySem.SetTable renaming insertAt->bR,grown->iK,below->iL,sizeAbove->nE
open PySem.Shared renaming heap->gH,TypeIs->tf
open PySem.Str renaming ofString->ee,empty->iQ
open PySem.Value renaming ref->aH,none->aS,bool->dN,isInt_shape->iy,builtin->je,int->lE,type->oR,notImplemented->sJ,isInt->vn
open PySem.W renaming Frag->θ,mg_of->av,kitOne->aw,nsIn->bB,keepIn->bD,mg_none_of->bO,kia_one->dk,findIn->dE,callWith_K->er,fnOf->gN,cellsFrom_some->ig,clsIn->jg,codeRec_of->j6,notCls->ku,codeIn->kv,kas_ask->mS,InstAt->mU,mroIn->nU,methodObj->oC,kitx_list->oE,typeIn->rM,lookIn->rN,looks_clsIn->tF,specialIn->uV,kitx_dict->uW,hasDictIn->uX,takesIn->wU,findObj->wV,OpenLaw->wW
open PySem.W.KasT renaming kasWp_bind->jK
open PySem.Within renaming cons->vm
open Sum renaming inr->pe,inl->pf
open True renaming intro->oU
namespace L2
open PySem PySem.Spec PyProof.Rows
abbrev Key:=Sum Int ν
def Gz:Key->ε->Bool
 |.inl k,v=>vn k v
 |.inr x,v=>ε.isStrOf x v
def aan(w:ah):Key->Int
 |.inl k=>hashInt k
 |.inr x=>hashStr w x
theorem sf:∀{k:Key} {v:ε},Gz k v=true->(∃i t,k=pf i/\v=lE i t)∨(∃x t,k=pe x/\v=ε.str x t)
 |.inl i,v,h=>by
  obtain⟨t,e⟩:=iy (k:=i) (v:=v) h;exact .inl ⟨i,t,rfl,e⟩
 |.inr x,v,h=>by
  obtain⟨t,e⟩:=ε.isStrOf_shape (x:=x) (v:=v) h;exact .inr ⟨x,t,rfl,e⟩
theorem WT(a b:Int):decide ((pf a:Key)=pf b)=(a==b):=by
 by_cases e:a=b
 ·subst e;simp
 ·have h:¬(pf a:Key)=pf b:=fun q=>e (pf.inj q);rw[decide_eq_false h];exact (beq_eq_false_iff_ne.mpr e).symm
theorem WS(a b:ν):decide ((pe a:Key)=pe b)=decide (a=b):=by
 by_cases e:a=b
 ·subst e;simp
 ·have h:¬(pe a:Key)=pe b:=fun q=>e (pe.inj q);rw[decide_eq_false h,decide_eq_false e]
theorem WR(a:Int)(b:ν):decide ((pf a:Key)=pe b)=false:=decide_eq_false (fun q=>nomatch q)
theorem WQ(a:ν)(b:Int):decide ((pe a:Key)=pf b)=false:=decide_eq_false (fun q=>nomatch q)
def xC(prog:Ω)(w:ah):PySem.KeyKind prog w Key where
 is:=Gz
 hash:=aan w
 inj:=fun v a b ha hb=>by
  rcases sf ha with⟨i,t,rfl,rfl⟩|⟨x,t,rfl,rfl⟩
  ·rcases sf hb with⟨j,u,rfl,e⟩|⟨y,u,rfl,e⟩
   ·injection e with e1 _;rw[e1]
   ·exact nomatch e
  ·rcases sf hb with⟨j,u,rfl,e⟩|⟨y,u,rfl,e⟩
   ·exact nomatch e
   ·injection e with e1 _;rw[e1]
 byValue:=fun k v h=>by
  rcases sf h with⟨i,t,rfl,rfl⟩|⟨x,t,rfl,rfl⟩<;>rfl
 pyHash:=fun hv h=>by
  rcases sf hv with⟨i,t,rfl,rfl⟩|⟨x,t,rfl,rfl⟩
  ·exact wpAny_pyHash_int h
  ·exact wpAny_pyHash_str h
 eqBool:=fun hu hv h=>by
  rcases sf hu with⟨i,t,rfl,rfl⟩|⟨x,t,rfl,rfl⟩
  ·rcases sf hv with⟨j,u,rfl,rfl⟩|⟨y,u,rfl,rfl⟩
   ·rw[WT] at h;exact wpAny_eqBool_int h
   ·rw[WR] at h;exact SeqAt.EqAt.int_str i t y u _ _ _ _ h
  ·rcases sf hv with⟨j,u,rfl,rfl⟩|⟨y,u,rfl,rfl⟩
   ·rw[WQ] at h;exact SeqAt.EqAt.str_int x t j u _ _ _ _ h
   ·rw[WS] at h;exact wpAny_eqBool_str h
 «strs»:=fun k x t v h=>by
  rcases sf h with⟨i,u,rfl,e⟩|⟨y,u,rfl,e⟩
  ·exact nomatch e
  ·injection e with e1 _;subst e1;cases v<;>rfl
end L2
namespace L2
open PySem PySem.Spec PyProof.Rows
inductive V where
 |aC|bl (b:Bool)|int (i:Int)|str (x:ν)|C9 (b:Array UInt8)|MC (b:UInt64)|ref (a:ζ)|ty (n:String)
 deriving DecidableEq
def RelV:V->ε->Prop
 |.aC,u=>u=aS
 |.bl b,u=>u=dN b
 |.int i,u=>∃t,u=lE i t
 |.str x,u=>∃t,u=ε.str x t
 |.C9 b,u=>∃t,u=ε.bytes b t
 |.MC b,u=>∃t,u=ε.float b t
 |.ref a,u=>u=aH a
 |.ty n,u=>u=oR n
abbrev bp:List V->List ε->Prop:=Paired RelV
theorem bp.length{xs:List V}{us:List ε}(r:bp xs us):xs.length=us.length:=Paired.length r
theorem bp.get:∀{xs:List V} {us:List ε} {i:Nat} {x:V},bp xs us->xs[i]?=some x->∃u,us[i]?=some u/\RelV x u
 |_,_,_,_,.nil,e=>by simp at e
 |_,_,0,_,.cons r _,e=>by simp at e;subst e;exact⟨_,rfl,r⟩
 |_,_,i+1,x,.cons _ t,e=>by
  obtain⟨u,h1,h2⟩:=bp.get (i:=i) (x:=x) t (by simpa using e);exact⟨u,by simpa using h1,h2⟩
theorem bp.set{x:V}{u:ε}(r:RelV x u):∀{xs:List V} {us:List ε} (i:Nat),bp xs us->bp (xs.set i x) (us.set i u)
 |_,_,_,.nil=>.nil
 |_,_,0,.cons _ t=>.cons r t
 |_,_,i+1,.cons q t=>.cons q (bp.set r i t)
theorem bp.append:∀{xs ys:List V} {us ws:List ε},bp xs us->bp ys ws->bp (xs++ys) (us++ws)
 |_,_,_,_,.nil,s=>s
 |_,_,_,_,.cons r t,s=>.cons r (bp.append t s)
theorem bp.take:∀{xs:List V} {us:List ε} (n:Nat),bp xs us->bp (xs.take n) (us.take n)
 |_,_,0,_=>.nil
 |_,_,_+1,.nil=>.nil
 |_,_,n+1,.cons r t=>.cons r (bp.take n t)
theorem bp.drop:∀{xs:List V} {us:List ε} (n:Nat),bp xs us->bp (xs.drop n) (us.drop n)
 |_,_,0,r=>r
 |_,_,_+1,.nil=>.nil
 |_,_,n+1,.cons _ t=>bp.drop n t
def sE:Option V->Option ε->Prop
 |some v,some u=>RelV v u
 |none,none=>True
 |_,_=>False
def KV{κ:Type}:List (κ×V)->List (κ×ε)->Prop:=Paired fun (p:κ×V) (q:κ×ε)=>p.1=q.1/\RelV p.2 q.2
def kV:Key->V
 |.inl i=>.int i
 |.inr x=>.str x
inductive HO where
 |lst (xs:List V)
 |tup (xs:List V)
 |dK (kvs:List (Key×V))|dT (kvs:List (List Key×V))
 |set (S:Int->Bool) (n:Nat)
 |ins (C dx:ζ) (fs:List (ν×V))
 |own (x:ζ)
 |xd (fs:List (ν×V))
 |met (f x:ζ)
 |CQ (lo hi:Int)
 |cT (o:aP) (u:HO)
 |wj (ps:Array ε)
 |ext (φ:Ψ->Prop)
abbrev Hp:=ζ->Option HO
def upd(H:Hp)(a:ζ)(o:HO):Hp:=fun b=>if b=a then some o else H b
theorem iO{H:Hp}{a:ζ}{o:HO}:upd H a o a=some o:=by unfold upd;rw[if_pos rfl]
theorem dz{H:Hp}{a b:ζ}{o:HO}(h:b≠a):upd H a o b=H b:=by unfold upd;rw[if_neg h]
theorem mJ{H:Hp}{a b:ζ}{o:HO}(h:H a=some o)(h':H b=none):a≠b:=by
 intro e;subst e;rw[h] at h';cases h'
def kQ(h:Ψ)(a:ζ)(items:Array ε):Prop:=∃o,h.get? a=some o/\o.cls=.type "tuple"/\(∃n,o.data=.seq items n)/\o.dict=none
theorem kQ.tup{h:Ψ}{a:ζ}{items:Array ε}(x:kQ h a items):iB h a items:=let ⟨o,h1,h2,h3,_⟩:=x;⟨o,h1,h2,h3⟩
theorem kQ.new(h:Ψ)(items:Array ε):kQ (h.push { cls:=.type "tuple",data:=.seq items }) h.objs.size items:=⟨_,af _ rfl,rfl,⟨_,rfl⟩,rfl⟩
theorem kQ.lt{h:Ψ}{a:ζ}{items:Array ε}(x:kQ h a items):a<h.objs.size:=let ⟨_,ho,_⟩:=x;Ξ ho
section
variable (P:Ω) (w:ah)
def bV(H:Hp)(h:Ψ)(a:ζ):HO->Prop
 |.lst xs=>xs.length≤au/\∃(its:List ε) (n:Nat),bp xs its/\h.get? a=some { cls:=.type "list",data:=.seq its.toArray n }
 |.tup xs=>xs.length≤au/\∃its:List ε,bp xs its/\kQ h a its.toArray
 |.dK kvs=>kvs.length≤au/\(a==sysModules)=false/\∃vs,KV kvs vs/\h.DictOf (xC P w) a vs
 |.dT kvs=>kvs.length≤au/\(a==sysModules)=false/\∃xs:List (List Key×ζ×ε),
   Paired (fun (p:List Key×V) (q:List Key×ζ×ε)=>p.1=q.1/\H q.2.1=some (.tup (p.1.map kV))/\RelV p.2 q.2.2) kvs xs ∧
   ∃o es ep,h.get? a=some o/\o.ExactDict/\o.data=.dict es ep/\es.toList=xs.map (entryOfKey (tupleKind (xC P w)))/\(xs.map (·.1)).Nodup
 |.set S n=>h.SetOf (intKind P w) a S n
 |.ins C dx fs=>H dx=some (.own a)/\fs.length≤1000/\dx≠a/\h.get? a=some (PySem.W.instObj C dx) ∧
   ∃mA,h.Ns1 dx mA/\(∀f,sE (fs.lookup f) (mA f))/\PySem.Within mA (fs.map (·.1))
 |.own _=>∃o,h.get? a=some o
 |.xd fs=>∃mA,h.Ns1 a mA/\∀f,sE (fs.lookup f) (mA f)
 |.CQ lo hi=>∃t u v,h.get? a=some { cls:=.type "range",data:=.fields #[.int lo t,.int hi u,.int 1 v]}
 |.cT o u=>h.get? a=some o/\bV H h a u
 |.wj ps=>h.get? a=some { cls:=.none,data:=.fields ps }
 |.met f x=>h.get? a=some (oC (.ref f) (.ref x))
 |.ext φ=>φ h/\(∃o,h.get? a=some o)/\∀h1 h2:Ψ,φ h1->(∀o,h1.get? a=some o->h2.get? a=some o)->φ h2
def dZ(H:Hp)(h:Ψ):Prop:=∀a o,H a=some o->bV P w H h a o
end
section
variable {P:Ω} {w:ah} {H H':Hp} {h h':Ψ} {a:ζ} {o:HO}
theorem bV.lt(x:bV P w H h a o):a<h.objs.size:=by
 cases o with
 |lst xs=>obtain⟨_,_,_,_,e⟩:=x;exact Ξ e
 |tup xs=>obtain⟨_,_,_,p⟩:=x;exact p.lt
 |dK kvs=>obtain⟨_,_,_,_,o,_,_,e,_⟩:=x;exact Ξ e
 |dT kvs=>obtain⟨_,_,_,_,o,_,_,e,_⟩:=x;exact Ξ e
 |set S n=>obtain⟨o,_,_,_,e,_⟩:=x;exact Ξ e
 |ins C dx fs=>obtain⟨_,_,_,e,_⟩:=x;exact Ξ e
 |own y=>obtain⟨_,e⟩:=x;exact Ξ e
 |xd fs=>obtain⟨_,⟨_,_,_,e,_⟩,_⟩:=x;exact Ξ e
 |CQ lo hi=>obtain⟨_,_,_,e⟩:=x;exact Ξ e
 |cT ob u=>obtain⟨e,_⟩:=x;exact Ξ e
 |wj ps=>exact Ξ (show h.get? a=some _ from x)
 |met f y=>exact Ξ (show h.get? a=some _ from x)
 |ext φ=>obtain⟨_,⟨_,e⟩,_⟩:=x;exact Ξ e
theorem Paired.Mj{α β:Type}{F G:α->β->Prop}:∀{l₁:List α} {l₂:List β},Paired F l₁ l₂->(∀a b,F a b->G a b)->Paired G l₁ l₂
 |_,_,.nil,_=>.nil
 |_,_,.cons r t,f=>.cons (f _ _ r) (Paired.Mj t f)
theorem bV.lg(x:bV P w H h a o)(k:∀b u,(b=a∨H b=some (.own a))->h.get? b=some u->h'.get? b=some u)
  (ho:∀b,H b=some (.own a)->H' b=some (.own a)) (ht:∀b xs,H b=some (.tup xs)->H' b=some (.tup xs)):bV P w H' h' a o:=by
 induction o with
 |lst xs=>obtain⟨z,its,n,r,e⟩:=x;exact⟨z,its,n,r,k _ _ (.inl rfl) e⟩
 |tup xs=>obtain⟨z,its,r,ob,e,c⟩:=x;exact⟨z,its,r,ob,k _ _ (.inl rfl) e,c⟩
 |dK kvs=>obtain⟨z,y,vs,r,ob,es,ep,e,c⟩:=x;exact⟨z,y,vs,r,ob,es,ep,k _ _ (.inl rfl) e,c⟩
 |dT kvs=>
  obtain⟨z,y,xs,r,ob,es,ep,e,c⟩:=x;exact⟨z,y,xs,Paired.Mj r fun p q z=>⟨z.1,ht _ _ z.2.1,z.2.2⟩,ob,es,ep,k _ _ (.inl rfl) e,c⟩
 |set S n=>obtain⟨ob,es,ep,t,e,c⟩:=x;exact⟨ob,es,ep,t,k _ _ (.inl rfl) e,c⟩
 |ins C dx fs=>
  obtain⟨d,z,ne,e,mA,⟨od,es,ep,e2,c⟩,r⟩:=x;exact⟨ho _ d,z,ne,k _ _ (.inl rfl) e,mA,⟨od,es,ep,k _ _ (.inr d) e2,c⟩,r⟩
 |own y=>obtain⟨ob,e⟩:=x;exact⟨ob,k _ _ (.inl rfl) e⟩
 |xd fs=>obtain⟨mA,⟨od,es,ep,e,c⟩,r⟩:=x;exact⟨mA,⟨od,es,ep,k _ _ (.inl rfl) e,c⟩,r⟩
 |CQ lo hi=>obtain⟨t,u,v,e⟩:=x;exact⟨t,u,v,k _ _ (.inl rfl) e⟩
 |cT ob u ih=>obtain⟨e,q⟩:=x;exact⟨k _ _ (.inl rfl) e,ih q⟩
 |wj ps=>
  have e:h.get? a=some { cls:=.none,data:=.fields ps }:=x;show h'.get? a=some { cls:=.none,data:=.fields ps };exact k a _ (.inl rfl) e
 |met f y=>
  have e:h.get? a=some (oC (.ref f) (.ref y)):=x;show h'.get? a=some (oC (.ref f) (.ref y));exact k a _ (.inl rfl) e
 |ext φ=>obtain⟨p,⟨o,e⟩,st⟩:=x;exact⟨st _ _ p fun o q=>k _ _ (.inl rfl) q,⟨o,k _ _ (.inl rfl) e⟩,st⟩
theorem dZ.lt(x:dZ P w H h)(e:H a=some o):a<h.objs.size:=(x a o e).lt
theorem dZ.fresh(x:dZ P w H h)(e:h.objs.size≤a):H a=none:=by
 cases q:H a with
 |none=>rfl
 |some u=>exact absurd (aX (x.lt q) e) (bU _)
theorem dZ.kept(x:dZ P w H h)(k:∀b u,h.get? b=some u->h'.get? b=some u):dZ P w H h':=fun a o e=>
 (x a o e).lg (fun b u _ q=>k b u q) (fun _ q=>q) fun _ _ q=>q
theorem dZ.laid(x:dZ P w H h)(k:∀b u,h.get? b=some u->h'.get? b=some u)(hp:h.objs.size≤a)(new:bV P w (upd H a o) h' a o):dZ P w (upd H a o) h':=fun b u e=>by
 have hn:=x.fresh hp;by_cases hb:b=a
 ·subst hb;rw[iO] at e;cases e;exact new
 ·rw[dz hb] at e;exact (x b u e).lg (fun c v _ q=>k c v q) (fun c q=>by rw[dz (mJ q hn)];exact q) fun c xs q=>by rw[dz (mJ q hn)];exact q
end
def Rd(H:Hp)(a:ζ)(u:HO):Prop:=H a=some u∨∃o,H a=some (.cT o u)
theorem Rd.ok{P:Ω}{w:ah}{H:Hp}{h:Ψ}{a:ζ}{u:HO}(r:Rd H a u)(x:dZ P w H h):bV P w H h a u:=by
 rcases r with r|⟨o,r⟩
 ·exact x a u r
 ·obtain⟨_,q⟩:=x a _ r;exact q
def Dg:Option HO->Prop
 |some (.lst _)=>True
 |some (.dK _)=>True
 |some (.dT _)=>True
 |some (.set _ _)=>True
 |some (.ins _ _ _)=>True
 |some (.ext _)=>True
 |_=>False
section
variable {P:Ω} {w:ah} {H:Hp} {h h':Ψ} {x e:ζ} {o':HO}
theorem dZ.write(ok:dZ P w H h)(mu:Dg (H x))(he:e=x∨H e=some (.own x))(k:∀b u,b≠e->h.get? b=some u->h'.get? b=some u)(heo:∃u,h'.get? e=some u)
  (new:bV P w (upd H x o') h' x o'):dZ P w (upd H x o') h':=fun b u q=>by
 have nown:∀c y,H c=some (.own y)->c≠x:=fun c y r z=>by subst z;rw[r] at mu;exact mu
 have ntup:∀c xs,H c=some (.tup xs)->c≠x:=fun c xs r z=>by subst z;rw[r] at mu;exact mu
 by_cases hb:b=x
 ·subst hb;rw[iO] at q;cases q;exact new
 ·rw[dz hb] at q;by_cases hbe:b=e
  ·have q':H b=some (.own x):=by
    rcases he with z|z
    ·exact absurd (hbe.trans z) hb
    ·rw[hbe];exact z
   rw[q] at q';cases q';obtain⟨v,hv⟩:=heo;exact⟨v,by rw[hbe];exact hv⟩
  ·refine (ok b u q).lg (fun c v hc r=>k c v ?_ r) (fun c r=>by rw[dz (nown c b r)];exact r) fun c xs r=>by rw[dz (ntup c xs r)];exact r
   rcases hc with rfl|hc
   ·exact hbe
   ·rintro rfl;rcases he with z|z
    ·exact nown c b hc z
    ·rw[hc] at z;cases z;exact hb rfl
end
structure Un(fs ex:List ζ)(H H':Hp)(h h':Ψ):Prop where
 keep:∀b o,h.get? b=some o->H b=none->b∉fs->b∉ex->h'.get? b=some o
 slot:∀b o,h.get? b=some o->H b=none->b∈fs->b∉ex->∃sl,h'.get? b=some { o with slots:=sl }
 free:∀b o,h.get? b=some o->H b=none->b∉ex->H' b=none
 there:∀b o,h.get? b=some o->b∉ex->∃o',h'.get? b=some o'
 iD:∀b xs,H b=some (.tup xs)->H' b=some (.tup xs)
 iH:∀b o u,H b=some (.cT o u)->H' b=some (.cT o u)
 nN:∀b ps,H b=some (.wj ps)->∃more,H' b=some (.wj (ps++more))
section
variable {fs fs' ex ex':List ζ} {H H1 H2:Hp} {h h1 h2 h':Ψ} {a x e:ζ} {o:HO}
theorem Un.any(u:Un fs ex H H1 h h1){b:ζ}{ob:aP}(q:h.get? b=some ob)(n:H b=none)(hx:b∉ex):∃sl,h1.get? b=some { ob with slots:=sl }:=by
 by_cases hb:b∈fs
 ·exact u.slot b ob q n hb hx
 ·exact⟨ob.slots,u.keep b ob q n hb hx⟩
theorem Un.kept(k:∀b u,h.get? b=some u->h'.get? b=some u):Un fs ex H H h h':=
 ⟨fun b ob q _ _ _=>k b ob q,fun b ob q _ _ _=>⟨ob.slots,k b ob q⟩,fun _ _ _ n _=>n,fun b ob q _=>⟨ob,k b ob q⟩,fun _ _ q=>q,fun _ _ _ q=>q,fun _ ps q=>⟨#[],by rw[q];simp⟩⟩
theorem Un.refl:Un fs ex H H h h:=Un.kept fun _ _ q=>q
theorem Un.laid(k:∀b u,h.get? b=some u->h'.get? b=some u)(hp:h.objs.size≤a)(hn:H a=none):Un fs ex H (upd H a o) h h' where
 keep:=fun b u q _ _ _=>k b u q
 slot:=fun b u q _ _ _=>⟨u.slots,k b u q⟩
 free:=fun b u q n _=>by rw[dz (aW (aX (Ξ q) hp))];exact n
 there:=fun b u q _=>⟨u,k b u q⟩
 iD:=fun b xs q=>by rw[dz (mJ q hn)];exact q
 iH:=fun b u xs q=>by rw[dz (mJ q hn)];exact q
 nN:=fun b ps q=>⟨#[],by rw[dz (mJ q hn),q];simp⟩
theorem Un.write(mu:Dg (H x))(he:e=x∨H e=some (.own x))(k:∀b u,b≠e->h.get? b=some u->h'.get? b=some u)(heo:∃u,h'.get? e=some u):Un fs ex H (upd H x o) h h':=by
 have hx:∀b,H b=none->b≠x:=fun b n z=>by subst z;rw[n] at mu;exact mu
 have hb:∀b,H b=none->b≠e:=fun b n z=>by
  subst z;rcases he with r|r
  ·exact hx b n r
  ·rw[n] at r;cases r
 have hm:∀b u,H b=some u->¬Dg (some u)->b≠x:=fun b u q nm z=>by subst z;rw[q] at mu;exact nm mu
 refine⟨fun b u q n _ _=>k b u (hb b n) q,fun b u q n _ _=>⟨u.slots,k b u (hb b n) q⟩,fun b u q n _=>by rw[dz (hx b n)];exact n,fun b u q _=>?_,
  fun b xs q=>by rw[dz (hm b _ q fun z=>z)];exact q,fun b u xs q=>by rw[dz (hm b _ q fun z=>z)];exact q,fun b ps q=>⟨#[],by rw[dz (hm b _ q fun z=>z),q];simp⟩⟩
 by_cases hbe:b=e
 ·subst hbe;exact heo
 ·exact⟨u,k b u hbe q⟩
end
def nZ(h:Ψ)(H:Hp):List ζ:=(ao h.objs.size).filter fun a=>(H a).isSome
def sy(h:Ψ)(H:Hp):Ψ:=PySem.W.hideAll h (nZ h H)
theorem WO(h:Ψ)(H:Hp):(sy h H).objs.size=h.objs.size:=PySem.W.hideAll_size _ _
theorem WN{h:Ψ}{H:Hp}{b:ζ}{o:aP}(e:h.get? b=some o)(n:H b=none):(sy h H).get? b=some o:=
 PySem.W.hideAll_get _ e fun hm=>by
  have q:(H b).isSome=true:=(bK.mp hm).2;rw[n] at q;simp at q
theorem WM{h:Ψ}{H:Hp}{b:ζ}{o:aP}(e:(sy h H).get? b=some o):h.get? b=some o/\H b=none:=by
 have e':h.get? b=some o:=PySem.W.of_hideAll (nZ h H) e;refine⟨e',?_⟩;cases q:H b with
 |none=>rfl
 |some x=>
  have hm:b∈nZ h H:=bK.mpr ⟨ax.mpr (Ξ e'),by simp[q]⟩;have z:(sy h H).get? b=none:=PySem.W.hideAll_none (nZ h H) hm;rw[z] at e;cases e
end L2
namespace L2
open PySem PySem.Spec PyProof.Rows
structure Mod(K:θ)(mg:ν->Option ε)(base:Ψ):Prop where
 pH:K.In base
 glob:base.Ns aT mg
 blt:∃mb,base.Ns builtinsNs mb/\∀x:ν,x≠"__name__"->mb x=gM x
 nolimit:base.NoLimit
structure Cx where
 prog:Ω
 w:ah
 K:θ
 mg:ν->Option ε
 base:Ψ
 A:aE
 N:List ν
 s₀:η
 H₀:Hp
 env:cK
 outer:List cK
 stack:List cK
 ex:List ζ
 fn:ν->Bool
 calm:Bool
 pn:List (ζ×aP)
 xe:ε->η->Prop
def fD(l:List cK):List ζ:=l.filterMap (·.frame)
abbrev Cx.fs(X:Cx):List ζ:=fD X.outer
def GP(sc:eS)(x:ν):Prop:=sc.names.lookup x=some .local∨sc.names.lookup x=some .cell∨sc.names.lookup x=some .free
def Loc(sc:eS)(x:ν):Prop:=sc.names.lookup x=some .local∨sc.names.lookup x=some .cell
def Look(env:cK)(h:Ψ)(m:ν->Option ε)(x:ν)(u:ε):Prop:=
 (env.kindOf x=some .local/\m x=some u)∨((env.kindOf x=some .cell∨env.kindOf x=some .free)/\∃c,env.cells.lookup x=some c/\h.IsCell c (some u))
structure Cx.Ok(X:Cx):Prop where
 mod:Mod X.K X.mg X.base
 kind:X.env.scope.kind=.function
 glob:X.env.globals=aT
 blt:X.env.builtins=builtinsNs
 above:X.s₀.heap.objs.size≤X.env.locals
 inj:∀x y c,X.env.cells.lookup x=some c->X.env.cells.lookup y=some c->x=y
 has:∀x,(X.env.kindOf x=some .cell∨X.env.kindOf x=some .free)->∃c,X.env.cells.lookup x=some c
 Ab:∀x c,X.fn x=true->X.env.cells.lookup x=some c->X.s₀.heap.objs.size≤c
 hd:X.calm=true->X.A.handled=none
 frames:X.A.frames=some X.stack
 zR:X.stack=X.outer∨(X.stack=X.env::X.outer/\X.env.frame=some X.env.locals)
 C6:∀b∈X.ex,b≠X.env.locals/\∀x c,X.env.cells.lookup x=some c->c≠b
 bs:∀b o,X.base.get? b=some o->X.s₀.heap.get? b=some o/\X.H₀ b=none
 qt:X.base.objs.size≤X.s₀.heap.objs.size
 vV:∀b o,X.base.get? b=some o->b∉X.ex
 xG:∀b∈X.ex,b∉X.fs
 ll:X.s₀.heap.FunFrames X.base X.outer
 wF:∀b∈X.fs,X.H₀ b=none
structure Inv(X:Cx)(pins:List (ζ×aP))(σ:List (Option V))(H:Hp)(s:η):Prop where
 ok:X.Ok
 os:s.os=X.s₀.os
 bare:ky s.gens
 base:Un X.fs X.ex X.H₀ H X.s₀.heap s.heap
 loc:∃m,s.heap.Ns X.env.locals m/\∀(i:Nat) (x:ν) (v:V),X.N[i]?=some x->σ[i]?=some (some v)->GP X.env.scope x->∃u,RelV v u/\Look X.env s.heap m x u
 cell:∀x c,X.env.cells.lookup x=some c->∃v,s.heap.IsCell c v
 free:H X.env.locals=none
 km:∀x c,X.env.cells.lookup x=some c->H c=none
 pin:∀p∈X.pn++pins,s.heap.get? p.1=some p.2/\H p.1=none/\p.1≠X.env.locals/\p.1∉X.fs/\∀v,p.2.data≠.cell v
 bF:dZ X.prog X.w H s.heap
 len:σ.length=X.N.length
section
variable {X:Cx} {pins:List (ζ×aP)} {σ:List (Option V)} {H H':Hp} {s:η} {h':Ψ}
theorem Cx.Ok.aab(ok:X.Ok){b:ζ}{o:aP}(e:X.base.get? b=some o):b∉X.fs:=fun hb=>by
 have:=(ok.ll.mem hb).1;rw[e] at this;cases this
theorem Inv.bs(I:Inv X pins σ H s):∀b o,X.base.get? b=some o->s.heap.get? b=some o/\H b=none:=fun b o e=>
 ⟨I.base.keep b o (I.ok.bs b o e).1 (I.ok.bs b o e).2 (I.ok.aab e) (I.ok.vV b o e),I.base.free b o (I.ok.bs b o e).1 (I.ok.bs b o e).2 (I.ok.vV b o e)⟩
theorem Inv.bk(I:Inv X pins σ H s):∀b o,X.base.get? b=some o->s.heap.get? b=some o:=fun b o e=>(I.bs b o e).1
theorem Inv.mod(I:Inv X pins σ H s):Mod X.K X.mg X.base:=I.ok.mod
theorem Inv.gk(I:Inv X pins σ H s):X.K.In s.heap:=I.ok.mod.pH.keeps I.bk
theorem Inv.nolimit(I:Inv X pins σ H s):s.heap.NoLimit:=I.ok.mod.nolimit.keeps I.bk
theorem Inv.lt(I:Inv X pins σ H s):X.env.locals<s.heap.objs.size:=let ⟨_,hn,_⟩:=I.loc;hn.lt
theorem Inv.sz(I:Inv X pins σ H s):X.s₀.heap.objs.size≤s.heap.objs.size:=aA I.ok.above (pW I.lt)
theorem Inv.aaa(I:Inv X pins σ H s){a:ζ}(h:s.heap.objs.size≤a):a∉X.fs:=fun hb=>by
 obtain⟨_,o,ho,_⟩:=I.ok.ll.mem hb;exact absurd (aX (Ξ ho) (aA I.sz h)) (bU _)
theorem Inv.xP(I:Inv X pins σ H s):∀x c,X.env.cells.lookup x=some c->c≠X.env.locals:=fun x c e z=>by
 obtain⟨v,o,ho,hd⟩:=I.cell x c e;obtain⟨m,⟨o',es,ep,ho',hd',_⟩,_⟩:=I.loc;rw[z,ho'] at ho;cases ho;rw[hd'] at hd;cases hd
theorem Inv.ll(I:Inv X pins σ H s):s.heap.FunFrames X.base X.outer:=by
 have all:∀(l:List cK),(∀b∈fD l,b∈X.fs)->X.s₀.heap.FunFrames X.base l->s.heap.FunFrames X.base l:=by
  intro l
  induction l with
  |nil=>intro _ _;trivial
  |cons env r ih=>
   intro hs hl;obtain⟨hk,⟨L,o,hf,hn,ho,hd⟩,hr⟩:=hl;have hL:L∈X.fs:=hs L (by unfold fD;rw[eP,hf];exact χ);obtain⟨sl,e⟩:=I.base.slot L o ho (I.ok.wF L hL) hL fun z=>I.ok.xG L z hL;exact⟨hk,⟨L,_,hf,hn,e,hd⟩,ih (fun b hb=>hs b (by unfold fD;rw[eP,hf];exact ψ _ hb)) hr⟩
 exact all X.outer (fun _ hb=>hb) I.ok.ll
theorem Inv.stack(I:Inv X pins σ H s):s.heap.FunFrames X.base X.stack:=by
 rcases I.ok.zR with e|⟨e,hf⟩
 ·rw[e];exact I.ll
 ·rw[e];obtain⟨m,hn,_⟩:=I.loc;refine .cons (by rw[I.ok.kind];decide) hf hn ?_ I.ll;exact fv (aA I.ok.qt I.ok.above)
theorem Inv.tR(I:Inv X pins σ H s):∀b∈fD X.stack,b∈X.env.locals::X.fs:=fun b hb=>by
 rcases I.ok.zR with e|⟨e,hf⟩
 ·rw[e] at hb;exact ψ _ hb
 ·rw[e] at hb;unfold fD at hb;rw[eP,hf] at hb;exact hb
theorem Inv.fw(I:Inv X pins σ H s):∀b∈fD X.stack,H b=none:=fun b hb=>by
 rcases Δ.mp (I.tR b hb) with e|hb
 ·rw[e];exact I.free
 ·obtain⟨_,o,ho,_⟩:=I.ok.ll.mem hb;exact I.base.free b o ho (I.ok.wF b hb) fun z=>I.ok.xG b z hb
theorem Inv.step{g':Array ly}{t':Nat}{d':Drawn}{ch:List ζ}(I:Inv X pins σ H s)
  (ve:∀b∈ch,(b∈X.ex∨X.s₀.heap.objs.size≤b)/\b≠X.env.locals/\(∀x c,X.env.cells.lookup x=some c->c≠b)/\∀p∈X.pn++pins,p.1≠b)
  (keep:∀b o,b≠X.env.locals->b∉X.fs->b∉ch->s.heap.get? b=some o->H b=none->h'.get? b=some o)
  (slot:∀b o,b≠X.env.locals->b∈X.fs->b∉ch->s.heap.get? b=some o->H b=none->∃sl,h'.get? b=some { o with slots:=sl }) (free:∀b o,b∉ch->s.heap.get? b=some o->H b=none->H' b=none)
  (there:∀b o,b∉ch->s.heap.get? b=some o->∃o',h'.get? b=some o')
  (iD:∀b xs,H b=some (.tup xs)->H' b=some (.tup xs)) (iH:∀b o u,H b=some (.cT o u)->H' b=some (.cT o u)) (nN:∀b ps,H b=some (.wj ps)->∃more,H' b=some (.wj (ps++more)))
  (ns:∀m,s.heap.Ns X.env.locals m->h'.Ns X.env.locals m) (bF:dZ X.prog X.w H' h') (hg:ky g'):
  Inv X pins σ H' { s with heap:=h',gens:=g',drawn:=d',toks:=t' }:=by
 have neL:∀b o,X.s₀.heap.get? b=some o->b≠X.env.locals:=fun b o e=>aW (aX (Ξ e) I.ok.above);have neC:∀b o,X.s₀.heap.get? b=some o->b∉X.ex->b∉ch:=fun b o e hx hb=>by
  rcases (ve b hb).1 with z|z
  ·exact hx z
  ·exact absurd (aX (Ξ e) z) (bU _)
 have cellK:∀x c,X.env.cells.lookup x=some c->∀v,s.heap.IsCell c v->h'.IsCell c v:=fun x c e v ⟨o,ho,hd⟩=>by
  have nch:c∉ch:=fun z=>(ve c z).2.2.1 x c e rfl;by_cases hc:c∈X.fs
  ·obtain⟨sl,q⟩:=slot c o (I.xP x c e) hc nch ho (I.km x c e);exact⟨_,q,hd⟩
  ·exact⟨o,keep c o (I.xP x c e) hc nch ho (I.km x c e),hd⟩
 refine⟨I.ok,I.os,hg,⟨fun b o e n hb hx=>?_,fun b o e n hb hx=>?_,fun b o e n hx=>?_,fun b o e hx=>?_,fun b xs e=>iD b xs (I.base.iD b xs e),fun b o xs e=>iH b o xs (I.base.iH b o xs e),fun b ps e=>?_⟩,?_,fun x c e=>?_,?_,fun x c e=>?_,fun p hp=>?_,bF,I.len⟩
 ·exact keep b o (neL b o e) hb (neC b o e hx) (I.base.keep b o e n hb hx) (I.base.free b o e n hx)
 ·obtain⟨sl,e1⟩:=I.base.slot b o e n hb hx;obtain⟨sl',e2⟩:=slot b _ (neL b o e) hb (neC b o e hx) e1 (I.base.free b o e n hx);exact⟨sl',e2⟩
 ·obtain⟨o',e1⟩:=I.base.there b o e hx;exact free b o' (neC b o e hx) e1 (I.base.free b o e n hx)
 ·obtain⟨o',e1⟩:=I.base.there b o e hx;exact there b o' (neC b o e hx) e1
 ·obtain⟨m1,e1⟩:=I.base.nN b ps e;obtain⟨m2,e2⟩:=nN b _ e1;exact⟨m1++m2,by rw[e2,Array.append_assoc]⟩
 ·obtain⟨m,hn,hl⟩:=I.loc;refine⟨m,ns m hn,fun i x v e1 e2 e3=>?_⟩;obtain⟨u,r,l⟩:=hl i x v e1 e2 e3;refine⟨u,r,?_⟩;rcases l with l|⟨k,c,e,z⟩
  ·exact .inl l
  ·exact .inr ⟨k,c,e,cellK x c e _ z⟩
 ·obtain⟨v,z⟩:=I.cell x c e;exact⟨v,cellK x c e v z⟩
 ·obtain⟨m,⟨o,_,_,ho,_⟩,_⟩:=I.loc;exact free _ o (fun z=>(ve _ z).2.1 rfl) ho I.free
 ·obtain⟨v,o,ho,hd⟩:=I.cell x c e;exact free c o (fun z=>(ve c z).2.2.1 x c e rfl) ho (I.km x c e)
 ·obtain⟨e,n,ne,nf,d⟩:=I.pin p hp;have nch:p.1∉ch:=fun z=>(ve p.1 z).2.2.2 p hp rfl;exact⟨keep p.1 p.2 ne nf nch e n,free p.1 p.2 nch e n,ne,nf,d⟩
theorem Inv.un{t':Nat}(I:Inv X pins σ H s)(u:Un X.fs [] H H' s.heap h')(bF:dZ X.prog X.w H' h'):Inv X pins σ H' { s with heap:=h',toks:=t' }:=by
 obtain⟨m,⟨o,es,ep,ho,r⟩,_⟩:=id I.loc;obtain⟨sl,hL⟩:=u.any ho I.free (by simp);exact I.step (g':=s.gens) (d':=s.drawn) (ch:=[]) (fun _ z=>nomatch z) (fun b o _ hb _ e n=>u.keep b o e n hb (by simp)) (fun b o _ hb _ e n=>u.slot b o e n hb (by simp)) (fun b o _ e n=>u.free b o e n (by simp)) (fun b o _ e=>u.there b o e (by simp)) u.iD u.iH u.nN (fun m' hm=>by
  obtain⟨o',es',ep',ho',r'⟩:=hm;rw[ho] at ho';cases ho';exact⟨_,es',ep',hL,r'⟩) bF I.bare
theorem Inv.call{g':Array ly}{t':Nat}{d':Drawn}{ch:List ζ}(I:Inv X pins σ H s)(u:Un (fD X.stack) ch H H' s.heap h')(bF:dZ X.prog X.w H' h')(hg:ky g')
  (ve:∀b∈ch,(b∈X.ex∨X.s₀.heap.objs.size≤b)/\b≠X.env.locals/\(∀x c,X.env.cells.lookup x=some c->c≠b)/\∀p∈X.pn++pins,p.1≠b):
  Inv X pins σ H' { s with heap:=h',gens:=g',drawn:=d',toks:=t' }:=by
 obtain⟨m,⟨o,es,ep,ho,r⟩,_⟩:=id I.loc;obtain⟨sl,hL⟩:=u.any ho I.free fun z=>(ve _ z).2.1 rfl;exact I.step (ch:=ch) ve (fun b o hL hb hc e n=>u.keep b o e n (fun z=>(Δ.mp (I.tR b z)).elim hL hb) hc) (fun b o _ _ hc e n=>u.any e n hc) (fun b o hc e n=>u.free b o e n hc) (fun b o hc e=>u.there b o e hc) u.iD u.iH u.nN (fun m' hm=>by
  obtain⟨o',es',ep',ho',r'⟩:=hm;rw[ho] at ho';cases ho';exact⟨_,es',ep',hL,r'⟩) bF hg
theorem Inv.turned{t':Nat}{it:ζ}(I:Inv X pins σ H s)(k:∀b o,b≠it->s.heap.get? b=some o->h'.get? b=some o)(hn:H it=none)(hL:it≠X.env.locals)
  (h1:it∈X.ex∨X.s₀.heap.objs.size≤it) (h2:∀x c,X.env.cells.lookup x=some c->c≠it) (h3:∀p∈X.pn++pins,p.1≠it):Inv X pins σ H { s with heap:=h',toks:=t' }:=by
 have nit:∀b u,H b=some u->b≠it:=fun b u e z=>by rw[z,hn] at e;cases e
 refine I.step (g':=s.gens) (d':=s.drawn) (ch:=[it]) (fun b hb=>?_) (fun b o _ _ hc e _=>k b o (fun z=>hc (by simp[z])) e) (fun b o _ _ hc e _=>⟨o.slots,k b o (fun z=>hc (by simp[z])) e⟩) (fun _ _ _ _ n=>n)
  (fun b o hc e=>⟨o,k b o (fun z=>hc (by simp[z])) e⟩) (fun _ _ e=>e) (fun _ _ _ e=>e) (fun b ps e=>⟨#[],by rw[e];simp⟩) (fun m hm=>?_) (fun b u e=>?_) I.bare
 ·have e:b=it:=by simpa using hb
  subst e;exact⟨h1,hL,h2,h3⟩
 ·obtain⟨o,es,ep,ho,r⟩:=hm;exact⟨o,es,ep,k _ o (di hL) ho,r⟩
 ·refine (I.bF b u e).lg (fun c v hc q=>k c v ?_ q) (fun _ q=>q) fun _ _ q=>q;rcases hc with z|z
  ·rw[z];exact nit b u e
  ·exact nit c _ z
theorem Inv.tok(I:Inv X pins σ H s)(t:Nat):Inv X pins σ H { s with toks:=t }:=I.un (h':=s.heap) (t':=t) Un.refl I.bF
theorem Inv.kept{t':Nat}(I:Inv X pins σ H s)(k:∀b u,s.heap.get? b=some u->h'.get? b=some u):Inv X pins σ H { s with heap:=h',toks:=t' }:=I.un (Un.kept k) (I.bF.kept k)
theorem Inv.laid{a:ζ}{o:HO}{t':Nat}(I:Inv X pins σ H s)(k:∀b u,s.heap.get? b=some u->h'.get? b=some u)(hp:s.heap.objs.size≤a)(new:bV X.prog X.w (upd H a o) h' a o):
  Inv X pins σ (upd H a o) { s with heap:=h',toks:=t' }:=I.un (Un.laid k hp (I.bF.fresh hp)) (I.bF.laid k hp new)
theorem Inv.write{x e:ζ}{o:HO}{t':Nat}(I:Inv X pins σ H s)(mu:Dg (H x))(he:e=x∨H e=some (.own x))(k:∀b u,b≠e->s.heap.get? b=some u->h'.get? b=some u)(heo:∃u,h'.get? e=some u)
  (new:bV X.prog X.w (upd H x o) h' x o):Inv X pins σ (upd H x o) { s with heap:=h',toks:=t' }:=I.un (Un.write mu he k heo) (I.bF.write mu he k heo new)
theorem Inv.xy{pins':List (ζ×aP)}(I:Inv X pins σ H s)(h:∀p∈pins',s.heap.get? p.1=some p.2/\H p.1=none/\p.1≠X.env.locals/\p.1∉X.fs/\∀v,p.2.data≠.cell v):Inv X pins' σ H s:=
 ⟨I.ok,I.os,I.bare,I.base,I.loc,I.cell,I.free,I.km,fun p hp=>(bL.mp hp).elim (fun z=>I.pin p (cY _ z)) (h p),I.bF,I.len⟩
theorem LR{N:List ν}(hN:N.Nodup){i j:Nat}{x:ν}(a:N[i]?=some x)(b:N[j]?=some x):i=j:=by
 obtain⟨h1,e1⟩:=ak.mp a;obtain⟨h2,e2⟩:=ak.mp b;exact (List.getElem_inj hN).mp (e1.trans e2.symm)
theorem EY{M:Model}{A:aE}{E:ε->η->Prop}{i:Nat}{x:ν}{v:V}{u:ε}{Q:Unit->η->Prop}(I:Inv X pins σ H s)(hN:X.N.Nodup)(hi:X.N[i]?=some x)(hx:Loc X.env.scope x)(r:RelV v u)
  (h:∀s',Inv X pins (σ.set i (some v)) H s'->(∃a,et a s.heap s'.heap/\(a=X.env.locals∨X.env.cells.lookup x=some a))->Q () s') (hf:X.fn x=true∨X.env.scope.names.lookup x=some .local:=by first|exact .inl rfl|exact .inr rfl|assumption):ξ M A (storeName X.env x u) Q E s:=by
 obtain⟨m,hn,hl⟩:=id I.loc;have hcls:(X.env.scope.kind==.class||(X.env.scope.kind==.module&&X.env.locals != X.env.globals))=false:=by rw[I.ok.kind];rfl
 have hiσ:i<σ.length:=by rw[I.len];exact (ak.mp hi).1
 have xP:=I.xP;have tracked:∀{a:ζ} {h':Ψ},(∃o,s.heap.get? a=some o/\H a=none)->et a s.heap h'->dZ X.prog X.w H h':=fun {a h'} ha hs b ob e=>by
  obtain⟨_,_,hfree⟩:=ha;refine (I.bF b ob e).lg (fun c w' hc q=>(hs.2 c ?_).trans q) (fun _ q=>q) fun _ _ q=>q;rintro rfl;rcases hc with rfl|hc
  ·rw[hfree] at e;cases e
  ·rw[hfree] at hc;cases hc
 rcases hx with hk|hk
 ·refine wpAny_storeName_local hk hn (fun h' hn' hs=>?_) hcls;obtain⟨oL,_,_,hoL,_⟩:=id hn;refine h _ ⟨I.ok,I.os,I.bare,⟨fun b o e n hb hx=>?_,fun b o e n hb hx=>?_,I.base.free,fun b o e hx=>?_,I.base.iD,I.base.iH,I.base.nN⟩,⟨_,hn',fun j y v' e1 e2 e3=>?_⟩,fun y c e=>?_,I.free,I.km,fun p hp=>?_,tracked ⟨oL,hoL,I.free⟩ hs,by simpa using I.len⟩ ⟨_,hs,.inl rfl⟩
  ·exact (hs.2 b (aW (aX (Ξ e) I.ok.above))).trans (I.base.keep b o e n hb hx)
  ·obtain⟨sl,e1⟩:=I.base.slot b o e n hb hx;exact⟨sl,(hs.2 b (aW (aX (Ξ e) I.ok.above))).trans e1⟩
  ·obtain⟨o',e1⟩:=I.base.there b o e hx;exact⟨o',(hs.2 b (aW (aX (Ξ e) I.ok.above))).trans e1⟩
  ·by_cases hj:j=i
   ·subst hj;rw[hi] at e1;cases e1;rw[kT hiσ] at e2;cases e2;exact⟨u,r,.inl ⟨hk,by simp⟩⟩
   ·rw[mq (di hj)] at e2;obtain⟨u',r',q⟩:=hl j y v' e1 e2 e3;refine⟨u',r',?_⟩;rcases q with⟨k,e⟩|⟨k,c,e,z⟩
    ·refine .inl ⟨k,?_⟩;have:y≠x:=fun e=>hj (LR hN e1 (e▸hi));simp[this,e]
    ·exact .inr ⟨k,c,e,z.sameBut hs (xP y c e)⟩
  ·obtain⟨w',z⟩:=I.cell y c e;exact⟨w',z.sameBut hs (xP y c e)⟩
  ·obtain⟨e,n,ne,nf,d⟩:=I.pin p hp;exact⟨(hs.2 p.1 ne).trans e,n,ne,nf,d⟩
 ·have hfn:X.fn x=true:=by
   rcases hf with z|z
   ·exact z
   ·rw[z] at hk;cases hk
  obtain⟨c,hc⟩:=I.ok.has x (.inl hk);obtain⟨w',z⟩:=I.cell x c hc;refine wpAny_storeName_cell I.ok.kind hk hc z (fun h' hc' hs=>?_);obtain⟨oc,hoc,hocd⟩:=id z;refine h { s with heap:=h' } ⟨I.ok,I.os,I.bare,⟨fun b o e n hb hx=>?_,fun b o e n hb hx=>?_,I.base.free,fun b o e hx=>?_,I.base.iD,I.base.iH,I.base.nN⟩,⟨m,hn.sameBut hs (di (xP x c hc)),fun j y v' e1 e2 e3=>?_⟩,fun y c' e=>?_,I.free,I.km,fun p hp=>?_,tracked ⟨oc,hoc,I.km x c hc⟩ hs,by simpa using I.len⟩ ⟨c,hs,.inr hc⟩
  ·exact (hs.2 b (aW (aX (Ξ e) (I.ok.Ab x c hfn hc)))).trans (I.base.keep b o e n hb hx)
  ·obtain⟨sl,e1⟩:=I.base.slot b o e n hb hx;exact⟨sl,(hs.2 b (aW (aX (Ξ e) (I.ok.Ab x c hfn hc)))).trans e1⟩
  ·obtain⟨o',e1⟩:=I.base.there b o e hx;exact⟨o',(hs.2 b (aW (aX (Ξ e) (I.ok.Ab x c hfn hc)))).trans e1⟩
  ·by_cases hj:j=i
   ·subst hj;rw[hi] at e1;cases e1;rw[kT hiσ] at e2;cases e2;exact⟨u,r,.inr ⟨.inl hk,c,hc,hc'⟩⟩
   ·rw[mq (di hj)] at e2;obtain⟨u',r',q⟩:=hl j y v' e1 e2 e3;refine⟨u',r',?_⟩;rcases q with q|⟨k,c',e,z'⟩
    ·exact .inl q
    ·refine .inr ⟨k,c',e,z'.sameBut hs ?_⟩;rintro rfl;exact hj (LR hN e1 (I.ok.inj _ _ _ e hc▸hi))
  ·by_cases hcc:c'=c
   ·subst hcc;exact⟨_,hc'⟩
   ·obtain⟨w2,z2⟩:=I.cell y c' e;exact⟨w2,z2.sameBut hs hcc⟩
  ·obtain⟨e,n,ne,nf,d⟩:=I.pin p hp;refine⟨(hs.2 p.1 ?_).trans e,n,ne,nf,d⟩;intro q;rw[q,hoc] at e;have q':oc=p.2:=aD e;exact d w' (by rw[←q'];exact hocd)
theorem vO{M:Model}{A:aE}{E:ε->η->Prop}{i:Nat}{x:ν}{v:V}{u:ε}{Q:Unit->η->Prop}(I:Inv X pins σ H s)(hN:X.N.Nodup)(hi:X.N[i]?=some x)(hx:Loc X.env.scope x)(r:RelV v u)
  (h:∀s',Inv X pins (σ.set i (some v)) H s'->Q () s') (hf:X.fn x=true∨X.env.scope.names.lookup x=some .local:=by first|exact .inl rfl|exact .inr rfl|assumption):ξ M A (storeName X.env x u) Q E s:=
 EY I hN hi hx r (fun s' I' _=>h s' I') hf
theorem Inv.Co{s':η}{ch:List ζ}(I:Inv X pins σ H s)(ho:s'.os=s.os)(u:Un (fD X.stack) ch H H' s.heap s'.heap)(bF:dZ X.prog X.w H' s'.heap)(hg:ky s'.gens)
  (ve:∀b∈ch,(b∈X.ex∨X.s₀.heap.objs.size≤b)/\b≠X.env.locals/\(∀x c,X.env.cells.lookup x=some c->c≠b)/\∀p∈X.pn++pins,p.1≠b):Inv X pins σ H' s':=by
 obtain⟨h',g',d',t',o'⟩:=s';have e:o'=s.os:=ho;subst e;exact I.call (g':=g') (t':=t') (d':=d') u bF hg ve
end
abbrev XK:=ε->Option ζ->Hp->Prop
abbrev St:=List (Option V)
abbrev VK:=V->Hp->Prop
abbrev TE:=St->Hp->VK->Prop
abbrev TT:=St->Hp->(Bool->Hp->Prop)->Prop
abbrev TA:=St->Hp->(List V->Hp->Prop)->Prop
structure Ends where
 nx:St->Hp->Prop
 rt:VK
 bk:St->Hp->Prop:=fun _ _=>False
 ct:St->Hp->Prop:=fun _ _=>False
abbrev TS:=Ends->St->Hp->Prop
def EP(X:Cx)(pins:List (ζ×aP))(σ:St)(Q:VK)(u:ε)(s':η):Prop:=∃v H',Inv X pins σ H' s'/\RelV v u/\Q v H'
def TP(X:Cx)(pins:List (ζ×aP))(σ:St)(Q:Bool->Hp->Prop)(b:Bool)(s':η):Prop:=∃H',Inv X pins σ H' s'/\Q b H'
def AP(X:Cx)(pins:List (ζ×aP))(σ:St)(Q:List V->Hp->Prop)(us:List ε)(s':η):Prop:=∃vs H',Inv X pins σ H' s'/\bp vs us/\Q vs H'
def SP(X:Cx)(pins:List (ζ×aP))(D:Ends)(f:Flow)(s':η):Prop:=
 match f with
 |.next=>∃σ' H',Inv X pins σ' H' s'/\D.nx σ' H'
 |.brk=>∃σ' H',Inv X pins σ' H' s'/\D.bk σ' H'
 |.cont=>∃σ' H',Inv X pins σ' H' s'/\D.ct σ' H'
 |.ret u=>∃v σ' H',Inv X pins σ' H' s'/\RelV v u/\D.rt v H'
def PE(X:Cx)(e:ρ)(t:TE):Prop:=
 ∀(pins:List (ζ×aP)) (s:η) (σ:St) (H:Hp) (Q:VK),Inv X pins σ H s->t σ H Q->ξ (model X.prog X.w) X.A (eval e X.env) (EP X pins σ Q) X.xe s
def PT(X:Cx)(e:ρ)(t:TT):Prop:=
 ∀(pins:List (ζ×aP)) (s:η) (σ:St) (H:Hp) (Q:Bool->Hp->Prop),Inv X pins σ H s->t σ H Q->ξ (model X.prog X.w) X.A (isTrue e X.env (eval e X.env)) (TP X pins σ Q) X.xe s
def PW(X:Cx)(e:ρ)(t:TT):Prop:=
 ∀(whole:j5 ε) (pins:List (ζ×aP)) (s:η) (σ:St) (H:Hp) (Q:Bool->Hp->Prop),Inv X pins σ H s->t σ H Q->ξ (model X.prog X.w) X.A (isTrue e X.env whole) (TP X pins σ Q) X.xe s
theorem PW.pt{X:Cx}{e:ρ}{t:TT}(h:PW X e t):PT X e t:=h _
def PA(X:Cx)(es:List ρ)(t:TA):Prop:=
 ∀(pos:aO) (pins:List (ζ×aP)) (s:η) (σ:St) (H:Hp) (Q:List V->Hp->Prop),Inv X pins σ H s->t σ H Q->ξ (model X.prog X.w) X.A (spliced (backTo pos (bM es X.env))) (AP X pins σ Q) X.xe s
def PS(X:Cx)(st:aQ)(t:TS):Prop:=
 ∀(pins:List (ζ×aP)) (s:η) (σ:St) (H:Hp) (D:Ends),Inv X pins σ H s->t D σ H->ξ (model X.prog X.w) X.A (exec st X.env) (SP X pins D) X.xe s
def ma(X:Cx)(st:List aQ)(t:TS):Prop:=
 ∀(pins:List (ζ×aP)) (s:η) (σ:St) (H:Hp) (D:Ends),Inv X pins σ H s->t D σ H->ξ (model X.prog X.w) X.A (execs st X.env) (SP X pins D) X.xe s
theorem bJ{α:Type}{t:j5 α}{Q Q':α->η->Prop}{M:Model}{A:aE}{E:ε->η->Prop}{s:η}(h:ξ M A t Q E s)(hQ:∀a s,Q a s->Q' a s):ξ M A t Q' E s:=cb h hQ fun _ _ x=>x
end L2
namespace L2
open PySem PySem.Spec PyProof.Rows
section
variable {X:Cx}
theorem bin{a b:ρ}{ta tb:TE}(ha:PE X a ta)(hb:PE X b tb){pins:List (ζ×aP)}{s:η}{σ:St}{H:Hp}{R:V->V->Hp->Prop}(I:Inv X pins σ H s)(h:ta σ H fun x H1=>tb σ H1 fun y H2=>R x y H2)
  {α:Type} {Q:α->η->Prop} {f:ε->ε->j5 α}
  (hf:∀v u s2 x y H2,Inv X pins σ H2 s2->RelV x v->RelV y u->R x y H2->ξ (model X.prog X.w) X.A (f v u) Q X.xe s2):
  ξ (model X.prog X.w) X.A (eval a X.env) (fun v s₁=>ξ (model X.prog X.w) X.A (eval b X.env) (fun u s₂=>ξ (model X.prog X.w) X.A (f v u) Q X.xe s₂) X.xe s₁) X.xe s:=by
 refine bJ (ha pins s σ H _ I h) fun v s1 ⟨x,H1,I1,r1,q1⟩=>?_;refine bJ (hb pins s1 σ H1 _ I1 q1) fun u s2 ⟨y,H2,I2,r2,q2⟩=>?_;exact hf v u s2 x y H2 I2 r1 r2 q2
def Ag(i:Nat):TE:=fun σ H Q=>∃v,σ[i]?=some (some v)/\Q v H
def tC(v:V):TE:=fun _ H Q=>Q v H
theorem WL{i:Nat}{x:ν}{pos:aO}(hN:X.N[i]?=some x)(hv:GP X.env.scope x)(hd:(x==("__debug__":ν))=false:=by decide)(iq:(x==("__classdict__":ν))=false:=by decide):PE X (.Name x pos) (Ag i):=by
 intro pins s σ H Q I h;obtain⟨v,e,h⟩:=h;obtain⟨m,hn,hl⟩:=I.loc;obtain⟨u,r,l⟩:=hl i x v hN e hv;have fin:EP X pins σ Q u s:=⟨v,H,I,r,h⟩;rcases l with⟨hk,hm⟩|⟨hk,c,hc,hcell⟩
 ·exact oQ (i3 I.ok.kind hk hn hm fin) hd
 ·rcases hk with hk|hk
  ·exact oQ (wpAny_loadName_cell I.ok.kind hk hc hcell fin) hd
  ·exact oQ (wpAny_loadName_free I.ok.kind hk hc hcell fin iq) hd
theorem WK{i j pos}:PE X (.Constant (.int i) j pos) (tC (.int i)):=fun _ _ _ H _ I h=>wpAny_Constant_int ⟨.int i,H,I.tok _,⟨_,rfl⟩,h⟩
theorem WJ{b j pos}:PE X (.Constant (.bool b) j pos) (tC (.bl b)):=fun _ _ _ H _ I h=>Constant_bool ⟨.bl b,H,I,rfl,h⟩
theorem L6{j pos}:PE X (.Constant .none j pos) (tC .aC):=fun _ _ _ H _ I h=>Constant_none ⟨.aC,H,I,rfl,h⟩
theorem W3{x j pos}:PE X (.Constant (.str x) j pos) (tC (.str x)):=fun _ _ _ H _ I h=>Calls.Constant_str ⟨.str x,H,I.tok _,⟨_,rfl⟩,h⟩
def Gl(X:Cx)(x:ν):Prop:=X.env.kindOf x=some .globalImplicit
theorem qK{E:ε->η->Prop}{pins:List (ζ×aP)}{s:η}{σ:St}{H:Hp}{x:ν}{u:ε}{pos:aO}{Q:ε->η->Prop}(I:Inv X pins σ H s)(hg:Gl X x)(hm:X.mg x=some u)(h:Q u s)
  (hd:(x==("__debug__":ν))=false:=by decide):ξ (model X.prog X.w) X.A (eval (.Name x pos) X.env) Q E s:=
 nW I.ok.kind hg (Calls.loadGlobal_global (by rw[I.ok.glob];exact I.mod.glob.keeps I.bk) hm h) hd
theorem se{E:ε->η->Prop}{pins:List (ζ×aP)}{s:η}{σ:St}{H:Hp}{x:ν}{u:ε}{pos:aO}{Q:ε->η->Prop}(I:Inv X pins σ H s)(hg:Gl X x)(hm:X.mg x=none)(hv:gM x=some u)(h:Q u s)
  (hn:x≠"__name__":=by decide) (hd:(x==("__debug__":ν))=false:=by decide):ξ (model X.prog X.w) X.A (eval (.Name x pos) X.env) Q E s:=by
 obtain⟨mb,h1,h2⟩:=I.mod.blt;exact nW I.ok.kind hg (Calls.loadGlobal_builtin (by rw[I.ok.glob];exact I.mod.glob.keeps I.bk) hm (by rw[I.ok.blt];exact h1.keeps I.bk) ((h2 x hn).trans hv) h) hd
theorem L5{x:ν}{v:V}{u:ε}{pos:aO}(hg:Gl X x)(hm:X.mg x=some u)(r:RelV v u)(hd:(x==("__debug__":ν))=false:=by decide):PE X (.Name x pos) (tC v):=
 fun _ _ _ H _ I h=>qK I hg hm ⟨v,H,I,r,h⟩ hd
theorem L4{x:ν}{v:V}{u:ε}{pos:aO}(hg:Gl X x)(hm:X.mg x=none)(hv:gM x=some u)(r:RelV v u)(hn:x≠"__name__":=by decide)(hd:(x==("__debug__":ν))=false:=by decide):PE X (.Name x pos) (tC v):=
 fun _ _ _ H _ I h=>se I hg hm hv ⟨v,H,I,r,h⟩ hn hd
variable {a b:ρ} {ta tb:TE} {pos:aO}
variable {tA tB':TT} {rest:List ρ}
def Oc(t u:TT):TT:=fun σ H Q=>t σ H fun c H1=>if c=true then u σ H1 Q else Q false H1
def tOr(t u:TT):TT:=fun σ H Q=>t σ H fun c H1=>if c=true then Q true H1 else u σ H1 Q
def N8(t:TT):TT:=fun σ H Q=>t σ H fun c H1=>Q (!c) H1
theorem pw_and1(ha:PT X a tA):PW X (.BoolOp .And [a] pos) tA:=by
 intro wh pins s σ H Q I h;refine isTrue_and (bJ (ha pins s σ H Q I h) fun c s1 e=>?_);cases c with
 |true=>exact isTrue_and_nil e
 |false=>exact e
theorem pw_or1(ha:PT X a tA):PW X (.BoolOp .Or [a] pos) tA:=by
 intro wh pins s σ H Q I h;refine isTrue_or (bJ (ha pins s σ H Q I h) fun c s1 e=>?_);cases c with
 |false=>exact isTrue_or_nil e
 |true=>exact e
theorem pw_and(ha:PT X a tA)(hb:PW X (.BoolOp .And (b::rest) pos) tB'):PW X (.BoolOp .And (a::b::rest) pos) (Oc tA tB'):=by
 intro wh pins s σ H Q I h;refine isTrue_and (bJ (ha pins s σ H _ I h) fun c s1 ⟨H1,I1,q1⟩=>?_);cases c with
 |true=>exact hb wh pins s1 σ H1 Q I1 q1
 |false=>exact⟨H1,I1,q1⟩
theorem pw_or(ha:PT X a tA)(hb:PW X (.BoolOp .Or (b::rest) pos) tB'):PW X (.BoolOp .Or (a::b::rest) pos) (tOr tA tB'):=by
 intro wh pins s σ H Q I h;refine isTrue_or (bJ (ha pins s σ H _ I h) fun c s1 ⟨H1,I1,q1⟩=>?_);cases c with
 |true=>exact⟨H1,I1,q1⟩
 |false=>exact hb wh pins s1 σ H1 Q I1 q1
theorem W2(ha:PT X a tA):PT X (.UnaryOp .Not a pos) (N8 tA):=by
 intro pins s σ H Q I h;exact isTrue_not (ha pins s σ H (fun c H1=>Q (!c) H1) I h)
def M5(ta tb:TE):TE:=fun σ H Q=>ta σ H fun x H1=>∃c,x=.bl c/\if c=true then tb σ H1 Q else Q (.bl false) H1
def M1(ta:TE):TE:=fun σ H Q=>ta σ H fun x H1=>∃c,x=.bl c/\Q (.bl (!c)) H1
theorem W1{op}{t:TE}(h:PE X a t):PE X (.BoolOp op [a] pos) t:=fun pins s σ H Q I hw=>BoolOp_one (h pins s σ H Q I hw)
theorem W0(ha:PE X a ta)(hb:PE X (.BoolOp .And (b::rest) pos) tb):PE X (.BoolOp .And (a::b::rest) pos) (M5 ta tb):=by
 intro pins s σ H Q I h;refine BoolOp_and (bJ (ha pins s σ H _ I h) fun v s1 ⟨x,H1,I1,r1,q1⟩=>?_);obtain⟨c,rfl,q1⟩:=q1;cases r1;refine fx ?_;cases c with
 |true=>exact hb pins s1 σ H1 Q I1 q1
 |false=>exact⟨.bl false,H1,I1,rfl,q1⟩
theorem WZ(ha:PE X a ta):PE X (.UnaryOp .Not a pos) (M1 ta):=by
 intro pins s σ H Q I h;refine UnaryOp_ (bJ (ha pins s σ H _ I h) fun v s1 ⟨x,H1,I1,r1,q1⟩=>?_);obtain⟨c,rfl,q1⟩:=q1;cases r1;exact not_of (fx ⟨.bl (!c),H1,I1,rfl,q1⟩)
end
end L2
namespace L2
open PySem PySem.Spec PyProof.Rows
def fM(K:θ)(H:Hp)(a:ζ)(xs:List V):Prop:=
 Rd H a (.lst xs) ∨
  ∃(o:aP) (its:Array ε) (n:Nat),K.lookup a=some o/\o.cls=.type "list"/\o.dict=none/\o.data=.seq its n/\its.size≤au/\bp xs its.toList
def cC(K:θ)(H:Hp)(a:ζ)(xs:List V):Prop:=
 Rd H a (.tup xs) ∨
  ∃(o:aP) (its:Array ε) (n:Nat),K.lookup a=some o/\o.cls=.type "tuple"/\o.dict=none/\o.data=.seq its n/\its.size≤au/\bp xs its.toList
def aaJ:ε->Option V
 |.none=>some .aC
 |.bool b=>some (.bl b)
 |.int i _=>some (.int i)
 |.str x _=>some (.str x)
 |.bytes b _=>some (.C9 b)
 |.float b _=>some (.MC b)
 |.ref a=>some (.ref a)
 |.type n=>some (.ty n)
 |_=>none
theorem RelV.abs{x:V}{u:ε}(r:RelV x u):aaJ u=some x:=by
 cases x with
 |aC=>cases r;rfl
 |bl _=>cases r;rfl
 |int _=>obtain⟨t,rfl⟩:=r;rfl
 |str _=>obtain⟨t,rfl⟩:=r;rfl
 |C9 _=>obtain⟨t,rfl⟩:=r;rfl
 |MC _=>obtain⟨t,rfl⟩:=r;rfl
 |ref _=>cases r;rfl
 |ty _=>cases r;rfl
theorem RelV.inj{x y:V}{u:ε}(r:RelV x u)(q:RelV y u):x=y:=aD (r.abs.symm.trans q.abs)
theorem bp.inj:∀{xs ys:List V} {us:List ε},bp xs us->bp ys us->xs=ys
 |_,_,_,.nil,.nil=>rfl
 |_,_,_,.cons r t,.cons r' t'=>by rw[r.inj r',bp.inj t t']
section
variable {X:Cx} {pins:List (ζ×aP)} {σ:St} {H:Hp} {s:η} {a:ζ} {xs ys:List V}
theorem fM.of{K:θ}(h:H a=some (.lst xs)):fM K H a xs:=.inl (.inl h)
theorem cC.of{K:θ}(h:H a=some (.tup xs)):cC K H a xs:=.inl (.inl h)
theorem Inv.list(I:Inv X pins σ H s)(h:fM X.K H a xs):∃its:List ε,bp xs its/\PlainL s.heap a its.toArray/\xs.length≤au:=by
 rcases h with h|⟨o,its,n,hk,hc,hd,hs,hz,r⟩
 ·obtain⟨z,its,n,r,e⟩:=h.ok I.bF;exact⟨its,r,⟨_,n,e,rfl,rfl,rfl⟩,z⟩
 ·refine⟨its.toList,r,⟨o,n,I.gk a o hk,hc,hd,by simpa using hs⟩,?_⟩;have e:=r.length;simp only[fP] at e;lia
theorem Inv.tuple(I:Inv X pins σ H s)(h:cC X.K H a xs):∃its:List ε,bp xs its/\iB s.heap a its.toArray/\xs.length≤au:=by
 rcases h with h|⟨o,its,n,hk,hc,_,hs,hz,r⟩
 ·obtain⟨z,its,r,p⟩:=h.ok I.bF;exact⟨its,r,p.tup,z⟩
 ·refine⟨its.toList,r,⟨o,I.gk a o hk,hc,n,by simpa using hs⟩,?_⟩;have e:=r.length;simp only[fP] at e;lia
theorem Inv.zo(I:Inv X pins σ H s)(h:fM X.K H a xs)(h':fM X.K H a ys):xs=ys:=by
 obtain⟨its,r,⟨o,n,e,_,_,d⟩,_⟩:=I.list h;obtain⟨its',r',⟨o',n',e',_,_,d'⟩,_⟩:=I.list h';rw[e] at e';cases e';rw[d] at d';injection d' with d1 _
 have:its=its':=by simpa using congrArg qe d1
 subst this;exact r.inj r'
theorem Inv.tP(I:Inv X pins σ H s)(h:cC X.K H a xs)(h':cC X.K H a ys):xs=ys:=by
 obtain⟨its,r,⟨o,e,_,n,d⟩,_⟩:=I.tuple h;obtain⟨its',r',⟨o',e',_,n',d'⟩,_⟩:=I.tuple h';rw[e] at e';cases e';rw[d] at d';injection d' with d1 _
 have:its=its':=by simpa using congrArg qe d1
 subst this;exact r.inj r'
end
abbrev Cx.nM(X:Cx)(E:ε->η->Prop):Cx:={ X with xe:=E }
abbrev Cx.lB(X:Cx):Cx:=X.nM fun _ _=>False
theorem Cx.Ok.nM{X:Cx}(ok:X.Ok)(E:ε->η->Prop):(X.nM E).Ok:=
 ⟨ok.mod,ok.kind,ok.glob,ok.blt,ok.above,ok.inj,ok.has,ok.Ab,ok.hd,ok.frames,ok.zR,ok.C6,ok.bs,ok.qt,ok.vV,ok.xG,ok.ll,ok.wF⟩
theorem Cx.Ok.ja{X:Cx}{E:ε->η->Prop}(ok:(X.nM E).Ok):X.Ok:=
 ⟨ok.mod,ok.kind,ok.glob,ok.blt,ok.above,ok.inj,ok.has,ok.Ab,ok.hd,ok.frames,ok.zR,ok.C6,ok.bs,ok.qt,ok.vV,ok.xG,ok.ll,ok.wF⟩
section
variable {X:Cx} {pins:List (ζ×aP)} {σ:St} {H:Hp} {s:η} {E:ε->η->Prop}
theorem Inv.nM(I:Inv X pins σ H s)(E:ε->η->Prop):Inv (X.nM E) pins σ H s:=⟨I.ok.nM E,I.os,I.bare,I.base,I.loc,I.cell,I.free,I.km,I.pin,I.bF,I.len⟩
theorem Inv.ja(I:Inv (X.nM E) pins σ H s):Inv X pins σ H s:=⟨I.ok.ja,I.os,I.bare,I.base,I.loc,I.cell,I.free,I.km,I.pin,I.bF,I.len⟩
theorem SP.ja{D:Ends}{f:Flow}{s':η}(h:SP (X.nM E) pins D f s'):SP X pins D f s':=by
 cases f with
 |next=>obtain⟨σ',H',I,q⟩:=h;exact⟨σ',H',I.ja,q⟩
 |brk=>obtain⟨σ',H',I,q⟩:=h;exact⟨σ',H',I.ja,q⟩
 |cont=>obtain⟨σ',H',I,q⟩:=h;exact⟨σ',H',I.ja,q⟩
 |ret u=>obtain⟨v,σ',H',I,r,q⟩:=h;exact⟨v,σ',H',I.ja,r,q⟩
theorem ma.lB{st:List aQ}{t:TS}(h:ma X.lB st t):ma X st t:=fun pins s σ H D I hw=>
 cb (h pins s σ H D (I.nM _) hw) (fun _ _ q=>q.ja) fun _ _ z=>br z
end
section
variable {X:Cx} {st:aQ} {rest:List aQ} {t u:TS} {e:ρ} {te:TE} {pos:aO}
def M2:TS:=fun D σ H=>D.nx σ H
def N6(t u:TS):TS:=fun D σ H=>t { D with nx:=u D } σ H
theorem WY:ma X [] M2:=fun _ _ σ H _ I h=>ft ⟨σ,H,I,h⟩
theorem WX(h1:PS X st t)(h2:ma X rest u):ma X (st::rest) (N6 t u):=by
 intro pins s σ H D I h;refine gL (bJ (h1 pins s σ H { D with nx:=u D } I h) fun f s1 q=>?_);cases f with
 |next=>
  obtain⟨σ',H',I',q⟩:=q;exact h2 pins s1 σ' H' D I' q
 |ret v=>exact q
 |brk=>exact q
 |cont=>exact q
theorem WW(h1:PS X st t):ma X [st] t:=by
 intro pins s σ H D I h;refine gL (bJ (h1 pins s σ H D I h) fun f s1 q=>?_);cases f with
 |next=>exact ft q
 |ret v=>exact q
 |brk=>exact q
 |cont=>exact q
theorem Inv.quiet{pins:List (ζ×aP)}{σ:St}{H:Hp}{s:η}(I:Inv X pins σ H s):interactive X.env=false:=by simp[interactive,I.ok.kind]
def M3(te:TE):TS:=fun D σ H=>te σ H fun _ H1=>D.nx σ H1
theorem WV(he:PE X e te)(hs:swapsWith e none pos.line X.env=pure false:=by rfl):PS X (.Expr e pos) (M3 te):=by
 intro pins s σ H D I h;exact wpAny_Expr_any (bJ (he pins s σ H _ I h) fun v s1 ⟨x,H1,I1,r1,q1⟩=>⟨σ,H1,I1,q1⟩) I.quiet hs
def N7(te:TE):TS:=fun D σ H=>te σ H D.rt
theorem WU(he:PE X e te):PS X (.Return (some e) pos) (N7 te):=by
 intro pins s σ H D I h;exact wpAny_Return_some (bJ (he pins s σ H _ I h) fun v s1 ⟨x,H1,I1,r1,q1⟩=>⟨x,σ,H1,I1,r1,q1⟩)
def Oa(c:TT)(t u:TS):TS:=fun D σ H=>c σ H fun b H1=>if b=true then t D σ H1 else u D σ H1
theorem Wx{c:ρ}{a b:List aQ}{tc:TT}(hc:PT X c tc)(ha:ma X a t)(hb:ma X b u):PS X (.If c a b pos) (Oa tc t u):=by
 intro pins s σ H D I h;refine wpAny_If (bJ (hc pins s σ H _ I h) fun d s1 ⟨H1,I1,q1⟩=>?_);cases d with
 |true=>exact ha pins s1 σ H1 D I1 q1
 |false=>exact hb pins s1 σ H1 D I1 q1
end
abbrev TG:=V->St->Hp->(St->Hp->Prop)->Prop
abbrev vg:=List V->St->Hp->(St->Hp->Prop)->Prop
def PG(X:Cx)(target:ρ)(t:TG):Prop:=
 ∀(pins:List (ζ×aP)) (s:η) (σ:St) (H:Hp) (v:V) (u:ε) (Q:St->Hp->Prop),Inv X pins σ H s->RelV v u->t v σ H Q ->
  ξ (model X.prog X.w) X.A (assign target X.env u) (fun _ s'=>∃σ' H',Inv X pins σ' H' s'/\Q σ' H') X.xe s
def xV(X:Cx)(ts:List ρ)(t:vg):Prop:=
 ∀(pins:List (ζ×aP)) (s:η) (σ:St) (H:Hp) (vs:List V) (us:List ε) (Q:St->Hp->Prop),Inv X pins σ H s->bp vs us->t vs σ H Q ->
  ξ (model X.prog X.w) X.A (assignInOrder ((assignEach ts X.env).map (·.2)) us) (fun _ s'=>∃σ' H',Inv X pins σ' H' s'/\Q σ' H') X.xe s
abbrev zD:=V->V->V->Hp->(Hp->Prop)->Prop
def FR(X:Cx)(t:zD):Prop:=
 ∀(pins:List (ζ×aP)) (s:η) (σ:St) (H:Hp) (o i v:V) (ov iv u:ε) (Q:Hp->Prop),Inv X pins σ H s->RelV o ov->RelV i iv->RelV v u->t o i v H Q ->
  ξ (model X.prog X.w) X.A (setItem ov iv u) (fun _ s'=>∃H',Inv X pins σ H' s'/\Q H') X.xe s
abbrev xR:=V->V->Hp->VK->Prop
def De(X:Cx)(op:lp)(t:xR):Prop:=
 ∀(pins:List (ζ×aP)) (s:η) (σ:St) (H:Hp) (x y:V) (v u:ε) (Q:VK),Inv X pins σ H s->RelV x v->RelV y u->t x y H Q ->
  ξ (model X.prog X.w) X.A (inplaceOp op v u) (EP X pins σ Q) X.xe s
section
variable {X:Cx} {pos:aO}
def BF(i:Nat):TG:=fun v σ H Q=>Q (σ.set i (some v)) H
theorem Ww{i:Nat}{x:ν}(hN:X.N.Nodup)(hi:X.N[i]?=some x)(hx:Loc X.env.scope x)(hf:X.fn x=true∨X.env.scope.names.lookup x=some .local:=by first|exact .inl rfl|exact .inr rfl|assumption):PG X (.Name x pos) (BF i):=by
 intro pins s σ H v u Q I r h;exact wpAny_assign_Name (vO I hN hi hx r (fun s' I'=>⟨_,H,I',h⟩) hf)
def aas:vg:=fun vs σ H Q=>vs=[]/\Q σ H
def Nw(t:TG)(u:vg):vg:=fun vs σ H Q=>∃v r,vs=v::r/\t v σ H fun σ' H'=>u r σ' H' Q
theorem Wv:xV X [] aas:=by
 intro pins s σ H vs us Q I r h;obtain⟨e,h⟩:=h;subst e;cases r;exact oB ⟨σ,H,I,h⟩
theorem Wu{e:ρ}{es:List ρ}{t:TG}{u:vg}(h1:PG X e t)(h2:xV X es u)
  (hs:(assignEach (e::es) X.env).map (·.2)=assign e X.env::(assignEach es X.env).map (·.2):=by rfl):xV X (e::es) (Nw t u):=by
 intro pins s σ H vs us Q I r h;obtain⟨v,vr,e1,h⟩:=h;subst e1;cases r with
 |cons r rr=>
  rw[hs];refine g8 (bJ (h1 pins s σ H _ _ _ I r h) fun _ s1 ⟨σ1,H1,I1,q1⟩=>?_);exact h2 pins s1 σ1 H1 _ _ Q I1 rr q1
def MA(K:θ)(n:Nat)(t:vg):TG:=fun v σ H Q=>∃a xs,v=.ref a/\cC K H a xs/\xs.length=n/\t xs σ H Q
theorem Wt{es:List ρ}{k:Nat}{t:vg}{n:Nat}(hc:X.calm=true)(h:xV X es t)
  (hn:(assignEach es X.env).length=n:=by rfl) (hst:(assignEach es X.env).findIdx? (·.1)=none:=by rfl):PG X (.Tuple es k pos) (MA X.K n t):=by
 intro pins s σ H v u Q I r hw;obtain⟨a,xs,e1,hq,hl,hw⟩:=hw;subst e1;cases r;obtain⟨its,rv,ht,hz⟩:=I.tuple hq;refine assign_Tuple_tuple (I.ok.hd hc) ht (by simp[hn,←hl,rv.length]) hst fun h' hx=>?_;have I1:Inv X pins σ H { s with heap:=h' }:=I.kept (t':=s.toks) fun b o e=>hx b o (aW (Ξ e)) e
 exact h pins _ σ H xs _ Q I1 (by simpa using rv) hw
def aar(to ti:TE)(t:zD):TG:=fun v σ H Q=>to σ H fun o H1=>ti σ H1 fun i H2=>t o i v H2 fun H3=>Q σ H3
theorem Ws{o i:ρ}{to ti:TE}{t:zD}(ho:PE X o to)(hi:PE X i ti)(hs:FR X t)
  (ha:∀v,assign (.Subscript o i pos) X.env v=(do
   let ov ←holding [v] (eval o X.env)
   let iv ←holding [v,ov] (eval i X.env)
   standAt pos
   holding [v,ov,iv] (setItem ov iv v)
   release [v,ov,iv] []):=by intro _;rfl):PG X (.Subscript o i pos) (aar to ti t):=by
 intro pins s σ H v u Q I r h
 rw[ha]
 refine δ (aZ (bJ (ho pins s σ H _ I h) fun ov s1 ⟨x,H1,I1,r1,q1⟩=>?_))
 refine δ (aZ (bJ (hi pins s1 σ H1 _ I1 q1) fun iv s2 ⟨y,H2,I2,r2,q2⟩=>?_))
 refine δ (gs (δ (aZ (bJ (hs pins s2 σ H2 x y v ov iv u _ I2 r1 r2 r q2) fun _ s3 ⟨H3,I3,q3⟩=>?_))))
 exact wpAny_release ⟨σ,H3,I3,q3⟩
def Dm(te:TE)(g:TG):TS:=fun D σ H=>te σ H fun x H1=>g x σ H1 D.nx
theorem Wr{tg e:ρ}{te:TE}{g:TG}(he:PE X e te)(hg:PG X tg g)(hs:swapsWithSole [tg] e pos.line X.env=pure false:=by rfl)(hw:swappedStores [tg] e X.env=pure none:=by rfl)
  (h1:(assignEach [tg] X.env).map (·.2)=[assign tg X.env]:=by rfl):PS X (.Assign [tg] e pos) (Dm te g):=by
 intro pins s σ H D I h;refine wpAny_Assign_stores (bJ (he pins s σ H _ I h) fun v s1 ⟨x,H1,I1,r1,q1⟩=>?_) hs hw;rw[h1];exact bJ (hg pins s1 σ H1 x v _ I1 r1 q1) fun _ s2 q=>q
theorem Wq{i:Nat}{x:ν}{e:ρ}{te:TE}{pos':aO}(hN:X.N.Nodup)(hi:X.N[i]?=some x)(hx:Loc X.env.scope x)(he:PE X e te)(hs:swapsWith e (some (.Name x pos')) pos.line X.env=pure false:=by rfl)(hf:X.fn x=true∨X.env.scope.names.lookup x=some .local:=by first|exact .inl rfl|exact .inr rfl|assumption):
  PS X (.Assign [.Name x pos'] e pos) (Dm te (BF i)):=by
 intro pins s σ H D I h;refine wpAny_Assign_Name (bJ (he pins s σ H _ I h) fun v s1 ⟨y,H1,I1,r1,q1⟩=>?_) hs;exact vO I1 hN hi hx r1 (fun s2 I2=>⟨_,H1,I2,q1⟩) hf
def Dl(i j:Nat)(ta:TA):TS:=fun D σ H=>ta σ H fun vs H1=>∃v w,vs=[v,w]/\D.nx ((σ.set i (some v)).set j (some w)) H1
theorem Wp{i j:Nat}{x y:ν}{a b:ρ}{ta:TA}{px py pt:aO}{kt k2 pt2}(hc:X.calm=true)(hN:X.N.Nodup)(hi:X.N[i]?=some x)(hj:X.N[j]?=some y)(hij:i≠j)
  (hx:X.env.scope.names.lookup x=some .local) (hy:X.env.scope.names.lookup y=some .local) (ha:PA X [a,b] ta)
  (hw:swappedStores [.Tuple [.Name x px,.Name y py] kt pt] (.Tuple [a,b] k2 pt2) X.env=pure (some [x,y]))
  (hs:swapsWithSole [.Tuple [.Name x px,.Name y py] kt pt] (.Tuple [a,b] k2 pt2) pos.line X.env=pure false:=by rfl):
  PS X (.Assign [.Tuple [.Name x px,.Name y py] kt pt] (.Tuple [a,b] k2 pt2) pos) (Dl i j ta):=by
 intro pins s σ H D I h;rw[exec_Assign_arm];refine δ (gs ?_);rw[hs];refine δ (μ ?_);rw[if_neg (by decide)];refine δ (Tuple_ (bJ (ha _ pins s σ H _ I h) fun us s1 ⟨vs,H1,I1,r1,q1⟩=>?_));obtain⟨v,w,e1,q1⟩:=q1;subst e1;obtain⟨u1,u2,rfl,rv,rw'⟩:∃u1 u2,us=[u1,u2]/\RelV v u1/\RelV w u2:=by
  cases r1 with
  |cons p q=>
   cases q with
   |cons p' q'=>
    cases q';exact⟨_,_,rfl,p,p'⟩
 refine bG ?_ (by show 2≤au;decide);have I2:Inv X pins σ H1 { s1 with heap:=s1.heap.push { cls:=.type "tuple",data:=.seq [u1,u2].toArray }}:=I1.kept (t':=s1.toks) fun b o e=>ι _ e;rw[hw];refine δ (μ ?_);show ξ (model X.prog X.w) X.A (do rule "assign.swapped-stores";let items ←unpackItems (.ref s1.heap.objs.size) 2 none;assignInOrder [fun v=>bindName X.env y v,fun v=>bindName X.env x v] items.reverse;pure uC) _ _ _
 refine δ (g7 (δ (unpackItems_tuple (items:=#[u1,u2]) (I.ok.hd hc) (iB.new s1.heap _) fun h' hx'=>?_)));have I3:=I2.kept (h':=h') (t':=s1.toks) fun b o e=>hx' b o (aW (Ξ e)) e;show ξ _ _ (assignInOrder [fun v=>bindName X.env y v,fun v=>bindName X.env x v] [u2,u1] >>= fun _=>pure uC) _ _ _;refine δ (g8 (mR (vO I3 hN hj (.inl hy) rw' (fun s2 I4=>?_) (.inr hy))));refine g8 (mR (vO I4 hN hi (.inl hx) rv (fun s3 I5=>oB (μ ?_)) (.inr hx)));rw[List.set_comm _ _ (di hij)] at I5;exact⟨_,H1,I5,q1⟩
def Ob(i:Nat)(te:TE)(ti:xR):TS:=fun D σ H=>∃x,σ[i]?=some (some x)/\te σ H fun y H1=>ti x y H1 fun z H2=>D.nx (σ.set i (some z)) H2
theorem Wo{i:Nat}{x:ν}{e:ρ}{te:TE}{op:lp}{ti:xR}{pos':aO}(hN:X.N.Nodup)(hi:X.N[i]?=some x)(hx:Loc X.env.scope x)(he:PE X e te)(ho:De X op ti)(hf:X.fn x=true∨X.env.scope.names.lookup x=some .local:=by first|exact .inl rfl|exact .inr rfl|assumption):
  PS X (.AugAssign (.Name x pos') op e pos) (Ob i te ti):=by
 intro pins s σ H D I h;obtain⟨v,e1,h⟩:=h;obtain⟨m,hn,hl⟩:=I.loc;have eZ:GP X.env.scope x:=by rcases hx with k|k;exact .inl k;exact .inr (.inl k)
 obtain⟨u,r,l⟩:=hl i x v hi e1 eZ;refine wpAny_AugAssign_Name ?_;have go:ξ (model X.prog X.w) X.A (eval e X.env) (fun w s₂=>ξ (model X.prog X.w) X.A (inplaceOp op u w) (fun r s₃=>ξ (model X.prog X.w) X.A (storeName X.env x r) (fun _=>SP X pins D .next) X.xe s₃) X.xe s₂) X.xe s:=by
  refine bJ (he pins s σ H _ I h) fun w s1 ⟨y,H1,I1,r1,q1⟩=>?_;refine bJ (ho pins s1 σ H1 v y u w _ I1 r r1 q1) fun z s2 ⟨zv,H2,I2,r2,q2⟩=>?_;exact vO I2 hN hi hx r2 (fun s3 I3=>⟨_,H2,I3,q2⟩) hf
 rcases l with⟨hk,hm⟩|⟨hk,c,hc,hcell⟩
 ·exact i3 I.ok.kind hk hn hm go
 ·rcases hk with hk|hk
  ·exact wpAny_loadName_cell I.ok.kind hk hc hcell go
  ·rcases hx with k|k
   ·have:X.env.scope.names.lookup x=some .free:=hk;rw[k] at this;cases this
   ·have:X.env.scope.names.lookup x=some .free:=hk;rw[k] at this;cases this
def M4(to ti te:TE)(tget:V->V->Hp->VK->Prop)(tip:xR)(tset:zD):TS:=fun D σ H=>to σ H fun o H1=>ti σ H1 fun i H2=>tget o i H2 fun x H3=>te σ H3 fun y H4=>tip x y H4 fun z H5=>tset o i z H5 fun H6=>D.nx σ H6
def MK(X:Cx)(t:V->V->Hp->VK->Prop):Prop:=
 ∀(pins:List (ζ×aP)) (s:η) (σ:St) (H:Hp) (o i:V) (ov iv:ε) (Q:VK),Inv X pins σ H s->RelV o ov->RelV i iv->t o i H Q ->
  ξ (model X.prog X.w) X.A (getItem ov iv) (EP X pins σ Q) X.xe s
theorem Wn{o i e:ρ}{to ti te:TE}{tget:V->V->Hp->VK->Prop}{tip:xR}{tset:zD}{op:lp}{tpos:aO}(ho:PE X o to)(hi:PE X i ti)(hg:MK X tget)(he:PE X e te)(hp:De X op tip)(hs:FR X tset)
  (ha:∀ov iv new,augStore i ov iv new=(do holding [new,ov,iv] (setItem ov iv new);release [new,ov,iv] [];pure .next):=by intros;rfl):PS X (.AugAssign (.Subscript o i tpos) op e pos) (M4 to ti te tget tip tset):=by
 intro pins s σ H D I h;refine wpAny_AugAssign_SubscriptAny (bJ (ho pins s σ H _ I h) fun ov s1 ⟨x1,H1,I1,r1,q1⟩=>?_) ha;refine bJ (hi pins s1 σ H1 _ I1 q1) fun iv s2 ⟨x2,H2,I2,r2,q2⟩=>?_;refine bJ (hg pins s2 σ H2 x1 x2 ov iv _ I2 r1 r2 q2) fun old s3 ⟨x3,H3,I3,r3,q3⟩=>?_;refine bJ (he pins s3 σ H3 _ I3 q3) fun v s4 ⟨x4,H4,I4,r4,q4⟩=>?_;refine bJ (hp pins s4 σ H4 x3 x4 old v _ I4 r3 r4 q4) fun new s5 ⟨x5,H5,I5,r5,q5⟩=>?_;exact bJ (hs pins s5 σ H5 x1 x2 x5 ov iv new _ I5 r1 r2 r5 q5) fun _ s6 ⟨H6,I6,q6⟩=>⟨σ,H6,I6,q6⟩
def NS(f:Int->Int->Int):xR:=fun x y H Q=>∃i j,x=.int i/\y=.int j/\Q (.int (f i j)) H
theorem LZ:De X .Add (NS fun i j=>i+j):=by
 intro pins s σ H x y v u Q I r1 r2 h;obtain⟨i,j,e1,e2,q⟩:=h;subst e1;subst e2;obtain⟨t,rfl⟩:=r1;obtain⟨t',rfl⟩:=r2;exact iadd_int ⟨.int _,H,I.tok _,⟨_,rfl⟩,q⟩
end
section
variable {X:Cx} {pos:aO}
def HF(c:TT)(tb:TS):TS:=fun D σ H=>∃W:Nat->St->Hp->Prop,(∃m,W m σ H)/\∀m σ H,W m σ H ->
 c σ H fun b H1=>if b=true then ∃N:St->Hp->Prop,(∀σ' H',N σ' H'->∃m',m' < m/\W m' σ' H')/\tb { D with nx:=N,ct:=N,bk:=D.nx } σ H1 else D.nx σ H1
theorem Wm{c:ρ}{body:List aQ}{tc:TT}{tb:TS}(hp:g9 (model X.prog X.w) X.A X.env X.xe)(hc:PT X c tc)(hb:ma X body tb):PS X (.While c body [] pos) (HF tc tb):=by
 intro pins s σ H D I h;obtain⟨W,⟨m0,w0⟩,turn⟩:=h;refine wpAny_While (codeAny_whileLoop (fun n s'=>∃σ' H',Inv X pins σ' H' s'/\W n σ' H') ?_ m0 ⟨σ,H,I,w0⟩);rintro n s1 ⟨σ1,H1,I1,w1⟩;refine cU hp (bJ (hc pins s1 σ1 H1 _ I1 (turn n σ1 H1 w1)) fun b s2 ⟨H2,I2,q2⟩=>?_);cases b with
 |true=>
  obtain⟨N,hN,q2⟩:=q2;rw[if_pos rfl];refine cU hp (bJ (hb pins s2 σ1 H2 _ I2 q2) fun f s3 q3=>?_);cases f with
  |next=>
   obtain⟨σ3,H3,I3,n3⟩:=q3;obtain⟨m',hm,w3⟩:=hN σ3 H3 n3;exact⟨m',hm,σ3,H3,I3,w3⟩
  |cont=>
   obtain⟨σ3,H3,I3,n3⟩:=q3;obtain⟨m',hm,w3⟩:=hN σ3 H3 n3;exact⟨m',hm,σ3,H3,I3,w3⟩
  |brk=>exact q3
  |ret v=>exact q3
 |false=>
  rw[if_neg ar];exact ft ⟨σ1,H2,I2,q2⟩
end
structure It where
 go:Nat->Hp->Prop
 CI:Nat->Hp->V->Hp->Prop
 stop:Nat->Hp->Prop
def j3(X:Cx)(pins:List (ζ×aP))(H:Hp)(b:ζ):Prop:=
 H b=none/\b≠X.env.locals/\b∉X.fs/\(b∈X.ex∨X.s₀.heap.objs.size≤b)/\(∀x c,X.env.cells.lookup x=some c->c≠b)/\∀p∈X.pn++pins,p.1≠b
theorem Inv.qR{X:Cx}{pins:List (ζ×aP)}{σ:St}{H H':Hp}{s:η}{b:ζ}(I:Inv X pins σ H s)(hb:s.heap.objs.size≤b)(hn:H' b=none):j3 X pins H' b:=by
 refine⟨hn,gO (aX I.lt hb),I.aaa hb,.inr (aA I.sz hb),fun x c e z=>?_,fun p hp z=>?_⟩
 ·obtain⟨v,q⟩:=I.cell x c e;exact absurd (aX q.lt (by rw[z];exact hb)) (bU _)
 ·exact absurd (aX (Ξ (I.pin p hp).1) (by rw[z];exact hb)) (bU _)
structure Turn(P:Ω)(w:ah)(K:θ)(tg:ρ)(J:It)(fp:List ζ)(it:ζ)(tn:Nat->Ψ->Prop):Prop where
 mem:it∈fp
 obj:∀i h,tn i h->∀b∈fp,∃o,h.get? b=some o/\∀v,o.data≠.cell v
 keep:∀i h h',tn i h->(∀b∈fp,∀o,h.get? b=some o->h'.get? b=some o)->tn i h'
 item:∀(X:Cx),X.prog=P->X.w=w->X.K=K->X.calm=true->∀(i:Nat) (pins:List (ζ×aP)) (s:η) (σ:St) (H:Hp) (E:ε->η->Prop),Inv X pins σ H s->(∀b∈fp,j3 X pins H b)->tn i s.heap->J.go i H ->
  ξ (model P w) X.A (pyNext (.ref it)) (fun r s1=>∃u,r=some u ∧
   ξ (model P w) X.A (letOwnedTupleGo tg (.ref it) u) (fun _ s2=>∃x H',Inv X pins σ H' s2/\RelV x u/\J.CI i H x H'/\tn (i+1) s2.heap/\∀b∈fp,H' b=none) E s1) E s
 done:∀(X:Cx),X.prog=P->X.w=w->X.K=K->X.calm=true->∀(i:Nat) (pins:List (ζ×aP)) (s:η) (σ:St) (H:Hp) (E:ε->η->Prop),Inv X pins σ H s->(∀b∈fp,j3 X pins H b)->tn i s.heap->J.stop i H ->
  ξ (model P w) X.A (pyNext (.ref it)) (fun r s1=>r=none/\Inv X pins σ H s1) E s
 self:∀(A:aE) (i:Nat) (s:η) (Q:ε->η->Prop) (E:ε->η->Prop),tn i s.heap->Q (.ref it) s->ξ (model P w) A (pyIter (.ref it)) Q E s
abbrev TI:=St->Hp->(It->Hp->Prop)->Prop
def GR(X:Cx)(pins:List (ζ×aP))(σ:St)(tg:ρ)(R:It->Hp->Prop)(itv:ε)(s2:η):Prop:=
 ∃(it:ζ) (fp:List ζ) (tn:Nat->Ψ->Prop) (J:It) (H':Hp),itv=.ref it/\Inv X pins σ H' s2/\Turn X.prog X.w X.K tg J fp it tn/\tn 0 s2.heap/\(∀b∈fp,j3 X pins H' b)/\R J H'
def PI(X:Cx)(tg iter:ρ)(wi:TI):Prop:=
 ∀(pins:List (ζ×aP)) (s:η) (σ:St) (H:Hp) (R:It->Hp->Prop),Inv X pins σ H s->wi σ H R ->
  ξ (model X.prog X.w) X.A (eval iter X.env) (fun v s1=>ξ (model X.prog X.w) X.A (pyIter v) (GR X pins σ tg R) X.xe s1) X.xe s
theorem yZ{M:Model}{A:aE}{E:ε->η->Prop}{s:η}{tg:ρ}{it:ζ}{u:ε}{o:aP}{n:String}{vs:Array ε}{Q:Unit->η->Prop}(ho:s.heap.get? it=some o)(hc:o.cls=.type n)(hd:o.data=.fields vs)
    (hn:["enumerate","zip","dict_itemiterator","dict_reverseitemiterator","odict_iterator","itertools.zip_longest","itertools.pairwise"].contains n=false) (hQ:Q () s):ξ M A (letOwnedTupleGo tg (.ref it) u) Q E s:=by
  unfold letOwnedTupleGo;cases tg<;>first
    |exact μ hQ
    | (cases u<;>first
        |exact μ hQ
        | (refine δ (wpAny_load ho ?_)
           rw[hc,hd];show ξ M A (if (["enumerate","zip","dict_itemiterator","dict_reverseitemiterator","odict_iterator","itertools.zip_longest","itertools.pairwise"].contains n&&vs[0]?==some (rawInt _))=true then _ else _) Q E s;rw[if_neg (by intro h;rw[hn,mX] at h;cases h)];exact μ hQ))
def N0(K:θ)(a:ζ):It:=
 ⟨fun i H=>∃xs x,fM K H a xs/\xs[i]?=some x,fun i H x H'=>H'=H/\∀xs,fM K H a xs->xs[i]?=some x,fun i H=>∃xs,fM K H a xs/\xs.length≤i⟩
def Di(K:θ)(a:ζ):It:=
 ⟨fun i H=>∃xs x,cC K H a xs/\xs[i]?=some x,fun i H x H'=>H'=H/\∀xs,cC K H a xs->xs[i]?=some x,fun i H=>∃xs,cC K H a xs/\xs.length≤i⟩
def GS(lo:Int)(n:Nat):It:=⟨fun i _=>i<n,fun i H x H'=>H'=H/\x=.int (lo+i),fun i _=>n≤i⟩
theorem Wl{P:Ω}{w:ah}{K:θ}{tg:ρ}(a it:ζ):Turn P w K tg (N0 K a) [it] it (fun i h=>h.IsListIter it a i) where
 mem:=by simp
 obj:=fun i h st b hb=>by
  have e:b=it:=by simpa using hb
  subst e;obtain⟨o,e,c,d⟩:=st;exact⟨o,e,fun v z=>by rw[d] at z;cases z⟩
 keep:=fun i h h' st k=>st.at fun o e=>k it (by simp) o e
 item:=by
  intro X hP hw hK hc i pins s σ H E I hf st hg;subst hP hw hK;obtain⟨xs,x,hq,hx⟩:=hg;obtain⟨its,rv,p,hz⟩:=I.list hq;obtain⟨u,hu,ru⟩:=rv.get hx;obtain⟨f0,f1,f2,f3,f4,f5⟩:=hf it (by simp);refine wpAny_pyNext_list_item st p.isList (x:=u) (by simpa using hu) fun h' st' sb=>?_;have I1:Inv X pins σ H { s with heap:=h' }:=I.turned (t':=s.toks) (fun b o hb e=>(sb.2 b hb).trans e) f0 f1 f3 f4 f5;obtain⟨o,e,c,d⟩:=id st';exact⟨u,rfl,yZ (s:={ s with heap:=h' }) e c d (by decide) ⟨x,H,I1,ru,⟨rfl,fun ys hy=>by rw[I.zo hy hq];exact hx⟩,st',fun b hb=>(hf b hb).1⟩⟩
 done:=by
  intro X hP hw hK hc i pins s σ H E I hf st hg;subst hP hw hK;obtain⟨xs,hq,hx⟩:=hg;obtain⟨its,rv,p,hz⟩:=I.list hq;obtain⟨f0,f1,f2,f3,f4,f5⟩:=hf it (by simp);have hl:=rv.length;exact wpAny_pyNext_list_end (I.ok.hd hc) st p.isList (by simp;lia) fun h' eb=>⟨rfl,I.turned (t':=s.toks) (fun b o hb e=>eb b o hb e) f0 f1 f3 f4 f5⟩
 self:=fun _ _ _ _ _ st h=>wpAny_pyIter_listiter st h
theorem Wk{P:Ω}{w:ah}{K:θ}{tg:ρ}(a it:ζ):Turn P w K tg (Di K a) [it] it (fun i h=>h.IsTupleIter it a i) where
 mem:=by simp
 obj:=fun i h st b hb=>by
  have e:b=it:=by simpa using hb
  subst e;obtain⟨o,e,c,d⟩:=st;exact⟨o,e,fun v z=>by rw[d] at z;cases z⟩
 keep:=fun i h h' st k=>st.at fun o e=>k it (by simp) o e
 item:=by
  intro X hP hw hK hc i pins s σ H E I hf st hg;subst hP hw hK;obtain⟨xs,x,hq,hx⟩:=hg;obtain⟨its,rv,p,hz⟩:=I.tuple hq;obtain⟨u,hu,ru⟩:=rv.get hx;obtain⟨f0,f1,f2,f3,f4,f5⟩:=hf it (by simp);refine qf st (show s.heap.IsTuple a its.toArray from p) (x:=u) (by simpa using hu) fun h' st' sb=>?_;have I1:Inv X pins σ H { s with heap:=h' }:=I.turned (t':=s.toks) (fun b o hb e=>(sb.2 b hb).trans e) f0 f1 f3 f4 f5;obtain⟨o,e,c,d⟩:=id st';exact⟨u,rfl,yZ (s:={ s with heap:=h' }) e c d (by decide) ⟨x,H,I1,ru,⟨rfl,fun ys hy=>by rw[I.tP hy hq];exact hx⟩,st',fun b hb=>(hf b hb).1⟩⟩
 done:=by
  intro X hP hw hK hc i pins s σ H E I hf st hg;subst hP hw hK;obtain⟨xs,hq,hx⟩:=hg;obtain⟨its,rv,p,hz⟩:=I.tuple hq;obtain⟨f0,f1,f2,f3,f4,f5⟩:=hf it (by simp);have hl:=rv.length;exact wpAny_pyNext_tuple_end (I.ok.hd hc) st (show s.heap.IsTuple a its.toArray from p) (by simp;lia) fun h' eb=>⟨rfl,I.turned (t':=s.toks) (fun b o hb e=>eb b o hb e) f0 f1 f3 f4 f5⟩
 self:=fun _ _ _ _ _ st h=>wpAny_pyIter_tupleiter st h
theorem Wj{P:Ω}{w:ah}{K:θ}{tg:ρ}(it:ζ)(lo:Int)(n:Nat):Turn P w K tg (GS lo n) [it] it (fun i h=>rh h it (lo+(i:Nat)*1) ((n:Int)-(i:Nat)) 1) where
 mem:=by simp
 obj:=fun i h st b hb=>by
  have e:b=it:=by simpa using hb
  subst e;exact⟨_,st,fun v z=>by
   have z':rk _=nJ v:=z;cases z'⟩
 keep:=fun i h h' st k=>k it (by simp) _ st
 item:=by
  intro X hP hw hK hc i pins s σ H E I hf st hg;subst hP hw hK;obtain⟨f0,f1,f2,f3,f4,f5⟩:=hf it (by simp);have W:=Walks.range (prog:=X.prog) (w:=X.w) (I.ok.hd hc) it lo 1 n;refine W.item i s _ _ hg st fun v h' tk hv st' kk=>?_;obtain⟨t,rfl⟩:=hv;have I1:Inv X pins σ H { s with heap:=h',toks:=tk }:=I.turned (fun b o hb e=>kk b o (by simpa using hb) e) f0 f1 f3 f4 f5;refine⟨_,rfl,yZ (s:={ s with heap:=h',toks:=tk }) (n:="range_iterator") st' rfl rfl (by decide) ⟨.int (lo+i),H,I1,⟨t,?_⟩,⟨rfl,rfl⟩,st',fun b hb=>(hf b hb).1⟩⟩;rw[Int.mul_one]
 done:=by
  intro X hP hw hK hc i pins s σ H E I hf st hg;subst hP hw hK;obtain⟨f0,f1,f2,f3,f4,f5⟩:=hf it (by simp);exact wpAny_pyNext_range_end (I.ok.hd hc) st (by have:n≤i:=hg;lia) fun h' eb=>⟨rfl,I.turned (t':=s.toks) (fun b o hb e=>eb b o hb e) f0 f1 f3 f4 f5⟩
 self:=fun _ _ _ _ _ st h=>wpAny_pyIter_rangeiter st h
end L2
namespace L2
open PySem PySem.Spec PyProof.Rows
section
variable {X:Cx} {tg:ρ}
def aap(K:θ)(tl:TE):TI:=fun σ H R=>tl σ H fun x H1=>∃a,x=.ref a/\(∃xs,cC K H1 a xs)/\R (Di K a) H1
theorem Wi{pins:List (ζ×aP)}{σ:St}{H:Hp}{s:η}{R:It->Hp->Prop}{E:ε->η->Prop}{lo hi:Int}{t u v:Tok}{tk:Nat}(I:Inv X pins σ H s)(h1:-(2^62)≤lo)(h2:lo<2^62)(h3:-(2^62)≤hi)(h4:hi<2^62)
  (q:R (GS lo (hi-lo).toNat) H):ξ (model X.prog X.w) X.A (pyIter (.ref s.heap.objs.size)) (GR X pins σ tg R) E { s with heap:=s.heap.push { cls:=.type "range",data:=.fields #[.int lo t,.int hi u,.int 1 v]},toks:=tk }:=by
 refine wpAny_pyIter_range (IsRange.new ..) (small_one h1 h2 h3 h4) ?_;have I1:Inv X pins σ H { s with heap:=s.heap.push { cls:=.type "range",data:=.fields #[.int lo t,.int hi u,.int 1 v]},toks:=tk }:=I.kept fun b o e=>ι _ e;refine⟨(s.heap.push { cls:=.type "range",data:=.fields #[.int lo t,.int hi u,.int 1 v]}).objs.size,[(s.heap.push { cls:=.type "range",data:=.fields #[.int lo t,.int hi u,.int 1 v]}).objs.size],_,_,H,rfl,
  I1.kept (t':=tk) fun b o e=>ι _ e,Wj _ lo (hi-lo).toNat,?_,fun b hb=>?_,q⟩
 ·have e1:lo+((0:Nat):Int)*1=lo:=by simp
  have e2:(((hi-lo).toNat:Nat):Int)-((0:Nat):Int)=cQ lo hi 1:=by rw[rangeSize_one];split<;>lia
  show rh _ _ (lo+((0:Nat):Int)*1) ((((hi-lo).toNat:Nat):Int)-((0:Nat):Int)) 1;rw[e1,e2];exact af _ rfl
 ·have e:b=(s.heap.push { cls:=.type "range",data:=.fields #[.int lo t,.int hi u,.int 1 v]}).objs.size:=by simpa using hb
  subst e;exact I1.qR (Θ _) (I1.bF.fresh (Θ _))
def iX(ta:TA):TI:=fun σ H R=>ta σ H fun vs H1=>∃j:Int,vs=[.int j]/\-(2^62)≤j/\j<2^62/\R (GS 0 j.toNat) H1
theorem Wh{a:ρ}{ta:TA}{p pos:aO}(hg:Gl X "range")(hm:X.mg "range" = none)(ha:PA X [a] ta)(hs:bM [a] X.env=[(false,eval a X.env)]:=by rfl):PI X tg (.Call (.Name "range" p) [a] [] pos) (iX ta):=by
 intro pins s σ H R I h;refine Call_ (se I hg hm boot_range (eL (bJ (ha pos pins s σ H _ I h) fun us s1 ⟨vs,H1,I1,r1,q1⟩=>?_) hs rfl));obtain⟨j,e,q1,q2,q⟩:=q1;subst e;cases r1 with
 |cons r rr=>
  cases rr;obtain⟨t,rfl⟩:=r;exact call_range_1 (Wi I1 (by lia) (by lia) q1 q2 (by simpa using q))
def HI(wi:TI)(g:TG)(tb:TS):TS:=fun D σ H=>wi σ H fun J H1=>∃W:Nat->Nat->St->Hp->Prop,(∃m,W 0 m σ H1)/\∀i m σ H,W i m σ H ->
 (J.stop i H/\D.nx σ H)∨(J.go i H/\∃N:St->Hp->Prop,(∀σ' H',N σ' H'->∃m',m' < m/\W (i+1) m' σ' H')/\∀x H',J.CI i H x H'->g x σ H' fun σ2 H2=>tb { D with nx:=N,ct:=N,bk:=D.nx } σ2 H2)
def ua(fp:List ζ)(h:Ψ):List (ζ×aP):=fp.filterMap fun b=>(h.get? b).map fun o=>(b,o)
theorem Bg{fp:List ζ}{h:Ψ}{b:ζ}{o:aP}(hb:b∈fp)(e:h.get? b=some o):(b,o)∈ua fp h:=nG.mpr ⟨b,hb,by rw[e];rfl⟩
theorem Wg{fp:List ζ}{h:Ψ}{p:ζ×aP}(hp:p∈ua fp h):p.1∈fp/\h.get? p.1=some p.2:=by
 obtain⟨b,hb,e⟩:=nG.mp hp;cases q:h.get? b with
 |none=>rw[q] at e;cases e
 |some o=>
  rw[q] at e;have e':(b,o)=p:=aD e;subst e';exact⟨hb,q⟩
theorem Inv.pinned{pins:List (ζ×aP)}{σ:St}{H:Hp}{s:η}{fp:List ζ}(I:Inv X pins σ H s)(hf:∀b∈fp,j3 X pins H b)(ho:∀b∈fp,∃o,s.heap.get? b=some o/\∀v,o.data≠.cell v):Inv X (pins++ua fp s.heap) σ H s:=
 I.xy fun p hp=>(bL.mp hp).elim (fun z=>I.pin p (aY _ z)) fun z=>by
  obtain⟨hb,e⟩:=Wg z;obtain⟨f0,f1,f2,_⟩:=hf p.1 hb;obtain⟨o,e',d⟩:=ho p.1 hb;rw[e] at e';cases e';exact⟨e,f0,f1,f2,d⟩
theorem Inv.lb{pins pl:List (ζ×aP)}{σ:St}{H:Hp}{s:η}(I:Inv X (pins++pl) σ H s):Inv X pins σ H s:=I.xy fun p hp=>I.pin p (aY _ (cY _ hp))
theorem Wf{iter:ρ}{body:List aQ}{wi:TI}{g:TG}{tb:TS}{pos:aO}(hp:g9 (model X.prog X.w) X.A X.env X.xe)(hc:X.calm=true)(hi:PI X tg iter wi)(hg:PG X tg g)(hb:ma X body tb)
  (hs:∀x,foldedSetIterable iter X.env x=pure x:=by intro _;rfl):PS X (.For tg iter body [] pos) (HI wi g tb):=by
 intro pins s σ H D I h;refine wpAny_For (bJ (hi pins s σ H _ I h) fun v s1 h1=>bJ h1 fun itv s2 h2=>?_) hs;obtain⟨it,fp,tn,J,H2,e,I2,T,st2,f2,W,⟨m0,w0⟩,turn⟩:=h2;subst e
 -- what stays true of the iterator's objects through the loop
 have stat:∀{H':Hp},(∀b∈fp,H' b=none)->∀b∈fp,j3 X pins H' b:=fun hn b hb=>⟨hn b hb,(f2 b hb).2⟩;refine codeAny_forLoop_any (fun n s'=>∃i σ' H',Inv X pins σ' H' s'/\tn i s'.heap/\(∀b∈fp,H' b=none)/\W i n σ' H') ?_ m0 ⟨0,σ,H2,I2,st2,fun b hb=>(f2 b hb).1,w0⟩;rintro n s3 ⟨i,σ3,H3,I3,st3,fr3,w3⟩;rcases turn i n σ3 H3 w3 with⟨stop,qn⟩|⟨go,N,hN,step⟩
 ·refine cU hp (bJ (T.done X rfl rfl rfl hc i pins s3 σ3 H3 X.xe I3 (stat fr3) st3 stop) fun r s4 ⟨hr,I4⟩=>?_);subst hr;exact ft ⟨σ3,H3,I4,qn⟩
 ·refine cU hp (bJ (T.item X rfl rfl rfl hc i pins s3 σ3 H3 X.xe I3 (stat fr3) st3 go) fun r s4 ⟨u,hr,h4⟩=>?_);subst hr;refine cU hp (bJ h4 fun _ s5 ⟨x,H5,I5,r5,y5,st5,fr5⟩=>?_);have I5':=I5.pinned (stat fr5) (T.obj _ _ st5);refine cU hp (bJ (hg _ s5 σ3 H5 x u _ I5' r5 (step x H5 y5)) fun _ s6 ⟨σ6,H6,I6,q6⟩=>?_);refine cU hp (bJ (hb _ s6 σ6 H6 _ I6 q6) fun f s7 q7=>?_);have again:∀{σ7:St} {H7:Hp},Inv X (pins++ua fp s5.heap) σ7 H7 s7->N σ7 H7->∃m,m<n/\∃i σ' H',Inv X pins σ' H' s7/\tn i s7.heap/\(∀b∈fp,H' b=none)/\W i m σ' H':=fun {σ7 H7} I7 n7=>by
   obtain⟨m',hm,w7⟩:=hN σ7 H7 n7;refine⟨m',hm,i+1,σ7,H7,I7.lb,T.keep _ _ _ st5 fun b hb o e=>(I7.pin (b,o) (aY _ (aY _ (Bg hb e)))).1,fun b hb=>?_,w7⟩;obtain⟨o,e,d⟩:=T.obj _ _ st5 b hb;exact (I7.pin (b,o) (aY _ (aY _ (Bg hb e)))).2.1
  cases f with
  |next=>obtain⟨σ7,H7,I7,n7⟩:=q7;exact again I7 n7
  |cont=>obtain⟨σ7,H7,I7,n7⟩:=q7;exact again I7 n7
  |brk=>obtain⟨σ7,H7,I7,q7⟩:=q7;exact⟨σ7,H7,I7.lb,q7⟩
  |ret v=>obtain⟨x7,σ7,H7,I7,r7,q7⟩:=q7;exact⟨x7,σ7,H7,I7.lb,r7,q7⟩
end
end L2
namespace L2
open PySem PySem.Spec PyProof.Rows
abbrev R2:=V->V->Hp->VK->Prop
def fF(X:Cx)(f:ε->ε->j5 ε)(r:R2):Prop:=
 ∀(pins:List (ζ×aP)) (s:η) (σ:St) (H:Hp) (x y:V) (v u:ε) (Q:VK),Inv X pins σ H s->RelV x v->RelV y u->r x y H Q ->
  ξ (model X.prog X.w) X.A (f v u) (EP X pins σ Q) X.xe s
def jI(X:Cx)(f:ε)(r:List V->Hp->VK->Prop):Prop:=
 ∀(pins:List (ζ×aP)) (s:η) (σ:St) (H:Hp) (xs:List V) (us:List ε) (Q:VK),Inv X pins σ H s->bp xs us->r xs H Q ->
  ξ (model X.prog X.w) X.A (call f us) (EP X pins σ Q) X.xe s
def aaK(X:Cx)(r:V->Hp->(Bool->Hp->Prop)->Prop):Prop:=
 ∀(pins:List (ζ×aP)) (s:η) (σ:St) (H:Hp) (x:V) (v:ε) (Q:Bool->Hp->Prop),Inv X pins σ H s->RelV x v->r x H Q ->
  ξ (model X.prog X.w) X.A (truthy v) (TP X pins σ Q) X.xe s
def CK(r:R2)(ta tb:TE):TE:=fun σ H Q=>ta σ H fun x H1=>tb σ H1 fun y H2=>r x y H2 Q
def rI(C:Int->Int->Prop)(g:Int->Int->V):R2:=fun x y H Q=>∃i j,x=.int i/\y=.int j/\C i j/\Q (g i j) H
def rp(g:Int->Int->V):R2:=fun x y H Q=>∃i j,x=.int i/\y=.int j/\Q (g i j) H
section
variable {X:Cx} {a b c:ρ} {ta tb tc:TE} {pos:aO}
theorem FP(ha:PE X a ta)(hb:PE X b tb){pins:List (ζ×aP)}{s:η}{σ:St}{H:Hp}{R:V->V->Hp->Prop}(I:Inv X pins σ H s)
  (h:ta σ H fun x H1=>tb σ H1 fun y H2=>R x y H2) {Q:ε->η->Prop} {f:ε->ε->j5 ε}
  (hf:∀v u s2 x y H2,Inv X pins σ H2 s2->RelV x v->RelV y u->R x y H2->ξ (model X.prog X.w) X.A (f v u) Q X.xe s2):
  ξ (model X.prog X.w) X.A (eval a X.env) (fun v s₁=>ξ (model X.prog X.w) X.A (eval b X.env) (fun u s₂=>ξ (model X.prog X.w) X.A (f v u) Q X.xe s₂) X.xe s₁) X.xe s:=by
 refine bJ (ha pins s σ H _ I h) fun v s1 ⟨x,H1,I1,r1,q1⟩=>?_;refine bJ (hb pins s1 σ H1 _ I1 q1) fun u s2 ⟨y,H2,I2,r2,q2⟩=>?_;exact hf v u s2 x y H2 I2 r1 r2 q2
theorem We{op:lp}{r:R2}(ho:fF X (binaryOp op) r)(ha:PE X a ta)(hb:PE X b tb):PE X (.BinOp a op b pos) (CK r ta tb):=by
 intro pins s σ H Q I h;exact wpAny_BinOp (FP ha hb I h fun v u s2 x y H2 I2 rx ry q=>ho pins s2 σ H2 x y v u Q I2 rx ry q)
theorem CZ{f:ε->ε->j5 ε}{C:Int->Int->Prop}{g:Int->Int->Int}
  (rule:∀(i j:Int) (t u:Tok) (s:η) (Q:ε->η->Prop) (E:ε->η->Prop),C i j->Q (.int (g i j) s.toks) { s with toks:=s.toks+1 }->ξ (model X.prog X.w) X.A (f (.int i t) (.int j u)) Q E s):
  fF X f (rI C fun i j=>.int (g i j)):=by
 intro pins s σ H x y v u Q I rx ry h;obtain⟨i,j,rfl,rfl,hc,q⟩:=h;obtain⟨t,rfl⟩:=rx;obtain⟨t',rfl⟩:=ry;exact rule i j t t' s _ _ hc ⟨.int (g i j),H,I.tok _,⟨_,rfl⟩,q⟩
theorem Mb{f:ε->ε->j5 ε}{g:Int->Int->Int}
  (rule:∀(i j:Int) (t u:Tok) (s:η) (Q:ε->η->Prop) (E:ε->η->Prop),Q (.int (g i j) s.toks) { s with toks:=s.toks+1 }->ξ (model X.prog X.w) X.A (f (.int i t) (.int j u)) Q E s):
  fF X f (rp fun i j=>.int (g i j)):=by
 intro pins s σ H x y v u Q I rx ry h;obtain⟨i,j,rfl,rfl,q⟩:=h;obtain⟨t,rfl⟩:=rx;obtain⟨t',rfl⟩:=ry;exact rule i j t t' s _ _ ⟨.int (g i j),H,I.tok _,⟨_,rfl⟩,q⟩
theorem Fg{f:ε->ε->j5 ε}{g:Int->Int->Bool}
  (rule:∀(i j:Int) (t u:Tok) (s:η) (Q:ε->η->Prop) (E:ε->η->Prop),Q (.bool (g i j)) s->ξ (model X.prog X.w) X.A (f (.int i t) (.int j u)) Q E s):
  fF X f (rp fun i j=>.bl (g i j)):=by
 intro pins s σ H x y v u Q I rx ry h;obtain⟨i,j,rfl,rfl,q⟩:=h;obtain⟨t,rfl⟩:=rx;obtain⟨t',rfl⟩:=ry;exact rule i j t t' s _ _ ⟨.bl (g i j),H,I,rfl,q⟩
def FW(i j:Int):Prop:=0≤j/\j≤1000000/\i.natAbs<2^64
theorem Ma:fF X (binaryOp .Add) (rp fun i j=>.int (i+j)):=Mb fun _ _ _ _ _ _ _ q=>add_int q
theorem EX:fF X (binaryOp .Sub) (rp fun i j=>.int (i-j)):=Mb fun _ _ _ _ _ _ _ q=>sub_int q
theorem sd:fF X (binaryOp .Mod) (rI (fun _ j=>0<j) fun i j=>.int (i%j)):=CZ fun i j _ _ _ _ _ hc q=>by
 have h1:(0:Int)<j:=hc;exact mod_int' (by lia) (by rw[Int.fmod_eq_emod_of_nonneg i (by lia)];exact q)
theorem Wd:fF X (binaryOp .Pow) (rI FW fun i j=>.int (i^j.toNat)):=CZ fun _ _ _ _ _ _ _ hc q=>pow_int_small hc.1 hc.2.1 hc.2.2 q
end
section
variable {X:Cx} {a b c:ρ} {ta tb tc:TE} {pos:aO}
theorem Wc{pins:List (ζ×aP)}{σ:St}{H:Hp}{s:η}{Q:VK}{k k':Bool}(I:Inv X pins σ H s)(q:Q (.bl k) H)(e:k=k'):EP X pins σ Q (.bool k') s:=by
 subst e;exact⟨.bl k,H,I,rfl,q⟩
theorem Na:fF X (compareOp .Lt) (rp fun i j=>.bl (decide (i<j))):=Fg fun _ _ _ _ _ _ _ q=>lt_int q
theorem EW:fF X (compareOp .Gt) (rp fun i j=>.bl (decide (j<i))):=Fg fun _ _ _ _ _ _ _ q=>gt_int q
theorem Wb:fF X (compareOp .GtE) (rp fun i j=>.bl (decide (j≤i))):=Fg fun _ _ _ _ _ _ _ q=>ge_int q
theorem Wa:fF X (compareOp .Is) (fun x y H Q=>y=.aC/\Q (.bl (decide (x=.aC))) H):=by
 intro pins s σ H x y v u Q I rx ry h;obtain⟨rfl,q⟩:=h;cases ry;refine is_none_gen (Wc I q ?_);cases x<;>first
  | (cases rx;rfl)
  | (obtain⟨t,rfl⟩:=rx;rfl)
theorem fF.or{f:ε->ε->j5 ε}{r r':R2}(h:fF X f r)(h':fF X f r'):fF X f (fun x y H Q=>r x y H Q∨r' x y H Q):=by
 intro pins s σ H x y v u Q I rx ry q;rcases q with q|q
 ·exact h pins s σ H x y v u Q I rx ry q
 ·exact h' pins s σ H x y v u Q I rx ry q
theorem dh(b:ρ){op:CmpOp}(h:op≠.In:=by decide)(h2:op≠.NotIn:=by decide):behindInMarks op b=false:=by
 have e1:(op==CmpOp.In)=false:=by cases op<;>first|rfl|exact absurd rfl h
 have e2:(op==CmpOp.NotIn)=false:=by cases op<;>first|rfl|exact absurd rfl h2
 cases b<;>simp[behindInMarks,e1,e2]
theorem V9{op:CmpOp}{r:R2}(ho:fF X (compareOp op) r)(ha:PE X a ta)(hb:PE X b tb)(hm:behindInMarks op b=false):PE X (.Compare a [op] [b] pos) (CK r ta tb):=by
 intro pins s σ H Q I h;exact wpAny_Compare1 (FP ha hb I h fun v u s2 x y H2 I2 rx ry q=>ho pins s2 σ H2 x y v u Q I2 rx ry q) hm
def FY(t:TE):TT:=fun σ H Q=>t σ H fun x H'=>∃k,x=.bl k/\Q k H'
theorem V8{op:CmpOp}{r:R2}(ho:fF X (compareOp op) r)(ha:PE X a ta)(hb:PE X b tb)(hm:behindInMarks op b=false):PT X (.Compare a [op] [b] pos) (FY (CK r ta tb)):=by
 intro pins s σ H Q I h;refine wpAny_isTrue_Compare1 (bJ (ha pins s σ H _ I h) fun v s1 ⟨x,H1,I1,r1,q1⟩=>bJ (hb pins s1 σ H1 _ I1 q1) fun u s2 ⟨y,H2,I2,r2,q2⟩=>
  bJ (ho pins s2 σ H2 x y v u _ I2 r1 r2 q2) fun c s3 ⟨z,H3,I3,r3,k,e,q3⟩=>?_) hm
 subst e;cases r3;exact fx ⟨H3,I3,q3⟩
def MJ(K:θ)(x:V)(H:Hp)(k:Bool):Prop:=
 match x with
 |.aC=>k=false
 |.bl b=>k=b
 |.int i=>k=(i != 0)
 |.str y=>y.length≤au/\k=((y.length:Int) != 0)
 |.C9 y=>y.size≤au/\k=((y.size:Int) != 0)
 |.ref p=>(∃xs,fM K H p xs/\k = !xs.isEmpty)∨(∃xs,cC K H p xs/\k = !xs.isEmpty)∨∃kvs,H p=some (.dK kvs)/\k = !kvs.isEmpty
 |_=>False
theorem WI{κ:Type}{kvs:List (κ×V)}{vs:List (κ×ε)}(r:KV kvs vs):(!vs.isEmpty) = !kvs.isEmpty:=by
 cases r<;>rfl
theorem LY{xs:List V}{its:List ε}(r:bp xs its):(!its.toArray.isEmpty) = !xs.isEmpty:=by
 cases r<;>simp
theorem nz:(au:Nat)<2^63:=by rw[cH];decide
theorem WH:aaK X (fun x H Q=>∃k,MJ X.K x H k/\Q k H):=by
 intro pins s σ H x v Q I rx h;obtain⟨k,e,q⟩:=h;have hl:=nz;have hs:au=16777216:=cH;cases x with
 |aC=>
  cases rx;have e':k=false:=e;subst e';exact truthy_none ⟨H,I,q⟩
 |bl b=>
  cases rx;have e':k=b:=e;subst e';exact fx ⟨H,I,q⟩
 |int i=>
  obtain⟨t,rfl⟩:=rx;have e':k=(i != 0):=e;subst e';exact PySem.P.truthy_int ⟨H,I,q⟩
 |str y=>
  obtain⟨t,rfl⟩:=rx;obtain⟨hy,e'⟩:y.length≤au/\k=((y.length:Int) != 0):=e;subst e';exact PySem.P.truthy_str (by lia) ⟨H,I.tok _,q⟩
 |C9 y=>
  obtain⟨t,rfl⟩:=rx;obtain⟨hy,e'⟩:y.size≤au/\k=((y.size:Int) != 0):=e;subst e';exact PySem.W.truthy_bytes (by lia) ⟨H,I.tok _,q⟩
 |ref p=>
  cases rx;have e':(∃xs,fM X.K H p xs/\k = !xs.isEmpty)∨(∃xs,cC X.K H p xs/\k = !xs.isEmpty)∨∃kvs,H p=some (.dK kvs)/\k = !kvs.isEmpty:=e;rcases e' with⟨xs,hx,e'⟩|⟨xs,hx,e'⟩|⟨kvs,hx,e'⟩
  ·subst e';obtain⟨its,r,pl,hz⟩:=I.list hx;have hlen:=r.length;exact wpAny_truthy_list pl.isList (by simp only[Γ];lia) ⟨H,I.tok _,by rw[LY r];exact q⟩
  ·subst e';obtain⟨its,r,pl,hz⟩:=I.tuple hx;have hlen:=r.length;exact truthy_tuple pl (by simp only[Γ];lia) ⟨H,I.tok _,by rw[LY r];exact q⟩
  ·subst e';obtain⟨hz,hS,vs,r,m⟩:kvs.length≤au/\(p==sysModules)=false/\∃vs,KV kvs vs/\s.heap.DictOf (xC X.prog X.w) p vs:=I.bF p _ hx;have hlen:kvs.length=vs.length:=Paired.length r;exact wpAny_truthy_dict hS m (by lia) ⟨H,I.tok _,by rw[WI r];exact q⟩
 |_=>exact (show False from e).elim
theorem WG(ha:PE X a ta)(he:∀whole,isTrue a X.env whole=(do let v ←whole;standAt a.pos;holding [v] (truthy v))):
  PT X a (fun σ H Q=>ta σ H fun x H'=>∃k,MJ X.K x H' k/\Q k H'):=by
 intro pins s σ H Q I h;exact isTrue_plain (bJ (ha pins s σ H _ I h) fun v s1 ⟨x,H1,I1,r1,q1⟩=>WH pins s1 σ H1 x v Q I1 r1 q1) (he _)
theorem vals1{x:V}{us:List ε}(r:bp [x] us):∃u,us=[u]/\RelV x u:=by
 cases r with
 |cons r1 r2=>cases r2;exact⟨_,rfl,r1⟩
theorem vals2{x y:V}{us:List ε}(r:bp [x,y] us):∃u w',us=[u,w']/\RelV x u/\RelV y w':=by
 cases r with
 |cons r1 r2=>
  cases r2 with
  |cons r3 r4=>cases r4;exact⟨_,_,rfl,r1,r3⟩
theorem WE(hc:X.calm=true):jI X (.builtin "max") (fun xs H Q=>∃i j,xs=[.int i,.int j]/\Q (.int (if j > i then j else i)) H):=by
 intro pins s σ H xs us Q I r h;obtain⟨i,j,rfl,q⟩:=h;obtain⟨u,w',rfl,⟨t,rfl⟩,⟨t',rfl⟩⟩:=vals2 r;refine max_two_ints (I.ok.hd hc) fun h' tk k=>⟨_,H,I.kept k,?_,q⟩;by_cases hj:j > i
 ·rw[if_pos hj,if_pos hj];exact⟨_,rfl⟩
 ·rw[if_neg hj,if_neg hj];exact⟨_,rfl⟩
theorem WD:jI X (.type "int") (fun xs H Q=>(∃i,xs=[.int i]/\Q (.int i) H)∨∃k,xs=[.bl k]/\Q (.int (if k then 1 else 0)) H):=by
 intro pins s σ H xs us Q I r h;rcases h with⟨i,rfl,q⟩|⟨k,rfl,q⟩
 ·obtain⟨u,rfl,t,rfl⟩:=vals1 r;exact call_int_int ⟨.int i,H,I,⟨_,rfl⟩,q⟩
 ·obtain⟨u,rfl,r1⟩:=vals1 r;cases r1;exact call_int_bool ⟨.int (if k then 1 else 0),H,I.tok _,⟨_,rfl⟩,q⟩
end
end L2
namespace L2
open PySem PySem.Spec PyProof.Rows
theorem WC{h:Ψ}{dx:ζ}{mA:ν->Option ε}(n:h.Ns1 dx mA):∃od,h.get? dx=some od/\∀name,rN name od=some (mA name):=by
 obtain⟨o,es,ep,ho,hd,hk,_,hm⟩:=n;refine⟨o,ho,fun name=>?_⟩;have e:=hm name;unfold nsFind findBy at e;rw[←Array.find?_toList] at e;unfold rN;rw[hd];dsimp only;split
 ·rename_i y q;rw[q] at e;exact congrArg some e
 ·rename_i q;rw[q] at e;have a:es.toList.any (·.refKey)=false:=by
   rw[List.any_eq_false];intro y hy;obtain⟨z,t,ue⟩:=hk y (gE.mp hy);simp[uD.refKey,ue]
  have a':¬es.toList.any (·.refKey)=true:=by rw[a];exact ar
  rw[if_neg a'];exact congrArg some e
theorem sE.some_of{v:V}{o:Option ε}(r:sE (some v) o):∃u,o=some u/\RelV v u:=by
 cases o with
 |none=>exact (show False from r).elim
 |some u=>exact⟨u,rfl,r⟩
section
variable {X:Cx} {pins:List (ζ×aP)} {σ:St} {H:Hp} {s:η} {a C dx:ζ} {fs:List (ν×V)} {f:ν} {v:V} {A:aE} {E:ε->η->Prop}
theorem WB{prog:Ω}{w:ah}{env:cK}{e:ρ}{f:ν}{pos:aO}{s:η}{Q:ε->η->Prop}(hb:attributeBase e f env (eval e env)=eval e env)
  (h:ξ (model prog w) A (eval e env) (fun o s₁=>ξ (model prog w) A (getAttr o f true) Q E s₁) E s):ξ (model prog w) A (eval (.Attribute e f pos) env) Q E s:=
 Attribute_any_ h (by rw[arm_eval_Attribute,hb])
end
end L2
namespace L2
open PySem PySem.Spec PyProof.Rows
structure dH(k:Nat)(A:aE):Prop where
 hd:A.handled=none
 dp:A.depth+3*k+5<recursionLimit
 un:A.units+16*k+200<cLine
theorem dH.mono{j k:Nat}{A:aE}(r:dH k A)(h:j≤k):dH j A:=⟨r.hd,by have:=r.dp;lia,by have:=r.un;lia⟩
theorem dH.deeper{k:Nat}{A:aE}(r:dH (k+1) A)(env:cK):dH k (A.deeper env):=
 ⟨r.hd,by have:=r.dp;show A.depth+1+3*k+5<_;lia,by have:=r.un;show A.units+3+16*k+200<_;lia⟩
theorem WA{A:aE}{C:ζ}{us:List ε}{kw:List (ν×ε)}:(A.under (.builtin "type.__call__" ⟨.ref C::us,kw⟩)).depth=A.depth+1:=by
 first|rfl|simp[aE.under,Code.weight,Code.isCreation,Code.isGuard,Code.isCaller,Code.frames,Code.isFrame,guardIds]
theorem dH.depth{k:Nat}{A:aE}(r:dH k A):A.depth<recursionLimit:=by have:=r.dp;lia
theorem dH.units{k:Nat}{A:aE}(r:dH k A):A.units+64<cLine:=by have:=r.un;lia
theorem dH.wg{k:Nat}{A:aE}(r:dH k A):A.units<cLine:=by have:=r.un;lia
def HG:TA:=fun _ H Q=>Q [] H
def Ah(ta:TE)(tr:TA):TA:=fun σ H Q=>ta σ H fun x H1=>tr σ H1 fun xs H2=>Q (x::xs) H2
section
variable {X:Cx} {e:ρ} {es:List ρ} {te:TE} {t:TA} {pos:aO}
theorem t9:PA X [] HG:=fun _ _ _ _ H Q I h=>Calls.spliced_nil ⟨[],H,I,.nil,h⟩
theorem pC(ha:PE X e te)(hr:PA X es t)(hs:bM (e::es) X.env=(false,eval e X.env)::bM es X.env:=by rfl):PA X (e::es) (Ah te t):=by
 intro pos pins s σ H Q I h;rw[hs];show ξ _ _ (spliced ((false,eval e X.env)::backTo pos (bM es X.env))) _ _ s;refine Calls.spliced_cons (bJ (ha pins s σ H _ I h) fun u s1 ⟨x,H1,I1,r1,q1⟩=>?_);exact bJ (hr pos pins s1 σ H1 _ I1 q1) fun us s2 ⟨xs,H2,I2,r2,q2⟩=>⟨x::xs,H2,I2,.cons r1 r2,q2⟩
def N5(t:TA):TE:=fun σ H Q=>t σ H fun xs H1=>xs.length≤au/\∀p,H1 p=none->Q (.ref p) (upd H1 p (.tup xs))
def N9(t:TA):TE:=fun σ H Q=>t σ H fun xs H1=>xs.length≤au/\∀p,H1 p=none->Q (.ref p) (upd H1 p (.lst xs))
theorem Wz{x1}(h:PA X es t):PE X (.Tuple es x1 pos) (N5 t):=by
 intro pins s σ H Q I hq;refine wpAny_Tuple_spliced (bJ (h pos pins s σ H _ I hq) fun us s1 ⟨xs,H1,I1,r,z,q⟩=>⟨by rw[←r.length];exact z,?_⟩);have hf:H1 s1.heap.objs.size=none:=I1.bF.fresh (Θ _);refine⟨.ref s1.heap.objs.size,upd H1 s1.heap.objs.size (.tup xs),I1.laid (t':=s1.toks) (fun b u e=>ι _ e) (Θ _) ?_,rfl,q _ hf⟩;exact⟨z,us,r,⟨_,af _ rfl,rfl,⟨_,rfl⟩,rfl⟩⟩
theorem LX(h:PA X es t):PE X (.List es pos) (N9 t):=by
 intro pins s σ H Q I hq;refine wpAny_List_spliced (bJ (h pos pins s σ H _ I hq) fun us s1 ⟨xs,H1,I1,r,z,q⟩=>⟨by rw[←r.length];exact z,?_⟩);have hf:H1 s1.heap.objs.size=none:=I1.bF.fresh (Θ _);refine⟨.ref s1.heap.objs.size,upd H1 s1.heap.objs.size (.lst xs),I1.laid (t':=s1.toks) (fun b u e=>ι _ e) (Θ _) ?_,rfl,q _ hf⟩;exact⟨z,us,0,r,af _ rfl⟩
end
abbrev Sp:=List V->Hp->VK->XK->Prop
abbrev rF:=List cK->Hp->η->XK->ε->η->Prop
structure pM(P:Ω)(w:ah)(K:θ)(mg:ν->Option ε)(base:Ψ)(A:aE)(outer:List cK)(s:η)(H:Hp):Prop where
 frames:A.frames=some outer
 mod:Mod K mg base
 bs:∀b o,base.get? b=some o->s.heap.get? b=some o/\H b=none
 qt:base.objs.size≤s.heap.objs.size
 ll:s.heap.FunFrames base outer
 wF:∀b∈fD outer,H b=none
 bF:dZ P w H s.heap
 bare:ky s.gens
def CE(outer:List cK)(P:Ω)(w:ah)(H:Hp)(s:η)(Q:VK)(u:ε)(s':η):Prop:=
 ∃v H',s'.os=s.os/\ky s'.gens/\Un (fD outer) [] H H' s.heap s'.heap/\dZ P w H' s'.heap/\RelV v u/\Q v H'
def CR(CX:rF)(outer:List cK)(P:Ω)(w:ah)(H:Hp)(s:η)(Q:VK)(E:XK)(r:Result)(s':η):Prop:=
 match r with
 |.ok (.ret u)=>CE outer P w H s Q u s'
 |.ok _=>False
 |.error e=>CX outer H s E e s'
structure jx(P:Ω)(w:ah)(K:θ)(mg:ν->Option ε)(base:Ψ)(CX:rF)(k:Nat)(f:ζ)(fd:ag)(ps:List ν)(sp:Sp):Prop where
 len:∀vs H Q E,sp vs H Q E->vs.length=ps.length
 run:∀(A:aE) (outer:List cK) (s:η) (H:Hp) (args:Args) (us:List ε) (vs:List V) (Q:VK) (E:XK),dH k A->pM P w K mg base A outer s H->mY s fd args (ps.zip us)->bp vs us->sp vs H Q E ->
  fA (model P w) A (.call (.ref f) args) (CR CX outer P w H s Q E) s
theorem jx.mono{P:Ω}{w:ah}{K:θ}{mg:ν->Option ε}{base:Ψ}{CX:rF}{j k:Nat}{f:ζ}{fd:ag}{ps:List ν}{sp:Sp}(F:jx P w K mg base CX j f fd ps sp)(h:j≤k):
  jx P w K mg base CX k f fd ps sp:=⟨F.len,fun A outer s H args us vs Q E hr=>F.run A outer s H args us vs Q E (hr.mono h)⟩
theorem jx.imp{P:Ω}{w:ah}{K:θ}{mg:ν->Option ε}{base:Ψ}{CX:rF}{k:Nat}{f:ζ}{fd:ag}{ps:List ν}{sp sp':Sp}(F:jx P w K mg base CX k f fd ps sp)
  (h:∀vs H Q E,sp' vs H Q E->sp vs H Q E):jx P w K mg base CX k f fd ps sp':=
 ⟨fun vs H Q E q=>F.len vs H Q E (h _ _ _ _ q),fun A outer s H args us vs Q E hr he hb hv hs=>F.run A outer s H args us vs Q E hr he hb hv (h _ _ _ _ hs)⟩
section
variable {X:Cx} {pins:List (ζ×aP)} {σ:St} {H:Hp} {s s':η}
theorem Inv.FC(I:Inv X pins σ H s):pM X.prog X.w X.K X.mg X.base X.A X.stack s H:=
 ⟨I.ok.frames,I.ok.mod,I.bs,aA I.ok.qt I.sz,I.stack,I.fw,I.bF,I.bare⟩
theorem Inv.after{Q:VK}{u:ε}(I:Inv X pins σ H s)(h:CE X.stack X.prog X.w H s Q u s'):EP X pins σ Q u s':=by
 obtain⟨v,H',os,bare,un,bF,r,q⟩:=h;obtain⟨hh,g,d,t,os'⟩:=s';obtain rfl:os'=s.os:=os;exact⟨v,H',I.call (h':=hh) (g':=g) (d':=d) (t':=t) (ch:=[]) un bF bare (fun b z=>absurd z (by simp)),r,q⟩
end
def xZ(sp:Sp)(dvs:List V)(E:XK)(t:TA):TE:=fun σ H Q=>t σ H fun vs H1=>sp (vs++dvs) H1 Q E
def Binds(K:θ)(fd:ag)(ps:List ν)(ds:List ε):Prop:=
 ∀(s:η) (us:List ε),K.In s.heap->(us++ds).length=ps.length->mY s fd ⟨us,[]⟩ (ps.zip (us++ds))
theorem Binds.all{K:θ}{fd:ag}{ps:List ν}(h:∀us:List ε,us.length=ps.length->bindArgs fd ⟨us,[]⟩=pure (ps.zip us)):Binds K fd ps []:=fun s us _ hl=>by
 rw[bh] at hl ⊢;exact .of_eq (h us hl)
def jY(CX:rF)(X:Cx)(E:XK):Prop:=∀(pins:List (ζ×aP)) (σ:St) (H:Hp) (s:η) (e:ε) (s':η),Inv X pins σ H s->CX X.stack H s E e s'->X.xe e s'
section
variable {X:Cx} {CX:rF} {k:Nat} {f C:ζ} {fd:ag} {ps:List ν} {sp:Sp} {dvs:List V} {ds:List ε} {E:XK} {x m:ν} {p pos apos:aO} {e o:ρ} {es:List ρ} {ta:TE} {t:TA}
theorem Wy{pins:List (ζ×aP)}{σ:St}{H:Hp}{s:η}{Q:VK}{us:List ε}{vs:List V}(F:jx X.prog X.w X.K X.mg X.base CX k f fd ps sp)(hr:dH k X.A)(hb:Binds X.K fd ps ds)(hd:bp dvs ds)(hx:jY CX X E)
  (I:Inv X pins σ H s) (r:bp vs us) (h:sp (vs++dvs) H Q E):ξ (model X.prog X.w) X.A (call (.ref f) us) (EP X pins σ Q) X.xe s:=by
 have r2:bp (vs++dvs) (us++ds):=r.append hd;have hl:(us++ds).length=ps.length:=by rw[←r2.length];exact F.len _ _ _ _ h
 refine fZ (ed (F.run X.A X.stack s H ⟨us,[]⟩ (us++ds) (vs++dvs) Q E hr I.FC (hb s us I.gk hl) r2 h) fun r s' hq=>?_);cases r with
 |error e=>exact hx pins σ H s e s' I hq
 |ok fl=>
  cases fl with
  |ret u=>exact I.after hq
  |next=>exact br hq
  |brk=>exact br hq
  |cont=>exact br hq
theorem VW(F:jx X.prog X.w X.K X.mg X.base CX k f fd ps sp)(hr:dH k X.A)(hg:Gl X x)(hm:X.mg x=some (.ref f))(hk:bD X.K (.ref f)=true)(hb:Binds X.K fd ps ds)(hd:bp dvs ds)(hx:jY CX X E)
  (ha:PA X (e::es) t) (hdb:(x==("__debug__":ν))=false:=by decide) (he:bM (e::es) X.env=(false,eval e X.env)::bM es X.env:=by rfl) (hpl:(backTo pos (bM es X.env)).any (·.1)=false:=by rfl):
  PE X (.Call (.Name x p) (e::es) [] pos) (xZ sp dvs E t):=by
 intro pins s σ H Q I h;refine cG (qK I hg hm ?_ hdb);refine er (h₀:=X.base) I.ok.mod.pH hk (bJ (ha pos pins s σ H _ I h) fun us s1 ⟨vs,H1,I1,r,q⟩=>⟨I1.gk,?_⟩) he hpl;exact Wy F hr hb hd hx I1 r q
end
structure bz(N P:List ν)(sc:eS):Prop where
 kind:sc.kind=.function
 co:sc.isCoroutine=false
 gen:sc.isGenerator=false
 nd:N.Nodup
 pre:N.take P.length=P
 par:∀x∈P,sc.names.lookup x=some .local∨sc.names.lookup x=some .cell
 Me:∀y∈sc.names,y.2≠.free
theorem LW{kindOf:ν->Option fU}{x:ν}:∀{binds:List (ν×ε)} {m:ν->Option ε},(∀v,(x,v)∉binds)->bindL kindOf binds m x=m x
 |[],_,_=>rfl
 | (n,v)::r,m,h=>by
  unfold bindL;rw[LW fun w hw=>h w (ψ _ hw)];split
  ·have:x≠n:=by rintro rfl;exact h v χ
   simp[this]
  ·rfl
theorem LV{kindOf:ν->Option fU}{x:ν}:∀{binds:List (ν×ε)} {m:ν->Option ε},(∀v,(x,v)∉binds)->bindC kindOf binds m x=m x
 |[],_,_=>rfl
 | (n,v)::r,m,h=>by
  unfold bindC;rw[LV fun w hw=>h w (ψ _ hw)];split
  ·rfl
  ·have:x≠n:=by rintro rfl;exact h v χ
   simp[this]
theorem Bf{kindOf:ν->Option fU}{x:ν}{v:ε}:∀{P:List ν} {vs:List ε} {i:Nat} {m:ν->Option ε},P.Nodup->P[i]?=some x->vs[i]?=some v->kindOf x=some .local ->
  bindL kindOf (P.zip vs) m x=some v
 |[],_,_,_,_,h,_,_=>by simp at h
 |_::_,[],_,_,_,_,h,_=>by simp at h
 |p::P,w::vs,0,m,nd,h1,h2,hk=>by
  simp at h1 h2;subst h1;subst h2;show bindL kindOf ((p,w)::P.zip vs) m p=_;unfold bindL;rw[LW fun v hv=>(dm.mp nd).1 (fu hv).1,if_pos hk];simp
 |p::P,w::vs,i+1,m,nd,h1,h2,hk=>by
  show bindL kindOf ((p,w)::P.zip vs) m x=_;unfold bindL;exact Bf (i:=i) (dm.mp nd).2 (by simpa using h1) (by simpa using h2) hk
theorem LU{kindOf:ν->Option fU}{x:ν}{v:ε}:∀{P:List ν} {vs:List ε} {i:Nat} {m:ν->Option ε},P.Nodup->P[i]?=some x->vs[i]?=some v->kindOf x≠some .local ->
  bindC kindOf (P.zip vs) m x=some v
 |[],_,_,_,_,h,_,_=>by simp at h
 |_::_,[],_,_,_,_,h,_=>by simp at h
 |p::P,w::vs,0,m,nd,h1,h2,hk=>by
  simp at h1 h2;subst h1;subst h2;show bindC kindOf ((p,w)::P.zip vs) m p=_;unfold bindC;rw[LV fun v hv=>(dm.mp nd).1 (fu hv).1,if_neg hk];simp
 |p::P,w::vs,i+1,m,nd,h1,h2,hk=>by
  show bindC kindOf ((p,w)::P.zip vs) m x=_;unfold bindC;exact LU (i:=i) (dm.mp nd).2 (by simpa using h1) (by simpa using h2) hk
def start(N:List ν)(vs:List V):St:=vs.map some++bo (N.length-vs.length) none
def ia(CX:rF)(P:Ω)(w:ah)(K:θ)(mg:ν->Option ε)(base:Ψ)(N:List ν)(qual:ν)(scope:eS)(f:ζ)(cd:ε)(A:aE)(outer:List cK)(s:η)(H:Hp)(E:XK):Cx where
 prog:=P
 w:=w
 K:=K
 mg:=mg
 base:=base
 A:=A.deeper (envOfC qual scope s.heap.objs.size f cd)
 N:=N
 s₀:=s
 H₀:=H
 env:=envOfC qual scope s.heap.objs.size f cd
 outer:=outer
 stack:=envOfC qual scope s.heap.objs.size f cd::outer
 ex:=[]
 calm:=true
 fn:=fun _=>true
 pn:=[]
 xe:=fun e s'=>ξ (model P w) (A.deeper (envOfC qual scope s.heap.objs.size f cd)) (leaving (envOfC qual scope s.heap.objs.size f cd) e) (fun _ s''=>CX outer H s E e s'') (fun e' s''=>CX outer H s E e' s'') s'
theorem LS{sc:eS}{n:Nat}{x:ν}(h:sc.names.lookup x=some .cell):∃c,(cellsFrom n sc.names []).lookup x=some c:=by
 have q:=ig sc.names n [] (.inl h);exact kc.mp q
theorem EV{CX:rF}{P:Ω}{w:ah}{K:θ}{mg:ν->Option ε}{base:Ψ}{N ps:List ν}{qual:ν}{scope:eS}{f:ζ}{cd:ε}{A:aE}{outer:List cK}{s s1:η}{H:Hp}{E:XK}{us:List ε}{vs:List V}
  (S:bz N ps scope) (hd:A.handled=none) (e0:pM P w K mg base A outer s H) (hl:vs.length=ps.length) (r:bp vs us)
  (x:InCallC s s.heap.objs.size (bindL (envOfC qual scope s.heap.objs.size f cd).kindOf (ps.zip us) fun _=>none) (cellsFrom (s.heap.objs.size+1) scope.names []) (bindC (envOfC qual scope s.heap.objs.size f cd).kindOf (ps.zip us) fun _=>none) s1):
  Inv (ia CX P w K mg base N qual scope f cd A outer s H E) [] (start N vs) H s1:=by
 have hpl:ps.length≤N.length:=by have:=congrArg ij S.pre;rw[bW] at this;lia
 obtain⟨h1,tk,rfl,hk⟩:=x.done;have noA:∀b:ζ,b∉(ia CX P w K mg base N qual scope f cd A outer s H E).ex:=fun b z=>absurd (show b∈([]:List ζ) from z) (by simp);refine⟨⟨e0.mod,S.kind,rfl,rfl,Θ _,fun y z c h1 h2=>?_,fun y hy=>?_,fun y c _ h=>?_,fun _=>hd,sS e0.frames,.inr ⟨rfl,rfl⟩,fun b z=>absurd z (noA b),e0.bs,e0.qt,fun b _ _=>noA b,fun b z=>absurd z (noA b),e0.ll,e0.wF⟩,
  rfl,e0.bare,Un.kept hk,⟨_,x.toInCall.ns,fun i y v h1 h2 h3=>?_⟩,fun y c h=>⟨_,x.cell y c h⟩,e0.bF.fresh (Θ _),fun y c h=>?_,fun p hp=>absurd (show p∈([]:List (ζ×aP)) from hp) (by simp),e0.bF.kept hk,?_⟩
 ·exact name_of_addr x.apart (fN h1) (fN h2)
 ·have hy:scope.names.lookup y=some .cell∨scope.names.lookup y=some .free:=hy;rcases hy with hy|hy
  ·exact LS hy
  ·exact absurd rfl (S.Me _ (fN hy))
 ·exact pW (x.above y c (fN h))
 ·have hi:i<vs.length:=by
   unfold start at h2;by_cases hi:i<vs.length
   ·exact hi
   ·rw[eU (by simpa using hi)] at h2;rw[kI] at h2;split at h2<;>cases h2
  have ha:vs[i]?=some v:=by
   unfold start at h2;rw[fi (by simpa using hi),aI] at h2;cases e:vs[i]? with
   |none=>rw[e] at h2;cases h2
   |some a=>rw[e] at h2;cases h2;rfl
  obtain⟨u,hu,rv⟩:=r.get ha;have hp:ps[i]?=some y:=by
   rw[←S.pre,p8 (by lia)];exact h1
  have ndP:ps.Nodup:=by rw[←S.pre];exact S.nd.sublist (kL _ _)
  refine⟨u,rv,?_⟩;rcases S.par y (bE hp) with k|k
  ·exact .inl ⟨k,Bf ndP hp hu k⟩
  ·obtain⟨c,e⟩:=LS (n:=s.heap.objs.size+1) k;refine .inr ⟨.inl k,c,e,?_⟩;have q:=x.cell y c e;rw[LU ndP hp hu (by show scope.names.lookup y≠_;rw[k];decide)] at q;exact q
 ·exact e0.bF.fresh (pW (x.above y c (fN h)))
 ·unfold start;show _=N.length;rw[aq,π,lG];lia
theorem LG{CX:rF}{P:Ω}{w:ah}{K:θ}{mg:ν->Option ε}{base:Ψ}{k:Nat}{f:ζ}{name qual:ν}{params:Arguments}{body:List aQ}{scope:eS}{dV kV doc pm cdv ct oc:ε}{an od:Option ζ}
  {osl:Array (Option ε)} {N ps:List ν} {sp:Sp} (lk:K.lookup f=some ⟨oc,od,.func (gN name qual params body scope dV kV doc pm an cdv ct),osl⟩) (iq:kv K cdv qual=true) (S:bz N ps scope)
  (len:∀vs H Q E,sp vs H Q E->vs.length=ps.length)
  (fk:∀(A:aE) (outer:List cK) (s:η) (H:Hp) (vs:List V) (Q:VK) (E:XK),dH k (A.deeper (envOfC qual scope s.heap.objs.size f cdv))->sp vs H Q E ->
   ∃t,ma (ia CX P w K mg base N qual scope f cdv A outer s H E) body t/\t { nx:=fun _ H'=>Q .aC H',rt:=Q } (start N vs) H):
  jx P w K mg base CX (k+1) f (gN name qual params body scope dV kV doc pm an cdv ct) ps sp:=by
 refine⟨len,fun A outer s H args us vs Q E hr e0 hb r qm=>?_⟩;have hl:=len _ _ _ _ qm;have KX:K.In s.heap:=e0.mod.pH.keeps fun b o e=>(e0.bs b o e).1;have lim:s.heap.NoLimit:=e0.mod.nolimit.keeps fun b o e=>(e0.bs b o e).1;have hkind:∀y∈ps.zip us,scope.names.lookup y.1=some .local∨(scope.names.lookup y.1=some .cell/\((cellsFrom (s.heap.objs.size+1) scope.names []).lookup y.1).isSome=true):=fun⟨n,v⟩ hy=>by
  rcases S.par n (fu hy).1 with q|q
  ·exact .inl q
  ·exact .inr ⟨q,ig _ _ _ (.inl q)⟩
 refine iJ hr.depth (KX _ _ lk) rfl S.co S.gen rfl (j6 KX iq) (hb _ _ _ _ ?_);refine gu S.kind hkind fun env he s1 x=>?_;subst he;refine⟨lim.keeps x.toInCall.keep,pQ ?_⟩;obtain⟨t,ht,hq⟩:=fk A outer s H vs Q E (hr.deeper _) qm;have I:Inv (ia CX P w K mg base N qual scope f cdv A outer s H E) [] (start N vs) H s1:=EV S hr.hd e0 hl r x;refine cb (ht [] s1 (start N vs) H _ I hq) (fun fl s' hs=>?_) fun e s' hs=>hs;have fin:∀{σ':St} {H':Hp} {v:V} {u:ε},Inv (ia CX P w K mg base N qual scope f cdv A outer s H E) [] σ' H' s'->RelV v u->Q v H'->CE outer P w H s Q u s':=
  fun {σ' H' v u} J rv q=>⟨v,H',J.os,J.bare,J.base,J.bF,rv,q⟩
 cases fl with
 |ret u=>
  obtain⟨v,σ',H',J,rv,q⟩:=hs;exact fin J rv q
 |next=>
  obtain⟨σ',H',J,q⟩:=hs;exact fin (v:=V.aC) (u:=aS) J rfl q
 |brk=>
  obtain⟨_,_,_,q⟩:=hs;exact br q
 |cont=>
  obtain⟨_,_,_,q⟩:=hs;exact br q
end L2
namespace L2
open PySem PySem.Spec PyProof.Rows
section
variable {X:Cx} {x:ν} {p pos:aO} {e:ρ} {es:List ρ} {t:TA} {id T:String} {r:List V->Hp->VK->Prop}
def CL(r:List V->Hp->VK->Prop)(t:TA):TE:=fun σ H Q=>t σ H fun vs H1=>r vs H1 Q
theorem qJ(hc:jI X (.builtin id) r)(hg:Gl X x)(hm:X.mg x=none)(hv:gM x=some (.builtin id))(ha:PA X (e::es) t)(hn:x≠"__name__":=by decide)(hdb:(x==("__debug__":ν))=false:=by decide)
  (he:bM (e::es) X.env=(false,eval e X.env)::bM es X.env:=by rfl) (hpl:(backTo pos (bM es X.env)).any (·.1)=false:=by rfl):PE X (.Call (.Name x p) (e::es) [] pos) (CL r t):=by
 intro pins s σ H Q I h;refine cG (se I hg hm hv ?_ hn hdb);exact PyProof.Rows.callWith_builtin1 (bJ (ha pos pins s σ H _ I h) fun us s1 ⟨vs,H1,I1,r1,q1⟩=>hc pins s1 σ H1 vs us Q I1 r1 q1) he hpl
theorem EU(hc:jI X (.type T) r)(hg:Gl X x)(hm:X.mg x=none)(hv:gM x=some (.type T))(ha:PA X (e::es) t)(hn:x≠"__name__":=by decide)(hdb:(x==("__debug__":ν))=false:=by decide)
  (he:bM (e::es) X.env=(false,eval e X.env)::bM es X.env:=by rfl) (hpl:(backTo pos (bM es X.env)).any (·.1)=false:=by rfl):PE X (.Call (.Name x p) (e::es) [] pos) (CL r t):=by
 intro pins s σ H Q I h;refine cG (se I hg hm hv ?_ hn hdb);exact eL (bJ (ha pos pins s σ H _ I h) fun us s1 ⟨vs,H1,I1,r1,q1⟩=>hc pins s1 σ H1 vs us Q I1 r1 q1) he hpl
end
end L2
namespace HT
open PySem PyProof.Rows
def lexLt:List Int->List Int->Bool
 |[],[]=>false
 |[],_::_=>true
 |_::_,[]=>false
 |x::xs,y::ys=>if x=y then lexLt xs ys else decide (x<y)
theorem si(x y:Int)(xs ys:List Int):lexLt (x::xs) (y::ys)=if x=y then lexLt xs ys else decide (x<y):=rfl
theorem VV:lexLt [] []=false:=rfl
theorem VU(y:Int)(ys:List Int):lexLt [] (y::ys)=true:=rfl
theorem VT(x:Int)(xs:List Int):lexLt (x::xs) []=false:=rfl
theorem zy(A:aE)(s:η)(a:Int)(t:Tok)(c:Int)(u:Tok):∃e,SeqAt.EqAt A s (.int a t) (.int c u) e/\(e=true↔a=c):=
 ⟨(a==c),SeqAt.EqAt.int_int a t c u,by simp⟩
theorem yy(A:aE)(s:η)(a:Int)(t:Tok)(c:Int)(u:Tok)(prog:Ω)(w:ah)(E:ε->η->Prop)(Q:ε->η->Prop)(h:Q (.bool (decide (a<c))) s):
  ξ (model prog w) A (ie .Lt (.int a t) (.int c u)) Q E s:=
 (PyProof.Rows.lt_int h:ξ (model prog w) A (compareOp .Lt (.int a t) (.int c u)) Q E s)
section
open PySem.SeqAt
open PySem.AutoSeq1 (wpAny_loadPart')
open PySem.MeetsSeq PySem.MeetsSeq2 PySem.MeetsSeq3
theorem VS(l b:ζ)(items items2:Array ε)(n n2:Nat)(dd dd2:Option ζ)(sl sl2:Array (Option ε))(ns ms:List Int)(hi:ff items.toList ns)(hj:ff items2.toList ms):
  Meets (cS.«tuple.__lt__» ⟨[.ref l,.ref b],[]⟩)
   (fun _ R s=>s.heap.get? l=some { cls:=.type "tuple",dict:=dd,data:=.seq items n,slots:=sl }/\s.heap.get? b=some { cls:=.type "tuple",dict:=dd2,data:=.seq items2 n2,slots:=sl2 } ∧
    R (.ok (.ret (.bool (lexLt ns ms)))) s):=
 .of_wp fun prog w A R s h=>by
  obtain⟨hp,g,d,tk,os⟩:=s;obtain⟨hl,hb,h⟩:=h;have f2:=qd;have z1:items.size=ns.length:=by rw[←hi.length];simp
  have z2:items2.size=ms.length:=by rw[←hj.length];simp
  wp_walk using wpAny_loadPart' hl,wpAny_loadPart' hb,i5 _ (fun rest b s'=>b.1=none/\s'=⟨hp,g,d,tk,os⟩/\∃(vs ws:List ε) (ns' ms':List Int),rest=vs.zip ws ∧
   ff vs ns'/\ff ws ms'/\ns'.length+items2.size=ms'.length+items.size/\R (.ok (.ret (.bool (lexLt ns' ms')))) ⟨hp,g,d,tk,os⟩) _
  case turn=>
   rintro⟨y,x⟩ rest b s' ⟨hb',rfl,vs,ws,ns',ms',hz,hvi,hwi,hlen,hR⟩;cases hvi with
   |nil=>rw[List.zip_nil_left] at hz;cases hz
   |cons a t hvi'=>
    cases hwi with
    |nil=>rw[List.zip_nil_right] at hz;cases hz
    |cons c u hwi'=>
     rw[gh] at hz;injection hz with hyx hrest;injection hyx with hy hx;subst hy hx;rw[si] at hR;simp only[aL] at hlen;obtain⟨e,he,hiff⟩:=zy A.in1 ⟨hp,g,d,tk,os⟩ a t c u;refine δ (he prog w _ _ ?_);cases e with
     |true=>
      rw[if_pos (hiff.mp rfl)] at hR;wp_walk;exact⟨rfl,rfl,_,_,_,_,hrest,hvi',hwi',by lia,hR⟩
     |false=>
      rw[if_neg (fun q=>absurd (hiff.mpr q) ar)] at hR;have hri:=yy A.in1 ⟨hp,g,d,tk,os⟩ a t c u prog w;wp_walk using hri;exact⟨_,rfl,by simpa using hR⟩
  case fin=>
   rintro⟨b1,b2⟩ s' ⟨hb',rfl,vs,ws,ns',ms',hz,hvi,hwi,hlen,hR⟩;simp only at hb';subst hb';have hv:lexLt ns' ms'=decide (items.size<items2.size):=by
    cases hvi with
    |nil=>
     cases hwi with
     |nil=>
      simp only[hU] at hlen;rw[VV];exact (decide_eq_false (by lia)).symm
     |cons c u hw=>
      simp only[hU,aL] at hlen;rw[VU];exact (decide_eq_true (by lia)).symm
    |cons a t hv=>
     cases hwi with
     |nil=>
      simp only[hU,aL] at hlen;rw[VT];exact (decide_eq_false (by lia)).symm
     |cons c u hw=>
      rw[gh] at hz;cases hz
   rw[hv] at hR;wp_walk;exact⟨_,rfl,by simpa [lH] using hR⟩
  case h=>
   exact⟨rfl,rfl,items.toList,items2.toList,ns,ms,rfl,hi,hj,by lia,h⟩
end
section
variable {prog:Ω} {w:ah} {A:aE} {E:ε->η->Prop} {s:η}
theorem wC{l b:ζ}{items items2:Array ε}{ns ms:List Int}{Q:ε->η->Prop}(hl:iB s.heap l items)(hb:iB s.heap b items2)(hi:ff items.toList ns)(hj:ff items2.toList ms)
  (hu:A.units<cLine) (h:Q (.bool (lexLt ns ms)) s):ξ (model prog w) A (compareOp .Lt (.ref l) (.ref b)) Q E s:=by
 obtain⟨⟨cls,dd,data,sl⟩,ho,hc,n,hd⟩:=id hl;obtain⟨⟨cls2,dd2,data2,sl2⟩,ho2,hc2,n2,hd2⟩:=id hb;simp only at hc hd hc2 hd2;subst hc hd hc2 hd2;exact richCompare_meets_room (op:=.Lt) ⟨_,ho,rfl⟩ ⟨_,ho2,rfl⟩ rP qY (qg _ _) (VS l b items items2 n n2 dd dd2 sl sl2 ns ms hi hj)
  ⟨ho,ho2,show dN (lexLt ns ms)≠sJ/\Q (.bool (lexLt ns ms)) s from⟨(fun x=>nomatch x),h⟩⟩ hu
theorem Ht{t b:ζ}{vs ws:List ε}{Q:ε->η->Prop}(ht:iB s.heap t vs.toArray)(hb:iB s.heap b ws.toArray)(hv:vs≠[])
  (h1:ws=[]->Q (.ref t) s) (h2:ws≠[]->Q (.ref s.heap.objs.size) { s with heap:=s.heap.push { cls:=.type "tuple",data:=.seq (vs++ws).toArray }})
  (hsz:vs.length+ws.length≤au):ξ (model prog w) A (binaryOp .Add (.ref t) (.ref b)) Q E s:=by
 obtain⟨⟨cls,dd,data,sl⟩,ho,hc,n,hd⟩:=id ht;obtain⟨⟨cls2,dd2,data2,sl2⟩,ho2,hc2,n2,hd2⟩:=id hb;simp only at hc hd hc2 hd2;subst hc hd hc2 hd2;have e:vs.toArray++ws.toArray=(vs++ws).toArray:=by simp
 by_cases hw:ws=[]
 ·exact concat_meets ⟨_,ho,rfl⟩ ⟨_,ho2,rfl⟩ pP sZ kR kH (j9 _ _)
   (tuple_addW1 t b vs.toArray ws.toArray n n2 dd dd2 sl sl2 (by simpa using hv) (by simp[hw])) ⟨ho,ho2,h1 hw⟩
 ·refine concat_meets ⟨_,ho,rfl⟩ ⟨_,ho2,rfl⟩ pP sZ kR kH (j9 _ _)
   (tuple_addW2 t b vs.toArray ws.toArray n n2 dd dd2 sl sl2 (by simpa using hv) (by simpa using hw) (by rw[Γ,Γ];exact hsz)) ⟨ho,ho2,?_⟩
  rw[e];exact h2 hw
def cq(n d:Nat):Option Int->Nat
 |none=>d
 |some v=>if v<0 then (v+(n:Int)).toNat else min v.toNat n
theorem yx(n d:Nat):cq n d none=d:=rfl
theorem zS(n d k:Nat):cq n d (some (k:Int))=min k n:=by
 show (if (k:Int)<0 then ((k:Int)+(n:Int)).toNat else min (k:Int).toNat n)=min k n;rw[if_neg (by lia),bC]
theorem VR(n d:Nat)(hd:d≤n)(o:Option Int):cq n d o≤n:=by
 cases o with
 |none=>exact hd
 |some v=>
  show (if v<0 then (v+(n:Int)).toNat else min v.toNat n)≤n;by_cases hv:v<0
  ·rw[if_pos hv];lia
  ·rw[if_neg hv];exact Nat.min_le_right _ _
theorem LF(v:Int)(n d:Nat):(if v<0 then max (v+(n:Int)) 0 else min v (n:Int))=((cq n d (some v):Nat):Int):=by
 show (if v<0 then max (v+(n:Int)) 0 else min v (n:Int))=(((if v<0 then (v+(n:Int)).toNat else min v.toNat n):Nat):Int);by_cases hv:v<0
 ·simp only[if_pos hv];lia
 ·simp only[if_neg hv];lia
theorem VQ(lo hi:Option Int)(n:Nat):jL lo hi 1 (n:Int)=(((cq n 0 lo:Nat):Int),((cq n n hi:Nat):Int)):=by
 have h1:¬((1:Int)<0):=by lia
 unfold jL;simp only[h1,if_false];refine Prod.ext ?_ ?_
 ·cases lo with
  |none=>rfl
  |some v=>exact LF v n 0
 ·cases hi with
  |none=>rfl
  |some v=>exact LF v n n
theorem VP(i j:Nat):gD (i:Int) (j:Int) 1=j-i:=by
 unfold gD;have h1:(1:Int) > 0:=by lia
 simp only[h1,if_true,Int.ediv_one];split<;>lia
theorem LD{v:ε}{o:Option Int}{Q:Option Int->η->Prop}(p:mr v o)(h:Q o s):ξ (model prog w) A (cS.Slice.slicePartIndex v) Q E s:=by
 cases p with
 |none=>exact slicePart_none h
 |int i t=>exact slicePart_int h
theorem pg{sl:ζ}{vl vu:ε}{lo hi:Option Int}{n:Nat}{Q:Int×Int×Nat->η->Prop}(hs:s.heap.IsSliceOf sl vl vu .none)(pl:mr vl lo)(pu:mr vu hi)
  (h:Q (((cq n 0 lo:Nat):Int),1,cq n n hi-cq n 0 lo) s):ξ (model prog w) A (nY (.ref sl) (pure (n:Int))) Q E s:=by
 obtain⟨os,hos,hcs,hds⟩:=id hs;unfold nY cS.Slice.sliceFields;refine δ (δ (bI hos hds (x:=vl) rfl (δ (bI hos hds (x:=vu) rfl (δ (bI hos hds (x:=.none) rfl (μ ?_)))))));refine δ (slicePart_none ?_);show ξ _ _ (if ((1:Int)==0)=true then _ else _) _ _ s;rw[if_neg (by decide)];refine δ (LD pl (δ (LD pu (δ (μ ?_)))));show ξ _ _ (match jL lo hi 1 (n:Int) with|(lo,hi)=>pure (lo,(1:Int),gD lo hi 1)) _ _ s
 rw[VQ lo hi n];show ξ _ _ (pure (((cq n 0 lo:Nat):Int),(1:Int),gD ((cq n 0 lo:Nat):Int) ((cq n n hi:Nat):Int) 1)) _ _ s;rw[VP];exact μ h
theorem VO(xs:Array ε)(i k:Nat):((ao k).filterMap fun (m:Nat)=>xs[((i:Int)+(m:Int)*1).toNat]?).toArray=((xs.toList.drop i).take k).toArray:=by
 have e:(fun (m:Nat)=>xs[((i:Int)+(m:Int)*1).toNat]?)=fun m=>xs[i+m]?:=by
  funext m;have:((i:Int)+(m:Int)*1).toNat=i+m:=by lia
  rw[this]
 rw[e];have:=pick_run xs i k;rw[uB] at this;have e2:((fun x=>xs[x]?) ∘ fun x=>i+x)=fun m=>xs[i+m]?:=rfl;rw[e2] at this;rw[this]
theorem uU{t sl:ζ}{items:Array ε}{vl vu:ε}{lo hi:Option Int}{Q:ε->η->Prop}(ht:iB s.heap t items)(hs:s.heap.IsSliceOf sl vl vu .none)(pl:mr vl lo)(pu:mr vu hi)
  (hw:¬(cq items.size 0 lo=0/\cq items.size items.size hi=items.size))
  (h:Q (.ref s.heap.objs.size) { s with heap:=s.heap.push { cls:=.type "tuple",data:=.seq ((items.toList.drop (cq items.size 0 lo)).take (cq items.size items.size hi-cq items.size 0 lo)).toArray }})
  (hsz:items.size≤au):ξ (model prog w) A (getItem (.ref t) (.ref sl)) Q E s:=by
 have htake:sizeOk (.seq ((items.toList.drop (cq items.size 0 lo)).take (cq items.size items.size hi-cq items.size 0 lo)).toArray):=by
  show ((items.toList.drop (cq items.size 0 lo)).take (cq items.size items.size hi-cq items.size 0 lo)).toArray.size≤au;rw[Γ,bW,fV,fP];lia
 have hj:cq items.size items.size hi≤items.size:=VR _ _ (Θ _) hi;obtain⟨os,hos,hcs,hds⟩:=id hs;have hTs:s.TypeIs (.ref sl) "slice":=⟨os,hos,hcs⟩;unfold getItem
 try with_reducible refine aZ ?_
 first|refine δ (μ ?_)|skip
 refine δ (wpAny_sequenceKey ht.typeIs (by decide) ?_);refine δ (bS (name:=ee "__getitem__") ht.typeIs cP
  (cA cP ht.typeIs entry_tuple_getitem ?_ (args_tuple_getitem _ _)))
 show ξ _ _ (nX (.ref t) >>= _) _ _ s;refine δ (tupleItemsOf_ ht ?_);refine δ (j4 hTs ?_);rw[if_pos (by decide)];refine δ (pg hs pl pu ?_);have hno:¬((((cq items.size 0 lo:Nat):Int)==0&&(1:Int)==1&&(cq items.size items.size hi-cq items.size 0 lo)==items.size)=true):=by
  intro q;rw[bQ,bQ] at q;have q1:((cq items.size 0 lo:Nat):Int)=0:=eq_of_beq q.1.1;have q2:cq items.size items.size hi-cq items.size 0 lo=items.size:=eq_of_beq q.2;exact hw ⟨by lia,by lia⟩
 show ξ _ _ (if (((cq items.size 0 lo:Nat):Int)==0&&(1:Int)==1&&(cq items.size items.size hi-cq items.size 0 lo)==items.size)=true then _ else _) _ _ s;rw[if_neg hno,VO]
 first
  |exact δ (m:=gS _) (bG (μ ⟨_,rfl,μ h⟩) htake)
  |exact δ (m:=gS _) (bG (δ (μ (μ ⟨_,rfl,μ h⟩))) htake)
  |exact δ (δ (m:=gS _) (bG (μ (μ ⟨_,rfl,μ h⟩)) htake))
  |exact δ (δ (m:=gS _) (bG (μ ⟨_,rfl,μ h⟩) htake))
end
end HT
namespace L2
open PySem PySem.Spec PyProof.Rows
abbrev TO:=St->Hp->(Option Int->Hp->Prop)->Prop
def PO(X:Cx)(e:Option ρ)(t:TO):Prop:=
 ∀(pins:List (ζ×aP)) (s:η) (σ:St) (H:Hp) (Q:Option Int->Hp->Prop),Inv X pins σ H s->t σ H Q ->
  ξ (model X.prog X.w) X.A (evalPart e X.env) (fun u s'=>∃o H',Inv X pins σ H' s'/\mr u o/\Q o H') X.xe s
def Hg:TO:=fun _ H Q=>Q none H
def M0(t:TE):TO:=fun σ H Q=>t σ H fun x H1=>∃i,x=.int i/\Q (some i) H1
theorem intsAre_of{ns:List Int}:∀{us:List ε},bp (ns.map V.int) us->ff us ns:=by
 induction ns with
 |nil=>intro us r;rw[uy] at r;cases r;exact .nil
 |cons n ns ih=>
  intro us r;rw[bP] at r;cases r with
  |cons r1 r2=>
   obtain⟨t,e⟩:=r1;subst e;exact .cons n t (ih r2)
section
variable {X:Cx} {e:ρ} {te:TE} {lo hi:Option ρ} {tl th:TO} {pos p2:aO}
theorem VN:PO X none Hg:=by
 intro pins s σ H Q I h;rw[evalPart_none];exact μ ⟨none,H,I,.none,h⟩
theorem VM(h:PE X e te):PO X (some e) (M0 te):=by
 intro pins s σ H Q I hw;rw[evalPart_some];refine bJ (h pins s σ H _ I hw) fun u s1 ⟨x,H1,I1,r1,q1⟩=>?_;obtain⟨i,rfl,q⟩:=q1;obtain⟨t,rfl⟩:=r1;exact⟨some i,H1,I1,.int i t,q⟩
def xS(X:Cx)(r:V->Option Int->Option Int->Hp->VK->Prop):Prop:=
 ∀(pins:List (ζ×aP)) (s:η) (σ:St) (H:Hp) (x:V) (v vl vu:ε) (lo hi:Option Int) (sl:ζ) (Q:VK),Inv X pins σ H s->RelV x v->s.heap.IsSliceOf sl vl vu .none->mr vl lo->mr vu hi->r x lo hi H Q ->
  ∃T id,typeLookup (.type T) "__getitem__" = pure (some (.builtin id))/\s.TypeIs v T/\ξ (model X.prog X.w) X.A (getItem v (.ref sl)) (EP X pins σ Q) X.xe s
theorem xS.or{r r':V->Option Int->Option Int->Hp->VK->Prop}(h:xS X r)(h':xS X r'):xS X (fun x lo hi H Q=>r x lo hi H Q∨r' x lo hi H Q):=by
 intro pins s σ H x v vl vu lo hi sl Q I rx hs pl pu q;rcases q with q|q
 ·exact h pins s σ H x v vl vu lo hi sl Q I rx hs pl pu q
 ·exact h' pins s σ H x v vl vu lo hi sl Q I rx hs pl pu q
def tSl(r:V->Option Int->Option Int->Hp->VK->Prop)(te:TE)(tl th:TO):TE:=fun σ H Q=>te σ H fun x H1=>tl σ H1 fun l H2=>th σ H2 fun u H3=>r x l u H3 Q
theorem VL{r:V->Option Int->Option Int->Hp->VK->Prop}(hr:xS X r)(he:PE X e te)(hl:PO X lo tl)(hu:PO X hi th):PE X (.Subscript e (.Slice lo hi none p2) pos) (tSl r te tl th):=by
 intro pins s σ H Q I h;refine Subscript_ (bJ (he pins s σ H _ I h) fun v s1 ⟨x,H1,I1,r1,q1⟩=>?_);refine wpAny_Slice (bJ (hl pins s1 σ H1 _ I1 q1) fun vl s2 ⟨l,H2,I2,pl,q2⟩=>bJ (hu pins s2 σ H2 _ I2 q2) fun vu s3 ⟨u,H3,I3,pu,q3⟩=>?_);rw[evalPart_none];refine μ ?_;have I4:Inv X pins σ H3 { s3 with heap:=s3.heap.push { cls:=.type "slice",data:=.fields #[vl,vu,.none]}}:=I3.kept (t':=s3.toks) fun b ob q=>ι _ q;obtain⟨T,id,hT,ht,hg⟩:=hr pins { s3 with heap:=s3.heap.push { cls:=.type "slice",data:=.fields #[vl,vu,.none]}} σ H3 x v vl vu l u s3.heap.objs.size Q I4 r1 (Ψ.IsSliceOf.new ..) pl pu q3;show ξ (model X.prog X.w) X.A (subscriptTail e (.Slice lo hi none p2) v (.ref s3.heap.objs.size)) (EP X pins σ Q) X.xe { s3 with heap:=s3.heap.push { cls:=.type "slice",data:=.fields #[vl,vu,.none]}};exact tail_any (ops:=[.ref s3.heap.objs.size,v]) ht hT hg (by with_unfolding_all rfl)
def uj(xs:List V)(lo hi:Option Int):List V:=(xs.drop (HT.cq xs.length 0 lo)).take (HT.cq xs.length xs.length hi-HT.cq xs.length 0 lo)
theorem LB(xs:List V)(lo hi:Option Int):(uj xs lo hi).length≤xs.length:=by
 unfold uj;rw[bW,fV];lia
def Oj(K:θ):V->Option Int->Option Int->Hp->VK->Prop:=fun x lo hi H Q=>∃a xs,x=.ref a/\cC K H a xs ∧
 ¬(HT.cq xs.length 0 lo=0/\HT.cq xs.length xs.length hi=xs.length)/\∀p,H p=none->Q (.ref p) (upd H p (.tup (uj xs lo hi)))
theorem HK:xS X (Oj X.K):=by
 intro pins s σ H x v vl vu lo hi sl Q I rx hs pl pu h;obtain⟨a,xs,rfl,hx,hw,q⟩:=h;cases rx;obtain⟨its,r,ht,hz⟩:=I.tuple hx;have hlen:its.toArray.size=xs.length:=by rw[Γ];exact r.length.symm
 refine⟨"tuple",_,cP.lookup,ht.typeIs,?_⟩;refine HT.uU ht hs pl pu (by rw[hlen];exact hw) ?_ (by rw[hlen];exact hz);rw[hlen];refine⟨.ref s.heap.objs.size,_,I.laid (t':=s.toks) (o:=.tup (uj xs lo hi)) (fun b ob q=>ι _ q) (Θ _) ?_,rfl,q _ (I.bF.fresh (Θ _))⟩;exact⟨aA (LB xs lo hi) hz,_,(r.drop (HT.cq xs.length 0 lo)).take (HT.cq xs.length xs.length hi-HT.cq xs.length 0 lo),kQ.new _ _⟩
def HM(K:θ):R2:=fun x y H Q=>∃a b ns ms,x=.ref a/\y=.ref b/\cC K H a (ns.map V.int)/\cC K H b (ms.map V.int)/\Q (.bl (HT.lexLt ns ms)) H
theorem VJ(hu:X.A.units<cLine):fF X (compareOp .Lt) (HM X.K):=by
 intro pins s σ H x y v u Q I rx ry h;obtain⟨a,b,ns,ms,rfl,rfl,ha,hb,q⟩:=h;cases rx;cases ry;obtain⟨its,r1,p1,_⟩:=I.tuple ha;obtain⟨its2,r2,p2,_⟩:=I.tuple hb;have i1:ff its.toArray.toList ns:=intsAre_of r1;have i2:ff its2.toArray.toList ms:=intsAre_of r2;exact HT.wC p1 p2 i1 i2 hu ⟨.bl (HT.lexLt ns ms),H,I,rfl,q⟩
def Gf(K:θ):R2:=fun x y H Q=>∃a b xs ys,x=.ref a/\y=.ref b/\cC K H a xs/\cC K H b ys/\xs≠[]/\xs.length+ys.length≤au ∧
 (ys=[]->Q (.ref a) H)/\(ys≠[]->∀p,H p=none->Q (.ref p) (upd H p (.tup (xs++ys))))
theorem bp.xA{xs:List V}{us:List ε}(r:bp xs us):us=[]↔xs=[]:=by
 cases r with
 |nil=>simp
 |cons _ _=>simp
theorem Hm:fF X (binaryOp .Add) (Gf X.K):=by
 intro pins s σ H x y v u Q I rx ry h;obtain⟨a,b,xs,ys,rfl,rfl,ha,hb,hx,hz,q1,q2⟩:=h;cases rx;cases ry;obtain⟨its,r1,p1,_⟩:=I.tuple ha;obtain⟨its2,r2,p2,_⟩:=I.tuple hb;refine HT.Ht p1 p2 (fun z=>hx (r1.xA.mp z)) (fun z=>⟨.ref a,H,I,rfl,q1 (r2.xA.mp z)⟩) (fun z=>?_) (by rw[←r1.length,←r2.length];exact hz);refine⟨.ref s.heap.objs.size,_,I.laid (t':=s.toks) (o:=.tup (xs++ys)) (fun b ob q=>ι _ q) (Θ _) ?_,rfl,q2 (fun w=>z (r2.xA.mpr w)) _ (I.bF.fresh (Θ _))⟩;exact⟨by rw[aq];exact hz,_,r1.append r2,kQ.new _ _⟩
end
end L2
namespace L2
open PySem PySem.Spec PyProof.Rows
def ud(n:Nat)(i:Int):Option Nat:=if 0≤i then (if i<n then some i.toNat else none) else if -(n:Int)≤i then some (i+n).toNat else none
def kF{α:Type}(xs:List α)(i:Int):Option α:=(ud xs.length i).bind fun j=>xs[j]?
theorem LA{n:Nat}{i:Int}{j:Nat}(h:ud n i=some j):seqIndex? i n=some j/\j<n/\-(n:Int)≤i/\i<n:=by
 unfold ud at h;by_cases h0:0≤i
 ·rw[if_pos h0] at h;by_cases h1:i<n
  ·rw[if_pos h1] at h;have e:i.toNat=j:=aD h;exact⟨by rw[qW h0 h1,e],by lia,by lia,h1⟩
  ·rw[if_neg h1] at h;cases h
 ·rw[if_neg h0] at h;by_cases h1:-(n:Int)≤i
  ·rw[if_pos h1] at h;have e:(i+n).toNat=j:=aD h;exact⟨by rw[seqIndex_neg (by lia) h1,e],by lia,h1,by lia⟩
  ·rw[if_neg h1] at h;cases h
theorem Be{α:Type}{xs:List α}{i:Int}{v:α}(h:kF xs i=some v):∃j,seqIndex? i xs.length=some j/\xs[j]?=some v/\j<xs.length/\-(xs.length:Int)≤i/\i<xs.length:=by
 unfold kF at h;cases e:ud xs.length i with
 |none=>rw[e] at h;cases h
 |some j=>
  rw[e] at h;obtain⟨h1,h2,h3,h4⟩:=LA e;exact⟨j,h1,h,h2,h3,h4⟩
theorem yY{α:Type}{xs:List α}{j:Nat}{v:α}(h:xs[j]?=some v):kF xs (j:Int)=some v:=by
 have hj:j<xs.length:=(ak.mp h).1;have e:ud xs.length (j:Int)=some j:=by
  unfold ud;rw[if_pos (by lia),if_pos (by lia)];simp
 unfold kF;rw[e];exact h
def rC(b:ρ):Prop:=∀o i,subscripted b false o i=operate [o,i] (getItem o i)
def wL(X:Cx)(r:R2):Prop:=
 ∀(value slice:ρ) (pins:List (ζ×aP)) (s:η) (σ:St) (H:Hp) (x y:V) (v u:ε) (Q:VK),Inv X pins σ H s->RelV x v->RelV y u->r x y H Q ->
  subscripted slice false v u=operate [v,u] (getItem v u)->ξ (model X.prog X.w) X.A (subscriptTail value slice v u) (EP X pins σ Q) X.xe s
def Dh(X:Cx)(id:String)(r:V->List V->Hp->VK->Prop):Prop:=
 ∀(pins:List (ζ×aP)) (s:η) (σ:St) (H:Hp) (x:V) (xs:List V) (v:ε) (us:List ε) (Q:VK),Inv X pins σ H s->RelV x v->bp xs us->r x xs H Q ->
  ξ (model X.prog X.w) X.A (call (.builtin id) (v::us)) (EP X pins σ Q) X.xe s
section
variable {X:Cx} {a b:ρ} {ta tb:TE} {pos:aO}
theorem wL.or{r r':R2}(h:wL X r)(h':wL X r'):wL X (fun x y H Q=>r x y H Q∨r' x y H Q):=by
 intro value slice pins s σ H x y v u Q I rx ry q hs;rcases q with q|q
 ·exact h value slice pins s σ H x y v u Q I rx ry q hs
 ·exact h' value slice pins s σ H x y v u Q I rx ry q hs
theorem Lz{r:R2}(hr:wL X r)(ha:PE X a ta)(hb:PE X b tb)(hs:rC b):PE X (.Subscript a b pos) (CK r ta tb):=by
 intro pins s σ H Q I h;exact Subscript_ (FP ha hb I h fun v u s2 x y H2 I2 rx ry q=>hr a b pins s2 σ H2 x y v u Q I2 rx ry q (hs _ _))
def Dq(K:θ):R2:=fun x y H Q=>∃p xs i v,x=.ref p/\y=.int i/\fM K H p xs/\kF xs i=some v/\Q v H
def HP(K:θ):R2:=fun x y H Q=>∃p xs i v,x=.ref p/\y=.int i/\cC K H p xs/\kF xs i=some v/\Q v H
def HQ:R2:=fun x y H Q=>∃z i c,x=.str z/\y=.int i/\z.length≤au/\kF z.cps.toList i=some c/\Q (.str ⟨#[c]⟩) H
theorem Hr:wL X (Dq X.K):=by
 intro value slice pins s σ H x y v u Q I rx ry h hs;obtain⟨p,xs,i,z,rfl,rfl,hq,he,q⟩:=h;cases rx;obtain⟨t,rfl⟩:=ry;obtain⟨its,r,pl,hz⟩:=I.list hq;obtain⟨j,h1,h2,h3,h4,h5⟩:=Be he;obtain⟨w,ew,rw'⟩:=r.get h2;have hl:=r.length;have hn:=nz;have fin:EP X pins σ Q w s:=⟨z,H,I,rw',q⟩;by_cases h0:0≤i
 ·have hj:i.toNat=j:=by
   rw[qW h0 h5] at h1;exact aD h1
  exact item_listR pl.isList h0 (by lia) (by rw[hj];simpa using ew) fin hs
 ·have hj:(i+(its.toArray.size:Int)).toNat=j:=by
   rw[seqIndex_neg (by lia) h4] at h1;rw[Γ,←hl];exact aD h1
  exact subscriptTail_builtinR (x:=w) pl.isList.typeIs slot_list_getitem.lookup
   (wpAny_getItem_list_neg (Q:=fun r s'=>r=w/\EP X pins σ Q r s') pl.isList (by lia) (by rw[Γ]<;>lia) (by lia) (by rw[hj];simpa using ew) ⟨rfl,fin⟩) hs
theorem Mu:wL X (HP X.K):=by
 intro value slice pins s σ H x y v u Q I rx ry h hs;obtain⟨p,xs,i,z,rfl,rfl,hq,he,q⟩:=h;cases rx;obtain⟨t,rfl⟩:=ry;obtain⟨its,r,pl,hz⟩:=I.tuple hq;obtain⟨j,h1,h2,h3,h4,h5⟩:=Be he;obtain⟨w,ew,rw'⟩:=r.get h2;have hl:=r.length;have hn:=nz;have fin:EP X pins σ Q w s:=⟨z,H,I,rw',q⟩;exact subscriptTail_builtinR (x:=w) pl.typeIs slot_tuple_getitem.lookup
  (getItem_tuple (j:=j) (Q:=fun r s'=>r=w/\EP X pins σ Q r s') pl (by lia) (by lia) (by rw[Γ,←hl];exact h1) (by simpa using ew) ⟨rfl,fin⟩) hs
theorem VI:wL X HQ:=by
 intro value slice pins s σ H x y v u Q I rx ry h hs;obtain⟨z,i,c,rfl,rfl,hz,he,q⟩:=h;obtain⟨t,rfl⟩:=rx;obtain⟨t',rfl⟩:=ry;obtain⟨j,h1,h2,h3,h4,h5⟩:=Be he;have hl:z.cps.toList.length=z.length:=by simp[ν.length]
 rw[hl] at h1 h4 h5;have hn:=nz;exact tail_any (typeIs_str s z t) slot_str_getitem.lookup (getItem_str (c:=c) (by
  have e1:decide (i < -(2^63:Int))=false:=decide_eq_false (by lia);have e2:decide (i≥2^63)=false:=decide_eq_false (by lia);rw[e1,e2,kZ]) (by rw[h1];simpa using h2) ⟨.str ⟨#[c]⟩,H,I.tok _,⟨_,rfl⟩,q⟩) hs
def NQ(K:θ):R2:=fun x y H Q=>Dq K x y H Q∨HP K x y H Q∨HQ x y H Q
theorem Ly:wL X (NQ X.K):=Hr.or (Mu.or VI)
theorem VH(its:List ε)(n j:Nat)(u:ε):bq (·.setIfInBounds j u) { cls:=.type "list",data:=.seq its.toArray n }={ cls:=.type "list",data:=.seq (its.set j u).toArray n }:=by
 simp[bq]
theorem Inv.lst{pins:List (ζ×aP)}{σ:St}{H:Hp}{s:η}{p:ζ}{xs:List V}(I:Inv X pins σ H s)(h:H p=some (.lst xs)):
  ∃(its:List ε) (n:Nat),bp xs its/\s.heap.get? p=some { cls:=.type "list",data:=.seq its.toArray n }/\xs.length≤au:=by
 obtain⟨z,its,n,r,e⟩:=I.bF p _ h;exact⟨its,n,r,e,z⟩
theorem Inv.Mp{pins:List (ζ×aP)}{σ:St}{H:Hp}{s:η}{p:ζ}{xs ys:List V}{its its':List ε}{n n':Nat}{f:aP->aP}(I:Inv X pins σ H s)(h:H p=some (.lst xs))
  (ho:s.heap.get? p=some { cls:=.type "list",data:=.seq its.toArray n }) (hf:f { cls:=.type "list",data:=.seq its.toArray n }={ cls:=.type "list",data:=.seq its'.toArray n' }) (r:bp ys its') (hz:ys.length≤au) (t:Nat):
  Inv X pins σ (upd H p (.lst ys)) { s with heap:=s.heap.update p f,toks:=t }:=by
 have e:(s.heap.update p f).get? p=some { cls:=.type "list",data:=.seq its'.toArray n' }:=by
  rw[bu f ho (by rw[hf]<;>rfl),hf]
 refine I.write (x:=p) (e:=p) (by rw[h];trivial) (.inl rfl) (fun b u hb q=>(ay _ _ (di hb)).trans q) ⟨_,e⟩ ?_;exact⟨hz,its',n',r,e⟩
def Gc:V->V->V->Hp->(Hp->Prop)->Prop:=fun o i v H Q=>∃p xs k j,o=.ref p/\i=.int k/\H p=some (.lst xs)/\ud xs.length k=some j/\Q (upd H p (.lst (xs.set j v)))
theorem set_list:FR X Gc:=by
 intro pins s σ H o i v ov iv u Q I ro ri rv h;obtain⟨p,xs,k,j,rfl,rfl,hp,hj,q⟩:=h;cases ro;obtain⟨t,rfl⟩:=ri;obtain⟨its,n,r,ho,hz⟩:=I.lst hp;obtain⟨h1,h2,h3,h4⟩:=LA hj;have hl:=r.length;have hn:=nz;have I':Inv X pins σ (upd H p (.lst (xs.set j v))) { s with heap:=s.heap.update p (bq (·.setIfInBounds j u))}:=
  I.Mp hp ho (VH its n j u) (r.set rv j) (by rw[List.length_set];exact hz) s.toks
 by_cases h0:0≤k
 ·have hk:k.toNat=j:=by
   rw[qW h0 h4] at h1;exact aD h1
  exact PySem.W.ki_setAt ho h0 (by lia) (by rw[Γ,←hl];exact h4) (by rw[hk];exact⟨_,I',q⟩)
 ·have hk:(k+(its.toArray.size:Int)).toNat=j:=by
   rw[seqIndex_neg (by lia) h3] at h1;rw[Γ,←hl];exact aD h1
  exact PySem.W.ki_setBack ho (by lia) (by rw[Γ,←hl];exact h3) (by lia) (by rw[hk];exact⟨_,I',q⟩)
theorem VG(lo hi:Option Int)(n:Nat):(sliceBounds lo hi none n).1=((HT.cq n 0 lo:Nat):Int)/\(sliceBounds lo hi none n).2.1=((HT.cq n n hi:Nat):Int)/\(sliceBounds lo hi none n).2.2=1:=by
 refine⟨?_,?_,rfl⟩
 ·cases lo with
  |none=>simp[sliceBounds,HT.cq]
  |some i=>
   simp only[sliceBounds,HT.cq,wc,show (1:Int) > 0 by decide,if_true];by_cases h:i<0
   ·simp only[h,if_true]<;>lia
   ·simp only[h,if_false]<;>lia
 ·cases hi with
  |none=>simp[sliceBounds,HT.cq]
  |some i=>
   simp only[sliceBounds,HT.cq,wc,show (1:Int) > 0 by decide,if_true];by_cases h:i<0
   ·simp only[h,if_true]<;>lia
   ·simp only[h,if_false]<;>lia
theorem VF(its:List ε)(lo hi:Option Int):slicePick its.toArray lo hi none=((its.drop (HT.cq its.length 0 lo)).take (HT.cq its.length its.length hi-HT.cq its.length 0 lo)).toArray:=by
 obtain⟨h1,h2,h3⟩:=VG lo hi its.toArray.size;unfold slicePick;rw[h1,h2,h3];simp only[sliceRange_one,pick_run,Γ]<;>rfl
def Ol(K:θ):V->Option Int->Option Int->Hp->VK->Prop:=fun x lo hi H Q=>∃a xs,x=.ref a/\fM K H a xs/\∀p,H p=none->Q (.ref p) (upd H p (.lst (uj xs lo hi)))
theorem VE:xS X (Ol X.K):=by
 intro pins s σ H x v vl vu lo hi sl Q I rx hs pl pu h;obtain⟨a,xs,rfl,hx,q⟩:=h;cases rx;obtain⟨its,r,ht,hz⟩:=I.list hx;have hlen:=r.length;refine⟨"list",_,slot_list_getitem.lookup,ht.isList.typeIs,?_⟩;refine wpAny_getItem_list_slice ht.isList hs pl pu .none (by simp) ?_ (by rw[Γ]<;>lia)
 rw[VF,←hlen];refine⟨.ref s.heap.objs.size,_,I.laid (t':=s.toks) (o:=.lst (uj xs lo hi)) (fun b ob q=>ι _ q) (Θ _) ?_,rfl,q _ (I.bF.fresh (Θ _))⟩;exact⟨aA (LB xs lo hi) hz,_,0,(r.drop (HT.cq xs.length 0 lo)).take (HT.cq xs.length xs.length hi-HT.cq xs.length 0 lo),af _ rfl⟩
theorem VD:jI X (.builtin "len") (fun xs H Q=>∃p ys,xs=[.ref p]/\(fM X.K H p ys∨cC X.K H p ys)/\Q (.int ys.length) H):=by
 intro pins s σ H xs us Q I r h;obtain⟨p,ys,rfl,hq,q⟩:=h;obtain⟨u,rfl,rx⟩:=vals1 r;cases rx;have hn:=nz;rcases hq with hq|hq
 ·obtain⟨its,r',pl,hz⟩:=I.list hq;have hlen:=r'.length;exact Calls.call_len_list pl.isList (by simp only[Γ]<;>lia) ⟨.int ys.length,H,I.tok _,⟨s.toks+1,by rw[Γ,hlen]⟩,q⟩
 ·obtain⟨its,r',pl,hz⟩:=I.tuple hq;have hlen:=r'.length;exact len_tuple pl (by simp only[Γ]<;>lia) ⟨.int ys.length,H,I.tok _,⟨s.toks+1,by rw[Γ,hlen]⟩,q⟩
theorem VC:jI X (.type "tuple") (fun xs H Q=>∃p ys,xs=[.ref p]/\((fM X.K H p ys/\∀l,H l=none->Q (.ref l) (upd H l (.tup ys)))∨(cC X.K H p ys/\Q (.ref p) H))):=by
 intro pins s σ H xs us Q I r h;obtain⟨p,ys,rfl,h⟩:=h;obtain⟨u,rfl,rx⟩:=vals1 r;cases rx;rcases h with⟨hq,q⟩|⟨hq,q⟩
 ·obtain⟨its,r',pl,hz⟩:=I.list hq;have hlen:=r'.length;refine call_tuple_list pl.isList (fun h' kp=>?_) (by simp only[Γ]<;>lia)
  have I1:Inv X pins σ H { s with heap:=h' }:=I.kept (t':=s.toks) kp;have I2:Inv X pins σ (upd H h'.objs.size (.tup ys)) { s with heap:=h'.push { cls:=.type "tuple",data:=.seq its.toArray }}:=
   I1.laid (t':=s.toks) (fun b o e=>ι _ e) (Θ _) (show bV X.prog X.w _ _ _ (.tup ys) from⟨hz,its,r',kQ.new _ _⟩)
  exact⟨.ref h'.objs.size,_,I2,rfl,q _ (I1.bF.fresh (Θ _))⟩
 ·obtain⟨its,r',pl,hz⟩:=I.tuple hq;exact call_tuple_same pl ⟨.ref p,H,I,rfl,q⟩
def NP(K:θ)(T:String)(x:V)(H:Hp):Prop:=match x with
 |.str _=>T="str"
 |.int _=>T="int"
 |.ref p=>(T="list"/\∃xs,fM K H p xs)∨(T="tuple"/\∃o,K.lookup p=some o/\o.cls=.type "tuple"/\o.dict=none) ∨
   (T="dict"/\((∃kvs,H p=some (.dK kvs))∨∃kvs,H p=some (.dT kvs)))∨(T="set"/\∃S n,H p=some (.set S n))
 |_=>False
theorem VB{pins:List (ζ×aP)}{σ:St}{H:Hp}{s:η}{T:String}{x:V}{v:ε}(I:Inv X pins σ H s)(r:RelV x v)(ty:NP X.K T x H):
  s.TypeIs v T/\∀a,v=.ref a->∃ob,s.heap.get? a=some ob/\ob.dict=none:=by
 cases x with
 |str z=>
  obtain⟨t,rfl⟩:=r;cases (show T="str" from ty);exact⟨typeIs_str s z t,fun _ e=>nomatch e⟩
 |int i=>
  obtain⟨t,rfl⟩:=r;cases (show T="int" from ty);exact⟨typeIs_int s i t,fun _ e=>nomatch e⟩
 |ref p=>
  cases r;rcases ty with⟨rfl,xs,hq⟩|⟨rfl,o,hk,hc,hd⟩|⟨rfl,hk⟩|⟨rfl,S,n,hk⟩
  ·obtain⟨its,_,pl,_⟩:=I.list hq;refine⟨pl.isList.typeIs,fun a e=>?_⟩;cases e;obtain⟨o,n,e,c,hd,_⟩:=pl;exact⟨o,e,hd⟩
  ·refine⟨⟨o,I.gk p o hk,hc⟩,fun a e=>?_⟩;cases e;exact⟨o,I.gk _ o hk,hd⟩
  ·have z:∃o,s.heap.get? p=some o/\o.ExactDict:=by
    rcases hk with⟨kvs,hk⟩|⟨kvs,hk⟩
    ·obtain⟨_,_,_,_,o,_,_,e,ex,_⟩:=I.bF p _ hk;exact⟨o,e,ex⟩
    ·obtain⟨_,_,_,_,o,_,_,e,ex,_⟩:=I.bF p _ hk;exact⟨o,e,ex⟩
   obtain⟨o,e,ex⟩:=z;refine⟨⟨o,e,ex.1⟩,fun a e2=>?_⟩;cases e2;exact⟨o,e,ex.2.1⟩
  ·obtain⟨o,_,_,_,e,ex,_⟩:=I.bF p _ hk;refine⟨⟨o,e,ex.1⟩,fun a e2=>?_⟩;cases e2;exact⟨o,e,ex.2.1⟩
 |_=>exact br ty
def HJ(K:θ)(T:String)(r:V->List V->Hp->VK->Prop)(to:TE)(t:TA):TE:=fun σ H Q=>to σ H fun x H1=>NP K T x H1/\t σ H1 fun xs H2=>r x xs H2 Q
variable {o e:ρ} {es:List ρ} {to:TE} {t:TA} {name:ν} {apos cpos:aO} {T id:String} {r:V->List V->Hp->VK->Prop}
theorem VA(pa:PlainAttrs T)(slot:Slot T name id)(hty:typeOf (.builtin id)=pure (.type "method_descriptor"))(hm:Dh X id r)(ho:PE X o to)(ha:PA X (e::es) t)
  (sA:attributeBase o name X.env (eval o X.env)=eval o X.env:=by rfl)
  (Fo:((backTo cpos (bM (e::es) X.env)).all (fun x=>!x.1)&&(backToKw cpos (keywordEach [] X.env)).all (fun x=>x.1.isSome)
   && decide ((e::es).length+([]:List Keyword).length+(if ([]:List Keyword).isEmpty then 0 else 1)<30))=true:=by rfl)
  (BE:(apos.endLine==cpos.line)=true:=by rfl) (hs:bM (e::es) X.env=(false,eval e X.env)::bM es X.env:=by rfl) (hplain:(backTo cpos (bM es X.env)).any (·.1)=false:=by rfl):
  PE X (.Call (.Attribute o name apos) (e::es) [] cpos) (HJ X.K T r to t):=by
 intro pins s σ H Q I h;refine wpAny_Call_method_late sA Fo BE rfl (bJ (ho pins s σ H _ I h) fun v s1 ⟨x,H1,I1,r1,ty,q1⟩=>?_);obtain⟨h1,h2⟩:=VB I1 r1 ty;refine⟨T,id,pa,slot,hty,h1,h2,?_⟩;have hA:=ha cpos pins s1 σ H1 _ I1 q1;rw[hs] at hA ⊢;refine Calls.callWith_builtin (by show (false||(backTo cpos (bM es X.env)).any (·.1))=false;rw[hplain]<;>rfl) (Calls.evalArgs_plain ?_)
 exact bJ hA fun us s2 ⟨vs,H2,I2,r2,q2⟩=>hm pins s2 σ H2 x vs v us Q I2 r1 r2 q2
/- xs.append(e),list.index on a module's tuple .. are Dh facts of 06m -/
end
end L2
namespace L2
open PySem PySem.Spec PyProof.Rows
def MM(X:Cx)(id:String)(r:V->List V->Hp->VK->Prop):Prop:=
 ∀(pins:List (ζ×aP)) (s:η) (σ:St) (H:Hp) (x:V) (xs:List V) (v:ε) (us:List ε) (Q:VK),Inv X pins σ H s->RelV x v->bp xs us->r x xs H Q ->
  ξ (model X.prog X.w) X.A (call (.builtin id) (v::us)) (EP X pins σ Q) X.xe s
theorem bp.one:∀{x:V} {us:List ε},bp [x] us->∃u,us=[u]/\RelV x u
 |_,_,.cons r .nil=>⟨_,rfl,r⟩
theorem bp.zero:∀{us:List ε},bp [] us->us=[]
 |_,.nil=>rfl
theorem bp.eraseIdx:∀{xs:List V} {us:List ε} (i:Nat),bp xs us->bp (xs.eraseIdx i) (us.eraseIdx i)
 |_,_,_,.nil=>.nil
 |_,_,0,.cons _ t=>t
 |_,_,i+1,.cons r t=>.cons r (bp.eraseIdx i t)
theorem bp.rep{xs:List V}{us:List ε}(h:bp xs us):∀k:Nat,bp (bo k xs).flatten (bo k us).flatten
 |0=>.nil
 |k+1=>by
  rw[fO,fO,iA,iA];exact bp.append h (bp.rep h k)
theorem ET{α:Type}:∀(l:List α) (i:Nat),(l.eraseIdx i).length≤l.length
 |[],_=>Θ _
 |_::_,0=>vp _
 |_::r,i+1=>Nat.succ_le_succ (ET r i)
theorem foldl_rep(its:List ε):∀(k:Nat) (acc:List ε),
  wX (fun x1 x2=>x1++x2) acc.toArray (bo k its.toArray)=(acc++(bo k its).flatten).toArray
 |0,acc=>by simp
 |k+1,acc=>by
  have e:acc.toArray++its.toArray=(acc++its).toArray:=by simp
  have e2:(acc++its)++(bo k its).flatten=acc++(bo (k+1) its).flatten:=by
   rw[fO,iA,fC]
  rw[←e2,←foldl_rep its k (acc++its),←e,fO,List.foldl_cons]
section
variable {X:Cx} {pins:List (ζ×aP)} {σ:St} {H:Hp} {s:η} {l b:ζ} {xs ys zs:List V}
theorem Inv.Fj{its its':List ε}{n:Nat}{f:Array ε->Array ε}{t':Nat}(I:Inv X pins σ H s)(hH:H l=some (.lst xs))
  (e:s.heap.get? l=some { cls:=.type "list",data:=.seq its.toArray n }) (hf:f its.toArray=its'.toArray) (hv:bp ys its') (hz:ys.length≤au):
  Inv X pins σ (upd H l (.lst ys)) { s with heap:=s.heap.update l (bq f),toks:=t' }:=by
 have q:=PySem.IsL.update e f;rw[hf] at q;refine I.write (x:=l) (e:=l) (by rw[hH];exact trivial) (.inl rfl) (fun b' u hb hu=>(ay s.heap (bq f) (di hb)).trans hu) ⟨_,q⟩ ?_;exact⟨hz,its',_,hv,q⟩
theorem Inv.Fm{its:List ε}{t':Nat}(I:Inv X pins σ H s)(hv:bp ys its)(hz:ys.length≤au):
  Inv X pins σ (upd H s.heap.objs.size (.lst ys)) { s with heap:=s.heap.push { cls:=.type "list",data:=.seq its.toArray },toks:=t' }:=
 I.laid (fun _ _ q=>ι _ q) (Θ _) ⟨hz,its,0,hv,af _ rfl⟩
theorem Inv.fresh(I:Inv X pins σ H s):H s.heap.objs.size=none:=I.bF.fresh (Θ _)
theorem Inv.sg(I:Inv X pins σ H s)(hH:H l=some (.lst xs)):xs.length≤au/\∃(its:List ε) (n:Nat),bp xs its/\xs.length=its.length/\s.heap.get? l=some { cls:=.type "list",data:=.seq its.toArray n }:=by
 obtain⟨z,its,n,r,e⟩:=I.bF l _ hH;exact⟨z,its,n,r,r.length,e⟩
theorem zi{n:Nat}(h:n≤au):gT n=false:=by
 unfold gT;exact decide_eq_false (by lia)
end
section
variable {X:Cx}
def zW:V->List V->Hp->VK->Prop:=fun x vs H Q=>∃l xs y,x=.ref l/\vs=[y]/\H l=some (.lst xs)/\xs.length<au/\Q .aC (upd H l (.lst (xs++[y])))
theorem Bc:MM X "list.append" zW:=by
 intro pins s σ H x vs v us Q I rx rv h;obtain⟨l,xs,y,rfl,rfl,hH,hz,q⟩:=h;cases rx;obtain⟨u,rfl,ru⟩:=rv.one;obtain⟨z,its,n,r,hl,e⟩:=I.sg hH;refine kr F.slot_list_append ⟨_,e,rfl⟩ F.entry_list_append (F.args_list_append_2 _ _) (PySem.list_append l its.toArray n u (by rw[Γ];lia)) ⟨e,?_⟩;refine⟨.aC,_,I.Fj (its':=its++[u]) hH e (by simp) (r.append (.cons ru .nil)) ?_,rfl,q⟩;rw[aq,iN];lia
def Hk:V->List V->Hp->VK->Prop:=fun x vs H Q=>∃l b xs zs,x=.ref l/\vs=[.ref b]/\H l=some (.lst xs)/\H b=some (.lst zs)/\xs.length+zs.length≤au/\Q .aC (upd H l (.lst (xs++zs)))
theorem abn:MM X "list.extend" Hk:=by
 intro pins s σ H x vs v us Q I rx rv h;obtain⟨l,b,xs,zs,rfl,rfl,hH,hB,hz,q⟩:=h;cases rx;obtain⟨u,rfl,ru⟩:=rv.one;cases ru;obtain⟨z,its,n,r,hl,e⟩:=I.sg hH;obtain⟨z2,its2,n2,r2,hl2,e2⟩:=I.sg hB;have hsz:its.toArray.size+its2.toArray.size≤au:=by rw[Γ,Γ];lia
 have hlong:¬(!its.toArray.isEmpty&&gT (its.toArray.size+its2.toArray.size))=true:=by
  rw[zi hsz,kx];exact ar
 refine kr F.slot_list_extend ⟨_,e,rfl⟩ F.entry_list_extend (F.args_list_extend_2 _ _)
  (AutoSeq1.list_extend_list_list_0 l its.toArray n b its2.toArray n2 hlong (by rw[Γ];lia) (by lia)) ⟨e,e2,?_⟩
 refine⟨.aC,_,I.Fj (its':=its++its2) hH e (by simp) (r.append r2) ?_,rfl,q⟩;rw[aq];lia
def CT:V->List V->Hp->VK->Prop:=fun x vs H Q=>∃l xs i k y,x=.ref l/\vs=[.int i]/\H l=some (.lst xs)/\-(2^63)≤i/\i<2^63/\seqIndex? i xs.length=some k/\xs[k]?=some y/\Q y (upd H l (.lst (xs.eraseIdx k)))
theorem Vz:MM X "list.pop" CT:=by
 intro pins s σ H x vs v us Q I rx rv h;obtain⟨l,xs,i,k,y,rfl,rfl,hH,h1,h2,hk,hy,q⟩:=h;cases rx;obtain⟨u,rfl,ru⟩:=rv.one;obtain⟨t,rfl⟩:=ru;obtain⟨z,its,n,r,hl,e⟩:=I.sg hH;obtain⟨w,hw,rw'⟩:=r.get hy;refine kr F.slot_list_pop ⟨_,e,rfl⟩ F.entry_list_pop (F.args_list_pop_2 _ _)
  (MeetsSeq.list_pop_at l its.toArray n i t k w (fitsIndex_both h1 h2) (by rw[Γ,←hl];exact hk) (by rw[←bj];exact hw) (by rw[Γ];lia)) ⟨e,?_⟩
 refine⟨y,_,I.Fj (its':=its.eraseIdx k) hH e ?_ (r.eraseIdx k) ?_,rw',q⟩
 ·show its.toArray.eraseIdxIfInBounds k=(its.eraseIdx k).toArray;rw[List.eraseIdxIfInBounds_toArray]
 ·have:=ET xs k;lia
def HU:R2:=fun x y H Q=>∃l b xs zs,x=.ref l/\y=.ref b/\H l=some (.lst xs)/\H b=some (.lst zs)/\xs.length+zs.length≤au/\∀p,H p=none->Q (.ref p) (upd H p (.lst (xs++zs)))
theorem L9:fF X (binaryOp .Add) HU:=by
 intro pins s σ H x y v u Q I rx ry h;obtain⟨l,b,xs,zs,rfl,rfl,hH,hB,hz,q⟩:=h;cases rx;cases ry;obtain⟨z,its,n,r,hl,e⟩:=I.sg hH;obtain⟨z2,its2,n2,r2,hl2,e2⟩:=I.sg hB;refine PySem.P.add_list e e2 ?_ (by rw[Γ,Γ];lia);have ea:its.toArray++its2.toArray=(its++its2).toArray:=by simp
 rw[ea];exact⟨.ref _,_,I.Fm (t':=s.toks) (r.append r2) (by rw[aq];lia),rfl,q _ I.fresh⟩
def HL:R2:=fun x y H Q=>∃l k xs,x=.ref l/\y=.int k/\H l=some (.lst xs)/\-(2^63)≤k/\k<2^63/\xs.length*k.toNat≤au ∧
 ∀p,H p=none->Q (.ref p) (upd H p (.lst (bo k.toNat xs).flatten))
theorem len_rep{α:Type}(xs:List α)(k:Nat):(bo k xs).flatten.length=k*xs.length:=by
 induction k with
 |zero=>simp
 |succ k ih=>rw[fO,iA,aq,ih,Nat.succ_mul,mm]
theorem Vy:fF X (binaryOp .Mult) HL:=by
 intro pins s σ H x y v u Q I rx ry h;obtain⟨l,k,xs,rfl,rfl,hH,h1,h2,hz,q⟩:=h;cases rx;obtain⟨t,rfl⟩:=ry;obtain⟨z,its,n,r,hl,e⟩:=I.sg hH;have hlen:its.toArray.size*k.toNat≤au:=by rw[Γ,←hl];exact hz
 have hcap:¬its.toArray.size*k.toNat > (2^63-1) / 8:=by
  have:(au:Nat)≤(2^63-1) / 8:=by decide
  lia
 have hfit:¬(!cS.List.listFitsIndex k)=true:=by
  rw[fitsIndex_both h1 h2];exact ar
 have hlong:¬gT (its.toArray.size*k.toNat)=true:=by
  rw[zi hlen];exact ar
 have hnew:wX (fun x1 x2=>x1++x2) #[] (bo (if its.toArray.isEmpty=true then 0 else k.toNat) its.toArray)=(bo k.toNat its).flatten.toArray:=by
  have f0:∀m:Nat,wX (fun x1 x2=>x1++x2) #[] (bo m its.toArray)=(bo m its).flatten.toArray:=fun m=>by
   have:=foldl_rep its m [];rw[cW] at this;exact this
  rw[f0];cases its with
  |nil=>simp
  |cons a r'=>rw[if_neg (by simp)]
 refine wpAny_binaryOp_repeat_ref (T:="list") (U:="int") (by decide) ⟨_,e,rfl⟩ (fun s'=>typeIs_int s' k t) noFill_list_mul F.fills_int_mul F.slot_int_rmul repeat_list F.slot_int_index.lookup
  (kr F.slot_int_rmul (typeIs_int s k t) F.entry_int_rmul (F.args_int_rmul_2 _ _) (int___rmul___int_list k t l its.toArray n)
   ⟨e,rfl,⟨_,e,rfl⟩,kr F.slot_list_mul ⟨_,e,rfl⟩ F.entry_list_mul (F.args_list_mul_2 _ _) (AutoListH.list___mul___list_int_3 l its.toArray n k t hfit hcap hlong) ⟨e,?_⟩⟩)
 rw[hnew];exact⟨.ref _,_,I.Fm (t':=s.toks) (r.rep k.toNat) (by rw[len_rep,mi];exact hz),rfl,q _ I.fresh⟩
end
end L2
namespace N1
open PySem PySem.W PySem.Calls PyProof.Rows
theorem Vx{P:Params}{h:Ψ}:∀(ns:List Int) (vs:List ε),WellAll P h vs (ns.map WData.int)->ff vs ns:=by
 intro ns
 induction ns with
 |nil=>
  intro vs w;rw[uy] at w;cases w;exact .nil
 |cons n ns ih=>
  intro vs w;rw[bP] at w;cases w with
  |cons a b=>
   cases a;exact .cons _ _ (ih _ b)
theorem Vw{l:OpenLaw}{n:Nat}(hn:l.most=some n){P:Params}{h:Ψ}{args:List WData}{vals:List ε}
  (BD:l.row.toRowW.claim.pre args=true) (hwl:WellAll P h vals args):
  ∃a vs ns,vals=[aH a]/\args=[WData.list (ns.map WData.int)]/\h.get? a=some { cls:=.type "list",data:=.seq vs.toArray }/\ff vs ns/\ns.length≤n:=by
 have hsh:WShape.hasAll [] args [.list .int]=true:=(pre_splitW BD).1;have hc:l.pre.holds [] { args:=args }=true:=(pre_splitW BD).2;obtain⟨d,r,rfl,h1,h2⟩:=hasAllW_cons hsh;obtain rfl:=hasAllW_nil h2;obtain⟨xs,rfl,h3⟩:=hasW_list h1;obtain⟨ns,rfl⟩:=items_int h3;have hlen:ns.length≤n:=by
  unfold OpenLaw.pre at hc;have h4:(WTm.not (.lt (.lit (.int (n:Int))) (.len (.arg 0)))).holds [] { args:=[.list (ns.map .int)]}=true:=by
   have h4:=(holds_andW hc).1;rw[hn] at h4;exact h4
  have h5:=condW_of h4 (w_not (w_lt w_lit (w_len_list (w_arg rfl))));rw[π] at h5;refine Nat.le_of_not_lt fun q=>?_;have q':(n:Int)<((ns.length:Nat):Int):=by lia
  first
   | (rw[decide_eq_true q'] at h5;exact absurd h5 (by decide))
   | (simp at h5;lia)
 cases hwl with
 |cons w1 w2=>
  cases w2;cases w1 with
  |list ho hall=>exact⟨_,_,ns,rfl,rfl,ho,Vx ns _ hall,hlen⟩
theorem V7(l:OpenLaw)(args:List WData):l.row.toRowW.claim.post args (.bool true) args=true:=
 postW_of (r:=l.row.toRowW) (X:=(true==true))
  (show WShape.has [] (.bool true) .bool=true by first|rfl|decide|simp[WShape.has,WShape.arms,WShape.armsAll])
  (show (WTm.eq .res (.lit (.bool true))).value [] { args:=args,res:=some (.bool true),after:=args }=some (.bool (true==true)) from w_eq_bool (w_res rfl) w_lit) rfl
theorem zN{l:OpenLaw}{n:Nat}{q:Ω}{loose:List ν}{XP:(ν->Option ε)->Ψ->Prop}{YP:ah->Ψ->Prop}{d:DefRec}
  (hn:l.most=some n) (hdf:d.params.defaults=[])
  (call:∀(w:ah) (s₀ s₁:η) (mg mb:ν->Option ε) (fa:ζ) (o:aP) (pm cd doc:ε) (a:ζ) (vs:List ε) (ns:List Int),
   Ground q loose [] XP w s₀ mg mb s₁.heap->YP w s₁.heap ->
   s₁.heap.get? fa=some o->o.data=.func (docDef d.name d.params d.body d.scope pm cd doc)->s₁.heap.CodeRec cd d.name->mg d.name=some (.ref fa) ->
   s₁.heap.get? a=some { cls:=.type "list",data:=.seq vs.toArray }->ff vs ns->ns.length≤n->s₁.gens = #[] ->
   fA (model l.prog w) callerA (.call (.ref fa) ⟨[.ref a],[]⟩) (fun r s'=>r=.ok (.ret (.bool true))/\OldK s₁.heap s'.heap/\s'.os=s₁.os/\ky s'.gens) s₁):
  WalkO q loose XP YP l.row.toRowW d [] (fun f vs=>wR f vs):=by
 intro w s₀ s₁ mg mb G Y fa o pm cd doc dV kV ho hd iq hD hmg hg args vals as BD hlay oq hwl hlo;obtain rfl:dV=.none:=Dflts.none hD hdf;obtain rfl:kV=.none:=Dflts.noKw hD;obtain⟨a,vs,ns,rfl,rfl,hobj,hints,hlen⟩:=Vw hn BD hwl;refine enter_call (ed (call w s₀ s₁ mg mb fa o pm cd doc a vs ns G Y ho (fd_plain hd) iq hmg hobj hints hlen hg) fun r s' hq=>?_);obtain⟨rfl,h2,h3,h4⟩:=hq;exact⟨.inl ⟨.bool true,.bool true,[],rfl,fun _=>rfl,.bool true,V7 l _,fun _=>⟨uY,fun _ hm=>(nomatch hm)⟩⟩,h2,h3,h4⟩
end N1
namespace L2
open PySem PySem.Spec PyProof.Rows
theorem Lx:∀{vs:List ε} {ns:List Int},ff vs ns->bp (ns.map V.int) vs
 |_,_,.nil=>.nil
 |_,_,.cons n t h=>.cons ⟨t,rfl⟩ (Lx h)
def Ct(H:Hp):Prop:=∀b,H b=none∨∃o xs,H b=some (.cT o (.lst xs))
theorem V6{P:Ω}{w:ah}{K:θ}{mg mb:ν->Option ε}{CX:rF}{k:Nat}{fa a:ζ}{fd:ag}{x:ν}{sp:Sp}{s₁:η}{vs:List ε}{ns:List Int}
  (KX:K.In s₁.heap) (hns:s₁.heap.Ns aT mg) (hb:s₁.heap.Ns builtinsNs mb) (hbb:∀x:ν,x≠"__name__"->mb x=gM x) (hlim:s₁.heap.NoLimit) (hg:s₁.gens = #[])
  (ha:s₁.heap.get? a=some { cls:=.type "list",data:=.seq vs.toArray }) (hi:ff vs ns) (hl:ns.length≤au) (hr:dH k callerA)
  (F:∀base:Ψ,K.In base->base.Ns aT mg->jx P w K mg base CX k fa fd [x] sp) (hbind:∀(s:η) (u:ε),mY s fd ⟨[u],[]⟩ [(x,u)])
  (qm:∀H:Hp,Ct H->fM K H a (ns.map V.int)->sp [.ref a] H (fun v _=>v=.bl true) fun _ _ _=>False)
  (Mx:∀H e s',CX [] H s₁ (fun _ _ _=>False) e s'->False):
  fA (model P w) callerA (.call (.ref fa) ⟨[.ref a],[]⟩) (fun r s'=>r=.ok (.ret (.bool true))/\OldK s₁.heap s'.heap/\s'.os=s₁.os/\ky s'.gens) s₁:=by
 have rv:=Lx hi;have lenV:=hi.length
 -- from an abstract heap in which nothing but the script may be tracked
 have core:∀H:Hp,Ct H->fM K H a (ns.map V.int)->dZ P w H s₁.heap->(∀b,H b≠none->b=a)->(H a≠none->K.lookup a=none) ->
   fA (model P w) callerA (.call (.ref fa) ⟨[.ref a],[]⟩) (fun r s'=>r=.ok (.ret (.bool true))/\OldK s₁.heap s'.heap/\s'.os=s₁.os/\ky s'.gens) s₁:=by
  intro H hO hS bF hA hK;have base_of:∀{b:ζ} {o:aP},s₁.heap.get? b=some o->H b=none->(sy s₁.heap H).get? b=some o:=fun e n=>WN e n;have noA:∀{b:ζ} {o:aP} {es:Array uD} {ep:Nat},s₁.heap.get? b=some o->o.data=.dict es ep->H b=none:=fun {b o es ep} e d=>by
   cases q:H b with
   |none=>rfl
   |some u=>
    have e':b=a:=hA b (by rw[q];simp);subst e';rw[ha] at e;cases e;have d':Data.seq vs.toArray _=Data.dict es ep:=d;cases d'
  have nsK:∀{b:ζ} {m:ν->Option ε},s₁.heap.Ns b m->(sy s₁.heap H).Ns b m:=fun {b m} ⟨o,es,ep,e,d,r⟩=>⟨o,es,ep,base_of e (noA e d),d,r⟩;have hKb:K.In (sy s₁.heap H):=fun b o e=>base_of (KX b o e) (by
   cases q:H b with
   |none=>rfl
   |some u=>
    have e':b=a:=hA b (by rw[q];simp);subst e';rw[hK (by rw[q];simp)] at e;cases e)
  have hM:Mod K mg (sy s₁.heap H):=⟨hKb,nsK hns,⟨mb,nsK hb,hbb⟩,let ⟨mc,h1,h2⟩:=hlim;⟨mc,nsK h1,h2⟩⟩
  have e0:pM P w K mg (sy s₁.heap H) callerA [] s₁ H:=⟨rfl,hM,fun b o e=>WM e,Nat.le_of_eq (WO _ _),trivial,fun b hb=>absurd (show b∈([]:List ζ) from hb) (by simp),bF,.of_eq hg⟩;refine ed ((F _ hKb (nsK hns)).run callerA [] s₁ H ⟨[.ref a],[]⟩ [.ref a] [.ref a] _ _ hr e0 (hbind s₁ (.ref a)) (.cons rfl .nil) (qm H hO hS)) fun r s' h=>?_;cases r with
  |error e=>exact (Mx H e s' h).elim
  |ok fl=>
   cases fl with
   |next=>exact br h
   |brk=>exact br h
   |cont=>exact br h
   |ret u=>
    obtain⟨v,H',os,bare,un,hok',r',q⟩:=h;have q':v=.bl true:=q;subst q';obtain rfl:u=dN true:=r';refine⟨rfl,OldK.of_keep fun b o e=>?_,os,bare⟩;cases q:H b with
    |none=>exact un.keep b o e q (by intro z;exact absurd (show b∈([]:List ζ) from z) (by simp)) (by simp)
    |some u=>
     rcases hO b with z|⟨ob,xs,z⟩
     ·rw[q] at z;cases z
     ·have z2:=un.iH b ob _ z;obtain⟨e1,_⟩:=bF b _ z;obtain⟨e2,_⟩:=hok' b _ z2;rw[e] at e1;cases e1;exact e2
 cases hk:K.lookup a with
 |some o=>
  -- the script is one of the module's own objects
  have e:=KX a o hk;rw[ha] at e;cases e;refine core (fun _=>none) (fun _=>.inl rfl) (.inr ⟨_,vs.toArray,_,hk,rfl,rfl,rfl,by rw[Γ,lenV];exact hl,by simpa using rv⟩) (fun b u z=>by have z':(none:Option HO)=some u:=z;cases z') (fun b z=>absurd rfl z) fun z=>absurd rfl z
 |none=>
  refine core (fun b=>if b=a then some (.cT { cls:=.type "list",data:=.seq vs.toArray } (.lst (ns.map V.int))) else none) (fun b=>?_) (.inl (.inr ⟨{ cls:=.type "list",data:=.seq vs.toArray },if_pos rfl⟩)) (fun b u z=>?_) (fun b z=>?_) fun _=>hk
  ·by_cases hb:b=a
   ·exact .inr ⟨_,_,if_pos hb⟩
   ·exact .inl (if_neg hb)
  ·by_cases hb:b=a
   ·have z':=(if_pos hb).symm.trans z;cases z';subst hb;exact⟨ha,by rw[π];exact hl,vs,_,rv,ha⟩
   ·have z':=(if_neg hb).symm.trans z;cases z'
  ·by_cases hb:b=a
   ·exact hb
   ·exact absurd (if_neg hb) z
end L2
namespace L2
open PySem PySem.Spec PyProof.Rows
theorem zP{l:wW}{n k:Nat}{q:Ω}{loose:List ν}{XP:(ν->Option ε)->Ψ->Prop}{YP:ah->Ψ->Prop}{d:DefRec}{K:Params->θ}{CX:ah->rF}{sp:ah->Sp}{x:ν}
  (hn:l.most=some n) (hn2:n≤au) (hdf:d.params.defaults=[]) (hr:dH k callerA)
  (hY:∀(w:ah) (h:Ψ),YP w h->(K w.params).In h)
  (F:∀(w:ah) (mg:ν->Option ε) (fa:ζ) (h:Ψ),(K w.params).In h->h.Ns aT mg->mg d.name=some (.ref fa) ->
   ∃fd:ag,(∀(s:η) (u:ε),mY s fd ⟨[u],[]⟩ [(x,u)]) ∧
    ∀base:Ψ,(K w.params).In base->base.Ns aT mg->jx l.prog w (K w.params) mg base (CX w) k fa fd [x] (sp w))
  (qm:∀(w:ah) (H:Hp) (a:ζ) (ns:List Int),ns.length≤n->Ct H->fM (K w.params) H a (ns.map V.int)->sp w [.ref a] H (fun v _=>v=.bl true) fun _ _ _=>False)
  (Mx:∀(w:ah) (H:Hp) (s:η) (e:ε) (s':η),CX w [] H s (fun _ _ _=>False) e s'->False):
  PySem.W.WalkO q loose XP YP l.row.toRowW d [] (fun f vs=>wR f vs):=by
 refine N1.zN hn hdf fun w s₀ s₁ mg mb fa o pm cd doc a vs ns G Y ho hd iq hmg hobj hints hlen hg=>?_;have KX:=hY w _ Y;obtain⟨fd,hb,hF⟩:=F w mg fa _ KX G.T.g hmg;exact V6 KX G.T.g G.T.b G.T.builtins G.T.nolimit hg hobj hints (aA hlen hn2) hr hF hb (fun H hO hS=>qm w H a ns hlen hO hS) fun H e s'=>Mx w H s₁ e s'
end L2
/- THE LAST THEOREM (shape;LID,My.* are yours):
  My.He: a structure of the addresses that your layer names (classes,functions);My.Txt K t: a structure (Prop) of the equations over K;
  My.yp:{K} {implicit addresses ..} (e1:nsIn K aT "law" = some (some (.ref f))) (e2:K.lookup f=some ⟨oc,od,.func (fnOf "law" "law" params body scope dV kV doc pm an cdv ct),sl⟩) (e3:codeIn K cdv "law" = true) ..:∃t,My.Txt K t
set_option maxRecDepth 100000 in
set_option maxHeartbeats 0 in
theorem PySem.Challenge.cw_LID_holds : PySem.Challenge.rw_LID.Holds := by
 w_on;o_law;k_head;(case hw=>w_witness2)
 k_fill
 refine L2.zP (l:=PySem.Challenge.rw_LID) (n:=63) (k:=40) (x:="script") (CX:=fun w=>..) (sp:=fun _=>My.nk) rfl (by decide) rfl ⟨rfl,by decide,by decide⟩ (fun w h Y=>PySem.W.kIn_of Y) ?F ?S ?C
 case F=>
  intro w mg fa h KX G hmg
  have T:∃t,My.Txt (L2.KOf KX) t:=by
   dsimp only[L2.KOf]                          -- K must stand as «<heap const> w.params» for k_is
   refine' My.yp ?e1 ?e2 ?e3 ..
   (case e1=>PySem.W.k_is)                    -- in the order: a name -> its address -> its object -> its parts
   (case e2=>PySem.W.k_is)
   ..
  obtain⟨t,T⟩:=T
  have e0:=hmg.symm.trans (av KX G T.law)
  cases e0                                       -- fa is the law's own address
  exact⟨_,fun s u=>.of_eq rfl,fun base kb nb=>My.law_fn T kb nb⟩     -- if «.of_eq rfl» comes too early: refine' ⟨_,?b,fun base kb nb=>My.law_fn T kb nb⟩;exact fun s u=>.of_eq rfl
 case S=>exact fun w H a ns hl hO hS=>..
 case C=>exact ..
(the tactic k_is has no namespace: write k_is) -/
namespace L2
open PySem PySem.Spec PyProof.Rows
def oZ(s:aQ):Arguments:=match s with
 |.FunctionDef _ a _ _ _ _ _ _ _ _=>a
 |_=>{ posonlyargs:=[],args:=[],vararg:=none,kwonlyargs:=[],kw_defaults:=[],kwarg:=none,defaults:=[]}
def eE(s:aQ):List aQ:=match s with
 |.FunctionDef _ _ b _ _ _ _ _ _ _=>b
 |_=>[]
def ω(s:aQ):eS:=match s with
 |.FunctionDef _ _ _ _ _ _ sc _ _ _=>sc
 |_=>{ kind:=.function,names:=[],isGenerator:=false,isCoroutine:=false }
abbrev oA:rF:=fun _ _ _ _ _ _=>False
abbrev E0:XK:=fun _ _ _=>False
theorem M8{X:Cx}:jY oA X E0:=fun _ _ _ _ _ _ _ h=>h.elim
structure dQ(K:θ)(x qual:ν)(st:aQ)(f:ζ)(fd:ag):Prop where
 ex:∃(oc:ε) (od:Option ζ) (kV doc pm:ε) (an:Option ζ) (cdv ct:ε) (osl:Array (Option ε)),
  fd=gN x qual (oZ st) (eE st) (ω st) .none kV doc pm an cdv ct/\K.lookup f=some ⟨oc,od,.func fd,osl⟩/\kv K cdv qual=true
 kp:bD K (.ref f)=true
section
variable {P:Ω} {w:ah} {K:θ} {mg:ν->Option ε} {base:Ψ}
theorem dQ.ok{x qual:ν}{st:aQ}{f:ζ}{fd:ag}{N ps:List ν}{k:Nat}{sp:Sp}(F:dQ K x qual st f fd)(S:bz N ps (ω st))(len:∀vs H Q E,sp vs H Q E->vs.length=ps.length)
  (fk:∀(cdv:ε) (A:aE) (outer:List cK) (s:η) (H:Hp) (vs:List V) (Q:VK) (E:XK),dH k (A.deeper (envOfC qual (ω st) s.heap.objs.size f cdv))->sp vs H Q E ->
   ∃t,ma (ia oA P w K mg base N qual (ω st) f cdv A outer s H E).lB (eE st) t/\t { nx:=fun _ H'=>Q .aC H',rt:=Q } (start N vs) H):jx P w K mg base oA (k+1) f fd ps sp:=by
 obtain⟨oc,od,kV,doc,pm,an,cdv,ct,osl,rfl,lk,iq⟩:=F.ex;refine LG lk iq S len fun A outer s H vs Q E hr qm=>?_;obtain⟨t,h,q⟩:=fk cdv A outer s H vs Q E hr qm;exact⟨t,h.lB,q⟩
theorem dQ.binds{x qual:ν}{st:aQ}{f:ζ}{fd:ag}{ps:List ν}(F:dQ K x qual st f fd)
  (h:∀(kV doc pm:ε) (an:Option ζ) (cdv ct:ε) (us:List ε),us.length=ps.length->bindArgs (gN x qual (oZ st) (eE st) (ω st) .none kV doc pm an cdv ct) ⟨us,[]⟩=pure (ps.zip us)):Binds K fd ps []:=by
 obtain⟨oc,od,kV,doc,pm,an,cdv,ct,osl,rfl,lk,iq⟩:=F.ex;exact .all (h kV doc pm an cdv ct)
theorem Lw{x qual:ν}{st:aQ}{f:ζ}{oc:ε}{od an:Option ζ}{osl:Array (Option ε)}{kV doc pm cdv ct:ε}(l:K.lookup f=some ⟨oc,od,.func (gN x qual (oZ st) (eE st) (ω st) .none kV doc pm an cdv ct),osl⟩)
  (c:kv K cdv qual=true) (k:bD K (.ref f)=true):dQ K x qual st f (gN x qual (oZ st) (eE st) (ω st) .none kV doc pm an cdv ct):=⟨⟨oc,od,kV,doc,pm,an,cdv,ct,osl,rfl,l,c⟩,k⟩
end
section
variable {X:Cx}
theorem pv(i:Nat){x:ν}{pos:aO}(hN:X.N[i]?=some x:=by rfl)(hv:GP X.env.scope x:=by first|exact pS rfl|exact nF (pS rfl)|exact nF (nF rfl))(hd:(x==("__debug__":ν))=false:=by decide)
  (iq:(x==("__classdict__":ν))=false:=by decide):PE X (.Name x pos) (Ag i):=WL hN hv hd iq
end
end L2
namespace L3
open PySem PySem.Spec PyProof.Rows L2
inductive D where
 |aC|bl (b:Bool)|int (i:Int)|str (x:ν)|tup (xs:List D)|dW (xs:List D)|obj (a:ζ)|dc (a:ζ)
def lD(K:θ)(H:Hp)(a:ζ)(xs:List V):Prop:=
 (∃o,H a=some (.cT o (.lst xs))) ∨
  ∃(o:aP) (its:Array ε) (n:Nat),K.lookup a=some o/\o.cls=.type "list"/\o.dict=none/\o.data=.seq its n/\its.size≤au/\bp xs its.toList
theorem lD.l{K:θ}{H:Hp}{a:ζ}{xs:List V}(h:lD K H a xs):fM K H a xs:=by
 rcases h with h|h
 ·exact .inl (.inr h)
 ·exact .inr h
mutual
def Hv(K:θ)(H:Hp):D->V->Prop
 |.aC,v=>v=.aC
 |.bl b,v=>v=.bl b
 |.int i,v=>v=.int i
 |.str x,v=>v=.str x
 |.tup ds,v=>∃a vs,v=.ref a/\cC K H a vs/\aF K H ds vs
 |.dW ds,v=>∃a vs,v=.ref a/\lD K H a vs/\aF K H ds vs
 |.obj a,v=>v=.ref a
 |.dc a,v=>v=.ref a/\∃ob φ,H a=some (.cT ob (.ext φ))/\ob.cls=.type "dict"
def aF(K:θ)(H:Hp):List D->List V->Prop
 |[],vs=>vs=[]
 |d::ds,vs=>∃v r,vs=v::r/\Hv K H d v/\aF K H ds r
end
inductive GO where
 |lst (ds:List D)|ny|fE
 |gen (R:θ->ζ->Hp->Prop)
def GO.plain:GO->Prop
 |.gen _=>False
 |_=>True
abbrev Gp:=ζ->Option GO
def dG(G:Gp)(a:ζ)(o:GO):Gp:=fun b=>if b=a then some o else G b
theorem jT{G:Gp}{a:ζ}{o:GO}:dG G a o a=some o:=by simp[dG]
theorem mE{G:Gp}{a b:ζ}{o:GO}(h:b≠a):dG G a o b=G b:=by simp[dG,h]
theorem V5{G:Gp}{a b:ζ}{o u:GO}(hn:G a=none)(h:G b=some u):dG G a o b=some u:=by
 rw[mE]
 ·exact h
 ·intro e;rw[e,hn] at h;cases h
theorem V4{G:Gp}{a:ζ}{o u:GO}:dG (dG G a o) a u=dG G a u:=by
 funext b;unfold dG;by_cases h:b=a
 ·rw[if_pos h,if_pos h]
 ·rw[if_neg h,if_neg h,if_neg h]
def uQ(a b c:Int):Prop:=0≤a/\0≤c/\c<2147483647
def ur(K:θ)(H:Hp)(a:ζ):GO->Prop
 |.lst ds=>∃vs,H a=some (.lst vs)/\aF K H ds vs
 |.ny=>∃i j k,H a=some (.lst [.int i,.int j,.int k])/\uQ i j k
 |.fE=>H a=some (.ext fun h=>∃o,h.get? a=some o/\o.cls=.type "dict")
 |.gen R=>R K a H/\(∃o,H a=some o/\(∀xs,o≠.tup xs)/\∀ob u,o≠.cT ob u)/\∀H1 H2:Hp,(∀b xs,H1 b=some (.tup xs)->H2 b=some (.tup xs))->(∀b o u,H1 b=some (.cT o u)->H2 b=some (.cT o u))->H2 a=H1 a->R K a H1->R K a H2
def aJ(K:θ)(G:Gp)(H:Hp):Prop:=∀a o,G a=some o->ur K H a o
structure Ext(H H':Hp):Prop where
 tup:∀b xs,H b=some (.tup xs)->H' b=some (.tup xs)
 cT:∀b o u,H b=some (.cT o u)->H' b=some (.cT o u)
theorem Ext.refl(H:Hp):Ext H H:=⟨fun _ _ h=>h,fun _ _ _ h=>h⟩
theorem Ext.trans{H H1 H2:Hp}(a:Ext H H1)(b:Ext H1 H2):Ext H H2:=⟨fun c x h=>b.tup c x (a.tup c x h),fun c o u h=>b.cT c o u (a.cT c o u h)⟩
structure Step(H:Hp)(G:Gp)(H':Hp)(G':Gp):Prop where
 fr:∀a o,H a=some o->G a=none->H' a=some o
 nZ:∀a,H a≠none->H' a≠none
 new:∀a,G a=none->G' a≠none->H a=none
theorem Step.refl(H:Hp)(G:Gp):Step H G H G:=⟨fun _ _ h _=>h,fun _ h=>h,fun _ h1 h2=>absurd h1 h2⟩
theorem Step.trans{H H1 H2:Hp}{G G1 G2:Gp}(a:Step H G H1 G1)(b:Step H1 G1 H2 G2):Step H G H2 G2 where
 fr:=fun c o h n=>b.fr c o (a.fr c o h n) (by
  refine aK fun q=>?_;rw[a.new c n q] at h;cases h)
 nZ:=fun c h=>b.nZ c (a.nZ c h)
 new:=fun c n q=>by
  by_cases h1:G1 c=none
  ·have h2:=b.new c h1 q;refine aK fun z=>?_;exact a.nZ c z h2
  ·exact a.new c n h1
def Sub(G' G:Gp):Prop:=∀a o,G' a=some o->G a=some o
theorem Sub.refl(G:Gp):Sub G G:=fun _ _ h=>h
theorem Sub.trans{A B C:Gp}(a:Sub A B)(b:Sub B C):Sub A C:=fun x o h=>b x o (a x o h)
theorem Sub.upd{G:Gp}{a:ζ}{o:GO}(h:G a=none):Sub G (dG G a o):=fun _ _ e=>V5 h e
theorem Sub.of_none{G' G:Gp}(s:Sub G' G){a:ζ}(h:G a=none):G' a=none:=by
 cases e:G' a with
 |none=>rfl
 |some o=>
  rw[s a o e] at h;cases h
structure eD(G:Gp)(p:ζ)(o:GO)(G':Gp):Prop where
 aC:G p=none
 sub:Sub G G'
 at_:G' p=some o
theorem eD.mk'{G:Gp}{p:ζ}{o:GO}(h:G p=none):eD G p o (dG G p o):=⟨h,Sub.upd h,jT⟩
theorem Step.sub{H:Hp}{G G':Gp}(s:Sub G' G):Step H G H G':=⟨fun _ _ h _=>h,fun _ h=>h,fun a n q=>by
 exact absurd (s.of_none n) q⟩
section
variable {K:θ} {H H':Hp} {G G':Gp}
theorem aJ.sub(R:aJ K G H)(s:Sub G' G):aJ K G' H:=fun a o e=>R a o (s a o e)
theorem ur.mut{a:ζ}{o:GO}(h:ur K H a o):∃o,H a=some o/\(∀xs,o≠.tup xs)/\∀ob u,o≠.cT ob u:=by
 cases o with
 |lst ds=>obtain⟨vs,e,_⟩:=h;exact⟨_,e,fun _=>nofun,fun _ _=>nofun⟩
 |ny=>obtain⟨i,j,k,e,_⟩:=h;exact⟨_,e,fun _=>nofun,fun _ _=>nofun⟩
 |fE=>exact⟨_,h,fun _=>nofun,fun _ _=>nofun⟩
 |gen R=>exact h.2.1
theorem aJ.Z0(R:aJ K G H){a:ζ}{xs:List V}(e:H a=some (.tup xs)):G a=none:=by
 cases q:G a with
 |none=>rfl
 |some u=>
  obtain⟨o,z,h1,_⟩:=(R a u q).mut;rw[e] at z;exact absurd (aD z).symm (h1 xs)
theorem aJ.outF(R:aJ K G H){a:ζ}{ob:aP}{u:HO}(e:H a=some (.cT ob u)):G a=none:=by
 cases q:G a with
 |none=>rfl
 |some g=>
  obtain⟨o,z,_,h1⟩:=(R a g q).mut;rw[e] at z;exact absurd (aD z).symm (h1 ob u)
theorem aJ.free(R:aJ K G H){a:ζ}(e:H a=none):G a=none:=by
 cases q:G a with
 |none=>rfl
 |some u=>
  obtain⟨o,z,_⟩:=(R a u q).mut;rw[e] at z;cases z
theorem Step.ext(S:Step H G H' G')(R:aJ K G H):Ext H H':=⟨fun b xs h=>S.fr b _ h (R.Z0 h),fun b o u h=>S.fr b _ h (R.outF h)⟩
theorem cC.ext{a:ζ}{xs:List V}(E:Ext H H')(h:cC K H a xs):cC K H' a xs:=by
 rcases h with (h|⟨o,h⟩)|h
 ·exact .inl (.inl (E.tup _ _ h))
 ·exact .inl (.inr ⟨o,E.cT _ _ _ h⟩)
 ·exact .inr h
theorem lD.ext{a:ζ}{xs:List V}(E:Ext H H')(h:lD K H a xs):lD K H' a xs:=by
 rcases h with⟨o,h⟩|h
 ·exact .inl ⟨o,E.cT _ _ _ h⟩
 ·exact .inr h
mutual
theorem Hv.ext(E:Ext H H'):∀{d:D} {v:V},Hv K H d v->Hv K H' d v
 |.aC,_,h=>by simpa [Hv] using h
 |.bl _,_,h=>by simpa [Hv] using h
 |.int _,_,h=>by simpa [Hv] using h
 |.str _,_,h=>by simpa [Hv] using h
 |.obj _,_,h=>by simpa [Hv] using h
 |.dc a,v,h=>by
  unfold Hv at h ⊢;obtain⟨e,ob,φ,q,c⟩:=h;exact⟨e,ob,φ,E.cT _ _ _ q,c⟩
 |.tup ds,v,h=>by
  unfold Hv at h ⊢;obtain⟨a,vs,e,q,r⟩:=h;exact⟨a,vs,e,cC.ext E q,aF.ext E r⟩
 |.dW ds,v,h=>by
  unfold Hv at h ⊢;obtain⟨a,vs,e,q,r⟩:=h;exact⟨a,vs,e,lD.ext E q,aF.ext E r⟩
theorem aF.ext(E:Ext H H'):∀{ds:List D} {vs:List V},aF K H ds vs->aF K H' ds vs
 |[],_,h=>by simpa [aF] using h
 |d::ds,vs,h=>by
  unfold aF at h ⊢;obtain⟨v,r,e,q,z⟩:=h;exact⟨v,r,e,Hv.ext E q,aF.ext E z⟩
end
theorem aF.nil:aF K H [] []:=by simp[aF]
theorem aF.cons{d:D}{v:V}{ds:List D}{vs:List V}(h:Hv K H d v)(r:aF K H ds vs):aF K H (d::ds) (v::vs):=by
 unfold aF;exact⟨v,vs,rfl,h,r⟩
theorem aF.inv{d:D}{ds:List D}{vs:List V}(h:aF K H (d::ds) vs):∃v r,vs=v::r/\Hv K H d v/\aF K H ds r:=by
 unfold aF at h;exact h
theorem aF.hZ{vs:List V}(h:aF K H [] vs):vs=[]:=by
 unfold aF at h;exact h
theorem aF.length:∀{ds:List D} {vs:List V},aF K H ds vs->ds.length=vs.length
 |[],_,h=>by rw[h.hZ];rfl
 |d::ds,vs,h=>by
  obtain⟨v,r,rfl,_,q⟩:=h.inv;simp[q.length]
theorem aF.get:∀{ds:List D} {vs:List V} {i:Nat} {d:D},aF K H ds vs->ds[i]?=some d->∃v,vs[i]?=some v/\Hv K H d v
 |[],_,_,_,_,e=>by simp at e
 |x::ds,vs,0,d,h,e=>by
  obtain⟨v,r,rfl,q,_⟩:=h.inv;simp at e;subst e;exact⟨v,rfl,q⟩
 |x::ds,vs,i+1,d,h,e=>by
  obtain⟨v,r,rfl,_,q⟩:=h.inv;simp at e;obtain⟨u,e2,q2⟩:=q.get e;exact⟨u,by simpa using e2,q2⟩
theorem aF.append:∀{ds es:List D} {vs us:List V},aF K H ds vs->aF K H es us->aF K H (ds++es) (vs++us)
 |[],es,_,_,h,q=>by rw[h.hZ];exact q
 |d::ds,es,vs,us,h,q=>by
  obtain⟨v,r,rfl,z,w⟩:=h.inv;exact .cons z (w.append q)
theorem aF.drop:∀{ds:List D} {vs:List V} (n:Nat),aF K H ds vs->aF K H (ds.drop n) (vs.drop n)
 |ds,vs,0,h=>h
 |[],_,n+1,h=>by rw[h.hZ];exact .nil
 |d::ds,vs,n+1,h=>by
  obtain⟨v,r,rfl,_,q⟩:=h.inv;exact q.drop n
theorem aF.take:∀{ds:List D} {vs:List V} (n:Nat),aF K H ds vs->aF K H (ds.take n) (vs.take n)
 |ds,vs,0,h=>by simpa using aF.nil
 |[],_,n+1,h=>by rw[h.hZ];exact .nil
 |d::ds,vs,n+1,h=>by
  obtain⟨v,r,rfl,q,z⟩:=h.inv;exact .cons q (z.take n)
theorem aF.set:∀{ds:List D} {vs:List V} (i:Nat) {d:D} {v:V},aF K H ds vs->Hv K H d v->aF K H (ds.set i d) (vs.set i v)
 |[],_,i,d,v,h,_=>by rw[h.hZ];exact .nil
 |x::ds,vs,0,d,v,h,q=>by
  obtain⟨u,r,rfl,_,z⟩:=h.inv;exact .cons q z
 |x::ds,vs,i+1,d,v,h,q=>by
  obtain⟨u,r,rfl,y,z⟩:=h.inv;exact .cons y (z.set i q)
theorem aF.erase:∀{ds:List D} {vs:List V} (i:Nat),aF K H ds vs->aF K H (ds.eraseIdx i) (vs.eraseIdx i)
 |[],_,i,h=>by rw[h.hZ];exact .nil
 |x::ds,vs,0,h=>by
  obtain⟨u,r,rfl,_,z⟩:=h.inv;exact z
 |x::ds,vs,i+1,h=>by
  obtain⟨u,r,rfl,y,z⟩:=h.inv;exact .cons y (z.erase i)
theorem aF.rep{ds:List D}{vs:List V}(h:aF K H ds vs):∀k:Nat,aF K H (bo k ds).flatten (bo k vs).flatten
 |0=>.nil
 |k+1=>by
  simp only[fO,iA];exact h.append (h.rep k)
theorem aF.ints:∀(ns:List Int),aF K H (ns.map D.int) (ns.map V.int)
 |[]=>.nil
 |n::ns=>.cons (by simp[Hv]) (aF.ints ns)
theorem Ext.laid{p:ζ}{o:HO}(h:H p=none):Ext H (upd H p o):=⟨fun b xs e=>by rw[dz (mJ e h)];exact e,fun b x u e=>by rw[dz (mJ e h)];exact e⟩
theorem ur.ext{a:ζ}{o:GO}(h:ur K H a o)(E:Ext H H')(e:H' a=H a):ur K H' a o:=by
 cases o with
 |lst ds=>
  obtain⟨vs,z,q⟩:=h;exact⟨vs,e.trans z,q.ext E⟩
 |ny=>
  obtain⟨i,j,k,z,q⟩:=h;exact⟨i,j,k,e.trans z,q⟩
 |fE=>exact e.trans h
 |gen R=>
  obtain⟨h1,h2,h3⟩:=h;exact⟨h3 H H' E.tup E.cT e h1,by rw[e];exact h2,h3⟩
theorem aJ.laid{p:ζ}{o:HO}(R:aJ K G H)(h:H p=none):aJ K G (upd H p o):=fun a u e=>by
 have bZ:a≠p:=fun z=>by
  rw[z,R.free h] at e;cases e
 exact (R a u e).ext (Ext.laid h) (dz bZ)
theorem aJ.jG{p:ζ}{o:HO}{g:GO}(R:aJ K G H)(h:H p=none)(new:ur K (upd H p o) p g):aJ K (dG G p g) (upd H p o):=fun a u e=>by
 by_cases z:a=p
 ·subst z;rw[jT] at e;cases e;exact new
 ·rw[mE z] at e;exact (R.laid h) a u e
theorem Step.laid{p:ζ}{o:HO}(h:H p=none):Step H G (upd H p o) G:=⟨fun a u e _=>by rw[dz (mJ e h)];exact e,fun a q=>by
 by_cases z:a=p
 ·rw[z,iO];simp
 ·rw[dz z];exact q,fun a n q=>absurd n q⟩
theorem Step.jG{p:ζ}{o:HO}{g:GO}(h:H p=none):Step H G (upd H p o) (dG G p g):=⟨(Step.laid (G:=G) h).fr,(Step.laid (G:=G) h).nZ,fun a n q=>by
 by_cases z:a=p
 ·rw[z];exact h
 ·rw[mE z] at q;exact absurd n q⟩
theorem V2{p b:ζ}{xs ys:List V}(h:H p=some (.lst xs))(e:H b=some (.tup ys)):b≠p:=fun z=>by
 rw[z,h] at e;cases e
theorem V1{p b:ζ}{xs:List V}{o:aP}{u:HO}(h:H p=some (.lst xs))(e:H b=some (.cT o u)):b≠p:=fun z=>by
 rw[z,h] at e;cases e
theorem Ext.wrote{p:ζ}{xs:List V}{o:HO}(h:H p=some (.lst xs)):Ext H (upd H p o):=
 ⟨fun b ys e=>by rw[dz (V2 h e)];exact e,fun b x u e=>by rw[dz (V1 h e)];exact e⟩
theorem aJ.wrote{p:ζ}{xs:List V}{o:HO}{g:GO}(R:aJ K G H)(h:H p=some (.lst xs))(new:ur K (upd H p o) p g):aJ K (dG G p g) (upd H p o):=fun a u e=>by
 by_cases z:a=p
 ·subst z;rw[jT] at e;cases e;exact new
 ·rw[mE z] at e;exact (R a u e).ext (Ext.wrote h) (dz z)
theorem aJ.xB{p:ζ}{xs:List V}{ds:List D}(R:aJ K G H)(h:H p=none)(hv:aF K H ds xs):aJ K (dG G p (.lst ds)) (upd H p (.lst xs)):=R.jG h ⟨xs,iO,hv.ext (.laid h)⟩
theorem aJ.CJ{p:ζ}{xs ys:List V}{ds:List D}(R:aJ K G H)(e:H p=some (.lst xs))(hv:aF K H ds ys):aJ K (dG G p (.lst ds)) (upd H p (.lst ys)):=R.wrote e ⟨ys,iO,hv.ext (.wrote e)⟩
theorem Step.wrote{p:ζ}{o:HO}{g u:GO}(h:G p=some u):Step H G (upd H p o) (dG G p g):=⟨fun a x e n=>by
 have bZ:a≠p:=fun z=>by
  rw[z,h] at n;cases n
 rw[dz bZ];exact e,fun a q=>by
 by_cases z:a=p
 ·rw[z,iO];simp
 ·rw[dz z];exact q,fun a n q=>by
 have bZ:a≠p:=fun z=>by
  rw[z,h] at n;cases n
 rw[mE bZ] at q;exact absurd n q⟩
end
abbrev S3:=List (Option D)
def iI:S3->Nat->Option D
 |[],_=>none
 |x::_,0=>x
 |_::r,n+1=>iI r n
def jQ:S3->Nat->D->S3
 |[],_,_=>[]
 |_::r,0,d=>some d::r
 |x::r,n+1,d=>x::jQ r n d
structure dB(K:θ)(τ:S3)(σ:L2.St)(H:Hp):Prop where
 len:τ.length=σ.length
 at_:∀(i:Nat) d,iI τ i=some d->∃v,σ[i]?=some (some v)/\Hv K H d v
theorem Lv:∀(τ:S3) (i:Nat) (d:D),(jQ τ i d).length=τ.length
 |[],_,_=>rfl
 |_::r,0,d=>rfl
 |x::r,n+1,d=>by simp[jQ,Lv r n d]
theorem Lu:∀(τ:S3) (i j:Nat) (d:D),iI (jQ τ i d) j=if j=i/\i<τ.length then some d else iI τ j
 |[],i,j,d=>by simp[jQ,iI]
 |x::r,0,0,d=>by simp[jQ,iI]
 |x::r,0,j+1,d=>by simp[jQ,iI]
 |x::r,i+1,0,d=>by simp[jQ,iI]
 |x::r,i+1,j+1,d=>by
  simp only[jQ,iI,Lu r i j d,aL];by_cases h:j=i/\i<r.length
  ·rw[if_pos h,if_pos (by lia)]
  ·rw[if_neg h,if_neg (by lia)]
section
variable {K:θ} {τ:S3} {σ:L2.St} {H H':Hp}
theorem dB.ext(R:dB K τ σ H)(E:Ext H H'):dB K τ σ H':=⟨R.len,fun i d h=>by
 obtain⟨v,e,q⟩:=R.at_ i d h;exact⟨v,e,q.ext E⟩⟩
theorem dB.set(R:dB K τ σ H){i:Nat}{d:D}{v:V}(h:Hv K H d v):dB K (jQ τ i d) (σ.set i (some v)) H:=⟨by rw[Lv,List.length_set];exact R.len,fun j e q=>by
 rw[Lu] at q;by_cases c:j=i/\i<τ.length
 ·rw[if_pos c] at q;cases q;refine⟨v,?_,h⟩;rw[c.1,kT (by rw[←R.len];exact c.2)]
 ·rw[if_neg c] at q;obtain⟨u,e1,e2⟩:=R.at_ j e q;refine⟨u,?_,e2⟩;by_cases hij:i=j
  ·subst hij;have:σ.length≤i:=by
    have:=R.len;have:¬i<τ.length:=fun z=>c ⟨rfl,z⟩;lia
   rw[da.mpr this] at e1;cases e1
  ·rw[mq hij];exact e1⟩
end
def bc:List ν->List D->S3
 |[],_=>[]
 |_::N,[]=>none::bc N []
 |_::N,d::ds=>some d::bc N ds
theorem ES:∀(N:List ν) (ds:List D),(bc N ds).length=N.length
 |[],_=>rfl
 |_::N,[]=>by simp[bc,ES N []]
 |_::N,d::ds=>by simp[bc,ES N ds]
theorem Ls:∀(N:List ν) (i:Nat),iI (bc N []) i=none
 |[],i=>rfl
 |_::N,0=>rfl
 |_::N,i+1=>Ls N i
theorem Lr:∀(N:List ν) (ds:List D) (i:Nat) (d:D),iI (bc N ds) i=some d->ds[i]?=some d
 |[],_,_,_,h=>by cases h
 |_::N,[],i,d,h=>by
  rw[Ls] at h;cases h
 |_::N,x::ds,0,d,h=>by
  simp only[bc,iI] at h;simpa using h
 |_::N,x::ds,i+1,d,h=>by
  simp only[bc,iI] at h;simpa using Lr N ds i d h
theorem dB.start{K:θ}{N:List ν}{ds:List D}{vs:List V}{H:Hp}(h:aF K H ds vs)(hl:vs.length≤N.length):dB K (bc N ds) (L2.start N vs) H:=⟨by
 rw[ES];simp[L2.start];lia,fun i d e=>by
 obtain⟨v,e1,q⟩:=h.get (Lr N ds i d e);refine⟨v,?_,q⟩;unfold L2.start;have hi:i<vs.length:=(ak.mp e1).1;rw[fi (by simpa using hi),aI,e1];rfl⟩
abbrev V3:=D->Gp->Prop
abbrev aU:=S3->Gp->V3->Prop
abbrev cN:=S3->Gp->(Bool->Gp->Prop)->Prop
abbrev cM:=S3->Gp->(List D->Gp->Prop)->Prop
structure ng where
 nx:S3->Gp->Prop
 rt:V3
 bk:S3->Gp->Prop:=fun _ _=>False
 ct:S3->Gp->Prop:=fun _ _=>False
abbrev az:=ng->S3->Gp->Prop
def low(K:θ)(t:aU):TE:=fun σ H Q=>∃τ G Q3,dB K τ σ H/\aJ K G H/\t τ G Q3/\∀v H' d G',Hv K H' d v->Step H G H' G'->aJ K G' H'->Q3 d G'->Q v H'
def sh(K:θ)(t:cN):TT:=fun σ H Q=>∃τ G Q3,dB K τ σ H/\aJ K G H/\t τ G Q3/\∀b H' G',Step H G H' G'->aJ K G' H'->Q3 b G'->Q b H'
def vW(K:θ)(t:cM):TA:=fun σ H Q=>∃τ G Q3,dB K τ σ H/\aJ K G H/\t τ G Q3/\∀vs H' ds G',aF K H' ds vs->Step H G H' G'->aJ K G' H'->Q3 ds G'->Q vs H'
structure mQ(K:θ)(H:Hp)(G:Gp)(D3:ng)(D2:Ends):Prop where
 nx:∀τ σ G' H',dB K τ σ H'->Step H G H' G'->aJ K G' H'->D3.nx τ G'->D2.nx σ H'
 bk:∀τ σ G' H',dB K τ σ H'->Step H G H' G'->aJ K G' H'->D3.bk τ G'->D2.bk σ H'
 ct:∀τ σ G' H',dB K τ σ H'->Step H G H' G'->aJ K G' H'->D3.ct τ G'->D2.ct σ H'
 rt:∀d v G' H',Hv K H' d v->Step H G H' G'->aJ K G' H'->D3.rt d G'->D2.rt v H'
theorem mQ.step{K:θ}{H H1:Hp}{G G1:Gp}{D3:ng}{D2:Ends}(E:mQ K H G D3 D2)(S:Step H G H1 G1):mQ K H1 G1 D3 D2:=
 ⟨fun τ σ G' H' a b c q=>E.nx τ σ G' H' a (S.trans b) c q,fun τ σ G' H' a b c q=>E.bk τ σ G' H' a (S.trans b) c q,fun τ σ G' H' a b c q=>E.ct τ σ G' H' a (S.trans b) c q,fun d v G' H' a b c q=>E.rt d v G' H' a (S.trans b) c q⟩
def Fl(K:θ)(t:az):TS:=fun D2 σ H=>∃τ G D3,dB K τ σ H/\aJ K G H/\t D3 τ G/\mQ K H G D3 D2
abbrev bT(X:Cx)(e:ρ)(t:aU):Prop:=PE X e (low X.K t)
abbrev qu(X:Cx)(e:ρ)(t:cN):Prop:=PT X e (sh X.K t)
abbrev xU(X:Cx)(e:ρ)(t:cN):Prop:=PW X e (sh X.K t)
abbrev jc(X:Cx)(es:List ρ)(t:cM):Prop:=PA X es (vW X.K t)
abbrev nC(X:Cx)(st:aQ)(t:az):Prop:=PS X st (Fl X.K t)
abbrev jZ(X:Cx)(st:List aQ)(t:az):Prop:=ma X st (Fl X.K t)
section
variable {X:Cx} {e:ρ}
theorem jS{t t':TE}(h:PE X e t)(f:∀σ H Q,t' σ H Q->t σ H Q):PE X e t':=fun pins s σ H Q I q=>h pins s σ H Q I (f σ H Q q)
theorem ER{t t':TT}(h:PT X e t)(f:∀σ H Q,t' σ H Q->t σ H Q):PT X e t':=fun pins s σ H Q I q=>h pins s σ H Q I (f σ H Q q)
theorem pw_of{t t':TT}(h:PW X e t)(f:∀σ H Q,t' σ H Q->t σ H Q):PW X e t':=fun w pins s σ H Q I q=>h w pins s σ H Q I (f σ H Q q)
theorem Lq{es:List ρ}{t t':TA}(h:PA X es t)(f:∀σ H Q,t' σ H Q->t σ H Q):PA X es t':=fun p pins s σ H Q I q=>h p pins s σ H Q I (f σ H Q q)
theorem mI{st:aQ}{t t':TS}(h:PS X st t)(f:∀D σ H,t' D σ H->t D σ H):PS X st t':=fun pins s σ H Q I q=>h pins s σ H Q I (f Q σ H q)
theorem Lp{st:List aQ}{t t':TS}(h:ma X st t)(f:∀D σ H,t' D σ H->t D σ H):ma X st t':=fun pins s σ H Q I q=>h pins s σ H Q I (f Q σ H q)
end
def Br(b:Bool)(A B:Prop):Prop:=(b=true->A)/\(b=false->B)
theorem Br.ite{b:Bool}{A B A' B':Prop}(h:Br b A B)(f:A->A')(g:B->B'):if b=true then A' else B':=by
 cases b with
 |true=>rw[if_pos rfl];exact f (h.1 rfl)
 |false=>rw[if_neg ar];exact g (h.2 rfl)
section
variable {X:Cx} {a b e c:ρ} {ta tb te:aU} {tA tB:cN} {pos:aO} {es rest:List ρ}
def eC(d:D):aU:=fun _ G Q=>Q d G
def υ(i:Nat):aU:=fun τ G Q=>match iI τ i with
 |some d=>Q d G
 |none=>False
theorem V0{i:Nat}{x:ν}(h:PE X (.Name x pos) (Ag i)):bT X (.Name x pos) (υ i):=jS h fun σ H Q ⟨τ,G,Q3,RS,RG,h,k⟩=>by
 unfold υ at h;cases hd:iI τ i with
 |none=>rw[hd] at h;exact h.elim
 |some d=>
  rw[hd] at h;obtain⟨v,e1,e2⟩:=RS.at_ i d hd;exact⟨v,e1,k v H d G e2 (.refl H G) RG h⟩
theorem yX{v:V}{d:D}(h:PE X e (tC v))(r:∀H,Hv X.K H d v):bT X e (eC d):=jS h fun σ H Q ⟨τ,G,Q3,RS,RG,h,k⟩=>k v H d G (r H) (.refl H G) RG h
theorem VZ{i:Int}{j}:bT X (.Constant (.int i) j pos) (eC (.int i)):=yX WK fun H=>by simp[Hv]
theorem aay{i:Bool}{j}:bT X (.Constant (.bool i) j pos) (eC (.bl i)):=yX WJ fun H=>by simp[Hv]
theorem VY{j}:bT X (.Constant .none j pos) (eC .aC):=yX L6 fun H=>by simp[Hv]
theorem VX{x:ν}{j}:bT X (.Constant (.str x) j pos) (eC (.str x)):=yX W3 fun H=>by simp[Hv]
theorem Vl{x:ν}{i:Int}{u:Tok}(hm:X.mg x=some (.int i u))(hg:Gl X x:=by rfl)(hd:(x==("__debug__":ν))=false:=by decide):bT X (.Name x pos) (eC (.int i)):=yX (v:=.int i) (L5 hg hm ⟨u,rfl⟩ hd) fun H=>by simp[Hv]
abbrev R3:=D->D->Gp->V3->Prop
def bx(r:R3)(ta tb:aU):aU:=fun τ G Q=>ta τ G fun x G1=>tb τ G1 fun y G2=>r x y G2 Q
def fR(K:θ)(r:R3)(r2:R2):Prop:=∀x y vx vy G H Q3 Q,Hv K H x vx->Hv K H y vy->aJ K G H->r x y G Q3->(∀v H' d G',Hv K H' d v->Step H G H' G'->aJ K G' H'->Q3 d G'->Q v H')->r2 vx vy H Q
theorem Bb{K:θ}{r:R3}{r2:R2}(L:fR K r r2){σ:L2.St}{H:Hp}{Q:VK}(h:low K (bx r ta tb) σ H Q):CK r2 (low K ta) (low K tb) σ H Q:=by
 obtain⟨τ,G,Q3,RS,RG,h,k⟩:=h;refine⟨τ,G,_,RS,RG,h,fun v1 H1 d1 G1 h1 S1 R1 q1=>?_⟩;refine⟨τ,G1,_,RS.ext (S1.ext RG),R1,q1,fun v2 H2 d2 G2 h2 S2 R2 q2=>?_⟩;exact L _ _ _ _ _ _ _ _ (h1.ext (S2.ext R1)) h2 R2 q2 fun v H' d G' z1 z2 z3 z4=>k v H' d G' z1 ((S1.trans S2).trans z2) z3 z4
theorem aaw{op:lp}{r:R3}{r2:R2}(L:fR X.K r r2)(ho:fF X (binaryOp op) r2)(ha:bT X a ta)(hb:bT X b tb):bT X (.BinOp a op b pos) (bx r ta tb):=
 jS (We ho ha hb) fun _ _ _ h=>Bb L h
theorem Vk{op:CmpOp}{r:R3}{r2:R2}(L:fR X.K r r2)(ho:fF X (compareOp op) r2)(ha:bT X a ta)(hb:bT X b tb)(hm:behindInMarks op b=false):bT X (.Compare a [op] [b] pos) (bx r ta tb):=
 jS (V9 ho ha hb hm) fun _ _ _ h=>Bb L h
def b9(t:aU):cN:=fun τ G Q=>t τ G fun x G1=>match x with
 |.bl k=>Q k G1
 |_=>False
theorem Lo{K:θ}{t:aU}{σ:L2.St}{H:Hp}{Q:Bool->Hp->Prop}(h:sh K (b9 t) σ H Q):FY (low K t) σ H Q:=by
 obtain⟨τ,G,Q3,RS,RG,h,k⟩:=h;refine⟨τ,G,_,RS,RG,h,fun v H' d G' h1 h2 h3 h4=>?_⟩;cases d with
 |bl c=>
  unfold Hv at h1;exact⟨c,h1,k c H' G' h2 h3 h4⟩
 |_=>exact h4.elim
theorem Vj{op:CmpOp}{r:R3}{r2:R2}(L:fR X.K r r2)(ho:fF X (compareOp op) r2)(ha:bT X a ta)(hb:bT X b tb)(hm:behindInMarks op b=false):qu X (.Compare a [op] [b] pos) (b9 (bx r ta tb)):=
 ER (V8 ho ha hb hm) fun σ H Q h=>by
  obtain⟨τ,G,Q3,RS,RG,h,k⟩:=Lo h;exact Bb L ⟨τ,G,Q3,RS,RG,h,k⟩
theorem Vi(h:bT X a ta)(he:∀whole,isTrue a X.env whole=(do let v ←whole;standAt a.pos;holding [v] (truthy v)):=by intro _;rfl):qu X a (b9 ta):=
 ER (WG h he) fun σ H Q h=>by
  obtain⟨τ,G,Q3,RS,RG,h,k⟩:=Lo h;refine⟨τ,G,Q3,RS,RG,h,fun v H' d G' h1 h2 h3 h4=>?_⟩;obtain⟨c,rfl,q⟩:=k v H' d G' h1 h2 h3 h4;exact⟨c,rfl,q⟩
def C7(r r':R3)(ta tb tc:aU):aU:=fun τ G Q=>ta τ G fun x G1=>tb τ G1 fun y G2=>r x y G2 fun z G3=>match z with
 |.bl k=>Br k (tc τ G3 fun w G4=>r' y w G4 Q) (Q (.bl false) G3)
 |_=>False
def zB(t u:cN):cN:=fun τ G Q=>t τ G fun c G1=>Br c (u τ G1 Q) (Q false G1)
def sU(t u:cN):cN:=fun τ G Q=>t τ G fun c G1=>Br c (Q true G1) (u τ G1 Q)
def jV(t:cN):cN:=fun τ G Q=>t τ G fun c G1=>Q (!c) G1
theorem Vh(ha:qu X a tA):xU X (.BoolOp .And [a] pos) tA:=pw_and1 ha
theorem Vg(ha:qu X a tA):xU X (.BoolOp .Or [a] pos) tA:=pw_or1 ha
theorem Vf(ha:qu X a tA)(hb:xU X (.BoolOp .And (b::rest) pos) tB):xU X (.BoolOp .And (a::b::rest) pos) (zB tA tB):=pw_of (pw_and ha hb) fun σ H Q h=>by
 obtain⟨τ,G,Q3,RS,RG,h,k⟩:=h;refine⟨τ,G,_,RS,RG,h,fun c H1 G1 S1 R1 q1=>?_⟩;exact Br.ite q1 (fun q=>⟨τ,G1,Q3,RS.ext (S1.ext RG),R1,q,fun b' H' G' y1 y2 y3=>k b' H' G' (S1.trans y1) y2 y3⟩) fun q=>k false H1 G1 S1 R1 q
theorem Ve(ha:qu X a tA)(hb:xU X (.BoolOp .Or (b::rest) pos) tB):xU X (.BoolOp .Or (a::b::rest) pos) (sU tA tB):=pw_of (pw_or ha hb) fun σ H Q h=>by
 obtain⟨τ,G,Q3,RS,RG,h,k⟩:=h;refine⟨τ,G,_,RS,RG,h,fun c H1 G1 S1 R1 q1=>?_⟩;exact Br.ite q1 (fun q=>k true H1 G1 S1 R1 q) fun q=>⟨τ,G1,Q3,RS.ext (S1.ext RG),R1,q,fun b' H' G' y1 y2 y3=>k b' H' G' (S1.trans y1) y2 y3⟩
theorem N4(h:xU X a tA):qu X a tA:=h.pt
theorem Vd(ha:qu X a tA):qu X (.UnaryOp .Not a pos) (jV tA):=ER (W2 ha) fun σ H Q h=>by
 obtain⟨τ,G,Q3,RS,RG,h,k⟩:=h;exact⟨τ,G,_,RS,RG,h,fun c H1 G1 S1 R1 q1=>k _ H1 G1 S1 R1 q1⟩
def uL(ta tb:aU):aU:=fun τ G Q=>ta τ G fun x G1=>match x with
 |.bl c=>Br c (tb τ G1 Q) (Q (.bl false) G1)
 |_=>False
def BZ(ta:aU):aU:=fun τ G Q=>ta τ G fun x G1=>match x with
 |.bl c=>Q (.bl (!c)) G1
 |_=>False
theorem Vc{op}(h:bT X a ta):bT X (.BoolOp op [a] pos) ta:=W1 h
theorem Vb(ha:bT X a ta)(hb:bT X (.BoolOp .And (b::rest) pos) tb):bT X (.BoolOp .And (a::b::rest) pos) (uL ta tb):=jS (W0 ha hb) fun σ H Q h=>by
 obtain⟨τ,G,Q3,RS,RG,h,k⟩:=h;refine⟨τ,G,_,RS,RG,h,fun v H1 d G1 h1 S1 R1 q1=>?_⟩;cases d with
 |bl c=>
  unfold Hv at h1;exact⟨c,h1,Br.ite q1 (fun q=>⟨τ,G1,Q3,RS.ext (S1.ext RG),R1,q,fun b' H' d' G' y0 y1 y2 y3=>k b' H' d' G' y0 (S1.trans y1) y2 y3⟩) fun q=>k _ H1 (.bl false) G1 (by simp[Hv]) S1 R1 q⟩
 |_=>exact q1.elim
theorem U9(ha:bT X a ta):bT X (.UnaryOp .Not a pos) (BZ ta):=jS (WZ ha) fun σ H Q h=>by
 obtain⟨τ,G,Q3,RS,RG,h,k⟩:=h;refine⟨τ,G,_,RS,RG,h,fun v H1 d G1 h1 S1 R1 q1=>?_⟩;cases d with
 |bl c=>
  unfold Hv at h1;exact⟨c,h1,k _ H1 (.bl (!c)) G1 (by simp[Hv]) S1 R1 q1⟩
 |_=>exact q1.elim
def notStar:ρ->Bool
 |.Starred ..=>false
 |_=>true
theorem eB{e:ρ}{es:List ρ}{env:cK}(h:notStar e=true):bM (e::es) env=(false,eval e env)::bM es env:=by
 cases e<;>first|rfl|(simp[notStar] at h)
theorem kD{pos:aO}{env:cK}:∀{es:List ρ},es.all notStar=true->(backTo pos (bM es env)).any (·.1)=false
 |[],_=>rfl
 |e::es,h=>by
  rw[nV,bQ] at h;rw[eB h.1];show (false||(backTo pos (bM es env)).any (·.1))=false;rw[kD h.2];rfl
def ae:cM:=fun _ G Q=>Q [] G
def ο(ta:aU)(tr:cM):cM:=fun τ G Q=>ta τ G fun x G1=>tr τ G1 fun xs G2=>Q (x::xs) G2
theorem U8:jc X [] ae:=Lq t9 fun σ H Q ⟨τ,G,Q3,RS,RG,h,k⟩=>k [] H [] G .nil (.refl H G) RG h
theorem U7{tr:cM}(ha:bT X a ta)(hr:jc X es tr)(hs:notStar a=true:=by rfl):jc X (a::es) (ο ta tr):=Lq (pC ha hr (eB hs)) fun σ H Q h=>by
 obtain⟨τ,G,Q3,RS,RG,h,k⟩:=h;refine⟨τ,G,_,RS,RG,h,fun v1 H1 d1 G1 h1 S1 R1 q1=>?_⟩;refine⟨τ,G1,_,RS.ext (S1.ext RG),R1,q1,fun vs H2 ds G2 h2 S2 R2 q2=>?_⟩;exact k _ H2 _ G2 (.cons (h1.ext (S2.ext R1)) h2) (S1.trans S2) R2 q2
def tS{α:Type}(P:Prop):List α->Nat->Prop
 |[],_=>P
 |_::_,0=>False
 |_::xs,n+1=>tS P xs n
theorem Ba{α:Type}{P:Prop}:∀{xs:List α} {n:Nat},tS P xs n->xs.length≤n/\P
 |[],n,h=>⟨ba _,h⟩
 |_::_,0,h=>h.elim
 |_::xs,n+1,h=>by
  obtain⟨h1,h2⟩:=Ba (xs:=xs) (n:=n) h;exact⟨Nat.succ_le_succ h1,h2⟩
theorem zp{n:Nat}(h:n≤64):n≤au:=aA h (by decide)
def fH(t:cM):aU:=fun τ G Q=>t τ G fun ds G1=>tS (Q (.tup ds) G1) ds 64
def jv(t:cM):aU:=fun τ G Q=>t τ G fun ds G1=>tS (∀p G2,eD G1 p (.lst ds) G2->Q (.obj p) G2) ds 64
theorem U6{t:cM}{x1}(h:jc X es t):bT X (.Tuple es x1 pos) (fH t):=jS (Wz h) fun σ H Q h=>by
 obtain⟨τ,G,Q3,RS,RG,h,k⟩:=h;refine⟨τ,G,_,RS,RG,h,fun vs H1 ds G1 h1 S1 R1 q1=>?_⟩;obtain⟨z,q1⟩:=Ba q1;refine⟨by rw[←h1.length];exact zp z,fun p hp=>?_⟩;refine k _ _ (.tup ds) G1 ?_ (S1.trans (.laid hp)) (R1.laid hp) q1;unfold Hv;exact⟨p,vs,rfl,.of iO,h1.ext (.laid hp)⟩
theorem U5{t:cM}(h:jc X es t):bT X (.List es pos) (jv t):=jS (LX h) fun σ H Q h=>by
 obtain⟨τ,G,Q3,RS,RG,h,k⟩:=h;refine⟨τ,G,_,RS,RG,h,fun vs H1 ds G1 h1 S1 R1 q1=>?_⟩;obtain⟨z,q1⟩:=Ba q1;refine⟨by rw[←h1.length];exact zp z,fun p hp=>?_⟩;exact k _ _ (.obj p) (dG G1 p (.lst ds)) (by simp[Hv]) (S1.trans (.jG hp)) (R1.jG hp ⟨vs,iO,h1.ext (.laid hp)⟩) (q1 p _ (.mk' (R1.free hp)))
end
end L3
namespace L2
open PySem PySem.Spec PyProof.Rows
def mM(env:cK):List (ν×fU)->List (ν×ζ)->List (ν×ζ)
 |[],acc=>acc
 | (n,k)::r,acc=>mM env r (if k=.free then (n,(env.cells.lookup n).getD 0)::acc else acc)
theorem Ln{scope:eS}{env:cK}(h:∀y∈scope.names,y.2=.free->∃c,env.cells.lookup y.1=some c):closureFor scope env=pure (mM env scope.names []):=by
 have key:∀(l:List (ν×fU)) (acc:List (ν×ζ)),(∀y∈l,y.2=.free->∃c,env.cells.lookup y.1=some c) ->
   (forIn l acc fun (x:ν×fU) (r:List (ν×ζ))=>(do
    if (x.2==cR)=true then do
     let a ←cellOf env x.1
     pure (hV ((x.1,a)::r))
    else pure (hV r):j5 (ForInStep (List (ν×ζ)))))=pure (mM env l acc):=by
  intro l
  induction l with
  |nil=>intro acc _;rfl
  |cons y r ih=>
   intro acc hy;obtain⟨n,k⟩:=y;rw[qz];by_cases hk:k=.free
   ·obtain⟨c,hc⟩:=hy (n,k) χ hk;have e1:cellOf env n=pure c:=by unfold cellOf;rw[show env.cells.lookup n=some c from hc]
    subst hk;simp only[beq_self_eq_true,if_true,e1,pure_bind];rw[ih _ fun y hy'=>hy y (ψ _ hy')];show _=pure (mM env r (if cR=cR then (n,(env.cells.lookup n).getD 0)::acc else acc));rw[if_pos rfl,show env.cells.lookup n=some c from hc];rfl
   ·have hb:(k==cR)=false:=by simpa using hk
    simp only[hb,cI,if_false,pure_bind];rw[ih _ fun y hy'=>hy y (ψ _ hy')];show _=pure (mM env r (if k=cR then (n,(env.cells.lookup n).getD 0)::acc else acc));rw[if_neg hk]
 have:=key scope.names [] h;unfold closureFor
 first
  |exact (by simpa using this)
  | (simp only[bind_pure];exact this)
theorem Lm{env:cK}{x:ν}{c:ζ}:∀(l:List (ν×fU)) (acc:List (ν×ζ)),(mM env l acc).lookup x=some c ->
  acc.lookup x=some c∨((x,cR)∈l/\c=(env.cells.lookup x).getD 0)
 |[],_,h=>.inl h
 | (n,k)::r,acc,h=>by
  rcases Lm r _ h with q|⟨q1,q2⟩
  ·by_cases hk:k=.free
   ·rw[if_pos hk,cB] at q;by_cases hx:(x==n)=true
    ·rw[hx] at q;have hx':x=n:=by simpa using hx
     subst hx' hk;exact .inr ⟨χ,(aD q).symm⟩
    ·have hx2:(x==n)=false:=by simpa using hx
     rw[hx2] at q;exact .inl q
   ·rw[if_neg hk] at q;exact .inl q
  ·exact .inr ⟨ψ _ q1,q2⟩
theorem Ll{env:cK}{x:ν}:∀(l:List (ν×fU)) (acc:List (ν×ζ)),acc.lookup x=some ((env.cells.lookup x).getD 0)->(mM env l acc).lookup x=some ((env.cells.lookup x).getD 0)
 |[],_,h=>h
 | (n,k)::r,acc,h=>by
  refine Ll r _ ?_;by_cases hk:k=.free
  ·rw[if_pos hk,cB];by_cases hx:(x==n)=true
   ·rw[hx];have hx':x=n:=by simpa using hx
    rw[hx']
   ·have hx2:(x==n)=false:=by simpa using hx
    rw[hx2];exact h
  ·rw[if_neg hk];exact h
theorem Lk{env:cK}{x:ν}:∀(l:List (ν×fU)) (acc:List (ν×ζ)),(x,cR)∈l->(mM env l acc).lookup x=some ((env.cells.lookup x).getD 0)
 |[],_,h=>by cases h
 | (n,k)::r,acc,h=>by
  rcases Δ.mp h with e|e
  ·cases e;refine Ll r _ ?_;rw[if_pos rfl,cB,beq_self_eq_true]
  ·exact Lk r _ e
structure dM(N:List ν)(sc scope:eS)(own:List ν)(js:List Nat):Prop where
 kind:scope.kind=.function
 C0:∀y∈scope.names,y.2≠.cell
 names:∀y∈scope.names,y.2=.local->scope.names.lookup y.1=some .local
 free:∀y∈scope.names,y.2=.free->sc.names.lookup y.1=some .cell/\own.contains y.1=false
 only:∀y∈scope.names,y.2=.free->scope.names.lookup y.1=some .free
 js:∀j∈js,j<N.length/\(N.getD j iQ,cR)∈scope.names
def aaB(N own:List ν)(js:List Nat):List ν:=own++js.map fun j=>N.getD j iQ
def uM(own:List ν)(js:List Nat)(σ:St):St:=bo own.length none++js.map fun j=>(σ[j]?).getD none
def Cx.cmp(X:Cx)(scope:eS)(own:List ν)(js:List Nat)(s:η)(H:Hp)(fp:List ζ):Cx:=
 { X with N:=aaB X.N own js,s₀:=s,H₀:=H,env:=compEnvC scope (mM X.env scope.names []) s.heap.objs.size X.env,outer:=X.stack,ex:=fp,fn:=fun x=>own.contains x,pn:=[],xe:=fun _ _=>False }
theorem A9{sc:eS}{env:cK}{x:ν}{k:fU}:∀(names:List (ν×fU)),
  (names.map fun (n,k)=>if (k==cR&&env.scope.kind==.function&&env.kindOf n==some .cell) then (n,tj) else (n,k)).lookup x=some k ->
  (names.lookup x=some k/\(k≠.free∨k=.free))∨(k=.cell/\names.lookup x=some .free)
 |[],h=>by simp at h
 | (n,k')::r,h=>by
  have ih:=@A9 sc env x k r;have h':List.lookup x ((if (k'==cR&&env.scope.kind==.function&&env.kindOf n==some .cell)=true then (n,tj) else (n,k'))::_)=some k:=h;rw[cB];by_cases hc:(k'==cR&&env.scope.kind==.function&&env.kindOf n==some .cell)=true
  ·rw[if_pos hc,cB] at h';cases hx:x==n with
   |true=>
    rw[hx] at h';have e:tj=k:=aD h';have hk':k'=.free:=by
     rw[bQ,bQ] at hc;simpa using hc.1.1
    exact .inr ⟨e.symm,by rw[hk']⟩
   |false=>
    rw[hx] at h';exact ih h'
  ·rw[if_neg hc,cB] at h';cases hx:x==n with
   |true=>
    rw[hx] at h';have e:k'=k:=aD h';subst e;exact .inl ⟨rfl,by by_cases z:k'=.free;exact .inr z;exact .inl z⟩
   |false=>
    rw[hx] at h';exact ih h'
theorem EO{x:ν}{k:fU}{l:List (ν×fU)}(h:l.lookup x=some k):(x,k)∈l:=fN h
section
variable {X:Cx} {pins:List (ζ×aP)} {σ:St} {H:Hp} {s:η} {scope:eS} {own:List ν} {js:List Nat} {fp:List ζ}
theorem dM.cells(C:dM X.N X.env.scope scope own js)(ok:X.Ok):∀y∈scope.names,y.2=.free->∃c,X.env.cells.lookup y.1=some c:=fun y hy e=>
 ok.has y.1 (.inl (C.free y hy e).1)
theorem dM.uO(C:dM X.N X.env.scope scope own js)(ok:X.Ok){x:ν}{c:ζ}(h:(mM X.env scope.names []).lookup x=some c):(x,cR)∈scope.names/\X.env.cells.lookup x=some c:=by
 rcases Lm scope.names [] h with q|⟨q1,q2⟩
 ·cases q
 ·obtain⟨c',e⟩:=C.cells ok _ q1 rfl;refine⟨q1,?_⟩;rw[q2,show X.env.cells.lookup x=some c' from e];rfl
theorem dM.C8(C:dM X.N X.env.scope scope own js)(ok:X.Ok){x:ν}(h:(x,cR)∈scope.names):∃c,(mM X.env scope.names []).lookup x=some c/\X.env.cells.lookup x=some c:=by
 obtain⟨c,e⟩:=C.cells ok _ h rfl;refine⟨c,?_,e⟩;rw[Lk scope.names [] h,show X.env.cells.lookup x=some c from e];rfl
theorem Inv.Nz(I:Inv X pins σ H s)(C:dM X.N X.env.scope scope own js)(hf:∀b∈fp,j3 X pins H b/\b<s.heap.objs.size):(X.cmp scope own js s H fp).Ok where
 mod:=I.ok.mod
 kind:=C.kind
 glob:=I.ok.glob
 blt:=I.ok.blt
 above:=Θ _
 inj:=fun x y c h1 h2=>I.ok.inj x y c (C.uO I.ok h1).2 (C.uO I.ok h2).2
 has:=fun x h=>by
  have hfree:(x,cR)∈scope.names:=by
   rcases h with h|h
   ·rcases A9 (sc:=scope) (env:=X.env) scope.names h with⟨q,_⟩|⟨_,q⟩
    ·exact absurd rfl (C.C0 _ (EO q))
    ·exact EO q
   ·rcases A9 (sc:=scope) (env:=X.env) scope.names h with⟨q,_⟩|⟨q,_⟩
    ·exact EO q
    ·cases q
  obtain⟨c,e,_⟩:=C.C8 I.ok hfree;exact⟨c,e⟩
 Ab:=fun x c h1 h2=>by
  have q:=(C.free _ (C.uO I.ok h2).1 rfl).2;have h1':own.contains x=true:=h1;rw[q] at h1';cases h1'
 hd:=I.ok.hd
 frames:=I.ok.frames
 zR:=.inl rfl
 C6:=fun b hb=>⟨aW (hf b hb).2,fun x c e=>(hf b hb).1.2.2.2.2.1 x c (C.uO I.ok e).2⟩
 bs:=I.bs
 qt:=aA I.ok.qt I.sz
 vV:=fun b o e hb=>by
  rcases (hf b hb).1.2.2.2.1 with z|z
  ·exact I.ok.vV b o e z
  ·exact absurd (aX (Ξ e) (aA I.ok.qt z)) (bU _)
 xG:=fun b hb z=>by
  rcases Δ.mp (I.tR b z) with e|e
  ·exact (hf b hb).1.2.1 e
  ·exact (hf b hb).1.2.2.1 e
 ll:=I.stack
 wF:=I.fw
theorem U4{N:List ν}{js:List Nat}{i:Nat}{x:ν}(h:(js.map fun j=>N.getD j iQ)[i]?=some x):∃j,js[i]?=some j/\x=N.getD j iQ:=by
 rw[aI] at h;cases e:js[i]? with
 |none=>rw[e] at h;cases h
 |some j=>rw[e] at h;exact⟨j,rfl,(aD h).symm⟩
theorem Inv.cmp(I:Inv X pins σ H s)(C:dM X.N X.env.scope scope own js)(hf:∀b∈fp,j3 X pins H b/\b<s.heap.objs.size){h':Ψ}{tk:Nat}(hn:h'.Ns s.heap.objs.size fun _=>none)
  (kept:∀b o,s.heap.get? b=some o->h'.get? b=some o):Inv (X.cmp scope own js s H fp) [] (uM own js σ) H { s with heap:=h',toks:=tk }:=by
 have ok:=I.Nz C hf;refine⟨ok,rfl,I.bare,Un.kept kept,⟨_,hn,fun i x v h1 h2 h3=>?_⟩,fun x c e=>?_,I.bF.fresh (Θ _),fun x c e=>I.km x c (C.uO I.ok e).2,fun p hp=>?_,I.bF.kept kept,?_⟩
 ·have h1':(own++js.map fun j=>X.N.getD j iQ)[i]?=some x:=h1;have h2':(bo own.length none++js.map fun j=>(σ[j]?).getD none)[i]?=some (some v):=h2;by_cases hi:i<own.length
  ·rw[fi (by simpa using hi),kI,if_pos hi] at h2';cases h2'
  ·rw[eU (by omega)] at h1';rw[eU (by simp;omega),lG] at h2';obtain⟨j,hj,rfl⟩:=U4 h1';rw[aI,hj] at h2';have h2'':(σ[j]?).getD none=some v:=aD h2';have hσ:σ[j]?=some (some v):=by
    cases e:σ[j]? with
    |none=>rw[e] at h2'';cases h2''
    |some o=>
     rw[e] at h2'';have:o=some v:=h2'';rw[this]
   obtain⟨jl,jf⟩:=C.js j (bE hj);have hN:X.N[j]?=some (X.N.getD j iQ):=by
    rw[gx,aB jl];rfl
   have hcell:=(C.free _ jf rfl).1;obtain⟨m,hm,hl⟩:=I.loc;obtain⟨u,ru,lk⟩:=hl j _ v hN hσ (.inr (.inl hcell));refine⟨u,ru,?_⟩;obtain⟨c,e1,e2⟩:=C.C8 I.ok jf;rcases lk with⟨z,_⟩|⟨_,c',z1,z2⟩
   ·have z':X.env.scope.names.lookup (X.N.getD j iQ)=some .local:=z;rw[show X.env.scope.names.lookup (X.N.getD j iQ)=some .cell from hcell] at z';cases z'
   ·rw[e2] at z1;cases z1;have ic:h'.IsCell c (some u):=by
     obtain⟨o,q1,q2⟩:=z2;exact⟨o,kept _ _ q1,q2⟩
    rcases h3 with h3|h3|h3
    ·exfalso;rcases A9 (sc:=scope) (env:=X.env) scope.names h3 with⟨q,_⟩|⟨q,_⟩
     ·have z:=C.only _ jf rfl;rw[q] at z;cases z
     ·cases q
    ·exact .inr ⟨.inl h3,c,e1,ic⟩
    ·exact .inr ⟨.inr h3,c,e1,ic⟩
 ·obtain⟨v,o,q1,q2⟩:=I.cell x c (C.uO I.ok e).2;exact⟨v,o,kept _ _ q1,q2⟩
 ·exact absurd (show p∈([]:List (ζ×aP)) from hp) (by simp)
 ·show (bo own.length none++js.map fun j=>(σ[j]?).getD none).length=(own++js.map fun j=>X.N.getD j iQ).length;simp
theorem Inv.MY{σ':St}{H':Hp}{s':η}{pl:List (ζ×aP)}(I:Inv X pins σ H s)(hf:∀b∈fp,j3 X pins H b/\b<s.heap.objs.size)(J:Inv (X.cmp scope own js s H fp) pl σ' H' s'):Inv X pins σ H' s':=by
 refine I.Co (ch:=fp) J.os J.base J.bF J.bare fun b hb=>?_;obtain⟨f0,f1,f2,f3,f4,f5⟩:=(hf b hb).1;exact⟨f3,f1,f4,f5⟩
theorem Inv.other{H':Hp}{s':η}{h':Ψ}{b:ζ}(I0:Inv X pins σ H s)(I:Inv X pins σ H' s')(hb:s.heap.objs.size≤b)(hn:H' b=none)(sb:et b s'.heap h'):Inv X pins σ H' { s' with heap:=h' }:=by
 obtain⟨f0,f1,f2,f3,f4,f5⟩:=I0.qR hb hn;exact I.turned (t':=s'.toks) (fun c o hc e=>(sb.2 c hc).trans e) f0 f1 f3 f4 f5
end
def vh(X:Cx)(ifs:List ρ)(t:TT):Prop:=
 ∀(pins:List (ζ×aP)) (s:η) (σ:St) (H:Hp) (Q:Bool->Hp->Prop),Inv X pins σ H s->t σ H Q ->
  ξ (model X.prog X.w) X.A (forIn ifs true fun c r=>if r=true then do let ok ←isTrue c X.env (eval c X.env);pure (hV ok) else pure (hV r)) (TP X pins σ Q) X.xe s
def Hf:TT:=fun _ H Q=>Q true H
theorem U3{X:Cx}:vh X [] Hf:=fun _ _ _ H _ I h=>wpAny_tests_nil ⟨H,I,h⟩
theorem U2{X:Cx}{c:ρ}{t:TT}(h:PT X c t):vh X [c] t:=fun pins s σ H Q I hq=>wpAny_tests_one (h pins s σ H Q I hq)
section
variable {prog:Ω} {w:ah} {A:aE} {R:Result->η->Prop} {s:η}
theorem U1{elt target iter:ρ}{ifs:List ρ}{scope:eS}{pos:aO}{it acc:ε}{env:cK}(I:Nat->η->Prop)
  (turn:∀n s,I n s->ξ (model prog w) A (pyNext it) (fun r s₁=>match r with
   |none=>R (.ok .next) s₁
   | some v=>ξ (model prog w) A (letOwnedTupleGo target it v) (fun _ s₁'=>ξ (model prog w) A (assign target env v) (fun _ s₂=>
     ξ (model prog w) A (forIn ifs true fun c r=>if r=true then do let ok ←isTrue c env (eval c env);pure (hV ok) else pure (hV r)) (fun ok s₃=>
      if ok=true then ξ (model prog w) A (eval elt env) (fun x s₄=>
       ξ (model prog w) A (call (.builtin "list.append") [acc,x]) (fun _ s₅=>∃m,m<n/\I m s₅) (fun _ _=>False) s₄) (fun _ _=>False) s₃
      else ∃m,m<n/\I m s₃) (fun _ _=>False) s₂) (fun _ _=>False) s₁') (fun _ _=>False) s₁) (fun _ _=>False) s)
  (n:Nat) (h:I n s):
  fA (model prog w) A (.compLoop (.ListComp elt [⟨target,iter,ifs,0⟩] scope pos) 0 it acc env) R s:=by
 refine codeAny_loop rfl I (fun n s hI=>?_) n h;show ξ _ A ((compTurn (.ListComp elt [⟨target,iter,ifs,0⟩] scope pos) 0 it acc env).onRaise (fun x=>do noteFrame x env;theTreesLotGoes x)) _ _ s
 refine wpAny_noted ?_;rw[compTurn_list];refine δ (gs (δ (cb (turn n s hI) (fun r s₁ h₁=>?_) fun _ _ h'=>h'.elim)));cases r with
 |none=>exact μ h₁
 |some v=>
  refine δ (cb h₁ (fun _ s₁' h₁'=>?_) fun _ _ h'=>h'.elim);refine δ (cb h₁' (fun _ s₂ h₂=>δ (cb h₂ (fun ok s₃ h₃=>?_) fun _ _ h'=>h'.elim)) fun _ _ h'=>h'.elim);cases ok with
  |false=>exact μ ⟨rfl,h₃⟩
  |true=>
   exact δ (δ (cb h₃ (fun x s₄ h₄=>δ (cb h₄ (fun _ s₅ h₅=>μ (μ ⟨rfl,h₅⟩)) fun _ _ h'=>h'.elim)) fun _ _ h'=>h'.elim))
end
def MN(own:List ν)(js:List Nat)(g:TG)(tc:TT)(te:TE)(J:It)(σ:St)(H:Hp)(Q:VK):Prop:=
 ∀D,H D=none->∃W:Nat->Nat->List V->St->Hp->Prop,(∃m,W 0 m [] (uM own js σ) (upd H D (.lst [])))/\∀i m ys σ' H',W i m ys σ' H'->H' D=some (.lst ys) ∧
  ((J.stop i H'/\Q (.ref D) H')∨(J.go i H'/\ys.length<au/\∀x H2,J.CI i H' x H2->g x σ' H2 fun σ2 H3=>tc σ2 H3 fun b H4=>
   if b=true then te σ2 H4 fun v H5=>H5 D=some (.lst ys)/\∃m',m' < m/\W (i+1) m' (ys++[v]) σ2 (upd H5 D (.lst (ys++[v]))) else ∃m',m' < m/\W (i+1) m' ys σ2 H4))
def HH(own:List ν)(js:List Nat)(wi:TI)(g:TG)(tc:TT)(te:TE):TE:=fun σ H Q=>wi σ H fun J H1=>MN own js g tc te J σ H1 Q
section
variable {X:Cx} {tg iter elt:ρ} {ifs:List ρ} {scope:eS} {pos:aO} {own:List ν} {js:List Nat} {g:TG} {tc:TT} {te:TE}
theorem Lj{pins:List (ζ×aP)}{σ:St}{H:Hp}{s:η}{Q:VK}{it:ζ}{fp:List ζ}{tn:Nat->Ψ->Prop}{J:It}{E:ε->η->Prop}{RR:ε->ζ->Result->η->Prop}
  (hc:X.calm=true) (C:dM X.N X.env.scope scope own js)
  (hb:∀s H fp,PG (X.cmp scope own js s H fp) tg g/\vh (X.cmp scope own js s H fp) ifs tc/\PE (X.cmp scope own js s H fp) elt te)
  (I:Inv X pins σ H s) (T:Turn X.prog X.w X.K tg J fp it tn) (st:tn 0 s.heap) (hf:∀b∈fp,j3 X pins H b) (rd:MN own js g tc te J σ H Q)
  (hRR:∀D N s' H',Inv X pins σ H' s'->Q (.ref D) H'->s.heap.objs.size≤N->H' N=none->(∃m,s'.heap.Ns N m)->RR (.ref D) N (.ok .next) s'):
  ξ (model X.prog X.w) X.A (newList []) (fun acc s₃=>ξ (model X.prog X.w) X.A (newFunctionEnv scope X.env.globals (mM X.env scope.names []) [] X.env.qual none .none (some X.env)) (fun cenv s₄=>
   fA (model X.prog X.w) X.A (.compStart (.ListComp elt [⟨tg,iter,ifs,0⟩] scope pos) 0 (.ref it) acc { cenv with scope:=relabel scope X.env }) (RR acc cenv.locals) s₄) E s₃) E s:=by
 have hD:H s.heap.objs.size=none:=I.fresh;obtain⟨W,⟨m0,w0⟩,turn⟩:=rd s.heap.objs.size hD;refine bG ?_;have hI3:Inv X pins σ (upd H s.heap.objs.size (.lst [])) { s with heap:=s.heap.push { cls:=.type "list",data:=.seq ([]:List ε).toArray }}:=
  I.Fm (t':=s.toks) (its:=[]) (ys:=[]) .nil (ba _)
 have hlt:∀b∈fp,b<s.heap.objs.size:=fun b hb=>by
  obtain⟨o,e,_⟩:=T.obj 0 _ st b hb;exact Ξ e
 have st3:tn 0 (s.heap.push { cls:=.type "list",data:=.seq ([]:List ε).toArray }):=T.keep 0 _ _ st fun b _ o e=>ι _ e;generalize hs3:({ s with heap:=s.heap.push { cls:=.type "list",data:=.seq ([]:List ε).toArray }}:η)=s3 at hI3 ⊢;have hsz3:s3.heap.objs.size=s.heap.objs.size+1:=by rw[←hs3];exact dF ..
 have st3':tn 0 s3.heap:=by rw[←hs3];exact st3
 have hf3:∀b∈fp,j3 X pins (upd H s.heap.objs.size (.lst [])) b/\b<s3.heap.objs.size:=fun b hb=>by
  obtain⟨f0,f1⟩:=hf b hb;refine⟨⟨?_,f1⟩,by rw[hsz3];exact iz (hlt b hb)⟩;rw[dz (aW (hlt b hb))];exact f0
 refine wpAny_newFunctionEnv C.C0 (by intro y hy;simp at hy) (fun h₁ hns₁ hsb₁=>?_) C.kind;have kept1:∀b o,s3.heap.get? b=some o->h₁.get? b=some o:=fun b o e=>(hsb₁.2 b (aW (Ξ e))).trans (ι _ e);have I4:Inv (X.cmp scope own js s3 (upd H s.heap.objs.size (.lst [])) fp) [] (uM own js σ) (upd H s.heap.objs.size (.lst [])) { s3 with heap:=h₁,toks:=s3.toks+([]:List (ν×ε)).length }:=
  hI3.cmp C hf3 hns₁ kept1
 have st4:tn 0 h₁:=T.keep 0 _ _ st3' fun b _ o e=>kept1 b o e;obtain⟨hg,ht,he⟩:=hb s3 (upd H s.heap.objs.size (.lst [])) fp
 -- the iterator's objects in the block's context
 have stat:∀{H':Hp},(∀b∈fp,H' b=none)->∀b∈fp,j3 (X.cmp scope own js s3 (upd H s.heap.objs.size (.lst [])) fp) [] H' b:=fun {H'} hn b hb=>by
  have q:=I4.ok;exact⟨hn b hb,(q.C6 b hb).1,q.xG b hb,.inl hb,(q.C6 b hb).2,fun p hp=>absurd (show p∈([]:List (ζ×aP)) from hp) (by simp)⟩
 have loop:fA (model X.prog X.w) X.A (.compLoop (.ListComp elt [⟨tg,iter,ifs,0⟩] scope pos) 0 (.ref it) (.ref s.heap.objs.size) (compEnvC scope (mM X.env scope.names []) s3.heap.objs.size X.env))
   (RR (.ref s.heap.objs.size) s3.heap.objs.size) { s3 with heap:=h₁,toks:=s3.toks+([]:List (ν×ε)).length }:=by
  refine U1 (fun n s'=>∃i ys σ' H',Inv (X.cmp scope own js s3 (upd H s.heap.objs.size (.lst [])) fp) [] σ' H' s'/\tn i s'.heap/\(∀b∈fp,H' b=none)/\W i n ys σ' H') ?_ m0
   ⟨0,[],_,_,I4,st4,fun b hb=>(hf3 b hb).1.1,w0⟩
  rintro n s5 ⟨i,ys,σ5,H5,I5,st5,fr5,w5⟩;obtain⟨hacc,hcase⟩:=turn i n ys σ5 H5 w5;rcases hcase with⟨stop,qn⟩|⟨go,hys,step⟩
  ·refine bJ (T.done (X.cmp scope own js s3 (upd H s.heap.objs.size (.lst [])) fp) rfl rfl rfl hc i [] s5 σ5 H5 (fun _ _=>False) I5 (stat fr5) st5 stop) fun r s6 ⟨hr,I6⟩=>?_;subst hr;have I7:=hI3.MY hf3 I6;obtain⟨m,hm,_⟩:=I6.loc;exact hRR _ _ _ _ I7 qn (by rw[hsz3];exact vp _) I6.free ⟨m,hm⟩
  ·refine bJ (T.item (X.cmp scope own js s3 (upd H s.heap.objs.size (.lst [])) fp) rfl rfl rfl hc i [] s5 σ5 H5 (fun _ _=>False) I5 (stat fr5) st5 go) fun r s6 ⟨u,hr,h6⟩=>?_;subst hr;refine bJ h6 fun _ s7 ⟨x,H7,I7,r7,y7,st7,fr7⟩=>?_;have I7':=I7.pinned (stat fr7) (T.obj _ _ st7);refine bJ (hg _ s7 σ5 H7 x u _ I7' r7 (step x H7 y7)) fun _ s8 ⟨σ8,H8,I8,q8⟩=>?_;refine bJ (ht _ s8 σ8 H8 _ I8 q8) fun ok s9 ⟨H9,I9,q9⟩=>?_;have back:∀{σ':St} {H':Hp} {s':η} {ys':List V},Inv (X.cmp scope own js s3 (upd H s.heap.objs.size (.lst [])) fp) ([]++ua fp s7.heap) σ' H' s'->(∃m',m' < n/\W (i+1) m' ys' σ' H') ->
     ∃m',m' < n/\∃i ys σ' H',Inv (X.cmp scope own js s3 (upd H s.heap.objs.size (.lst [])) fp) [] σ' H' s'/\tn i s'.heap/\(∀b∈fp,H' b=none)/\W i m' ys σ' H':=fun {σ' H' s' ys'} I' ⟨m',hm,w'⟩=>by
    refine⟨m',hm,i+1,ys',σ',H',I'.lb,T.keep _ _ _ st7 fun b hb o e=>(I'.pin (b,o) (aY _ (aY _ (Bg hb e)))).1,fun b hb=>?_,w'⟩;obtain⟨o,e,d⟩:=T.obj _ _ st7 b hb;exact (I'.pin (b,o) (aY _ (aY _ (Bg hb e)))).2.1
   cases ok with
   |false=>
    rw[if_neg ar] at q9 ⊢;exact back I9 q9
   |true=>
    rw[if_pos rfl] at q9 ⊢;refine bJ (he _ s9 σ8 H9 _ I9 q9) fun xv s10 ⟨v,H10,I10,r10,hD10,q10⟩=>?_;refine bJ (Bc (X:=X.cmp scope own js s3 (upd H s.heap.objs.size (.lst [])) fp) _ s10 σ8 H10 (.ref s.heap.objs.size) [v] (.ref s.heap.objs.size) [xv] (fun _ H'=>H'=upd H10 s.heap.objs.size (.lst (ys++[v]))) I10 rfl (.cons r10 .nil)
     ⟨_,ys,v,rfl,rfl,hD10,hys,rfl⟩) fun _ s11 ⟨_,H11,I11,_,e11⟩=>?_
    subst e11;exact back I11 q10
 exact codeAny_compStart_list loop (T.self _ 0 _ _ _ st4 loop)
theorem U0{wi:TI}(hc:X.calm=true)(C:dM X.N X.env.scope scope own js)(hi:PI X tg iter wi)
  (hb:∀s H fp,PG (X.cmp scope own js s H fp) tg g/\vh (X.cmp scope own js s H fp) ifs tc/\PE (X.cmp scope own js s H fp) elt te)
  (hs:∀x,foldedSetIterable iter X.env x=pure x:=by intro _;rfl):PE X (.ListComp elt [⟨tg,iter,ifs,0⟩] scope pos) (HH own js wi g tc te):=by
 intro pins s σ H Q I h;rw[eval_ListComp];refine pN (use:=none) rfl hs (Ln (C.cells I.ok)) C.kind C.names (bJ (hi pins s σ H _ I h) fun xv s₁ h₁=>bJ h₁ fun itv s₂ h₂=>?_);obtain⟨it,fp,tn,J,H2,e,I2,T,st2,f2,rd⟩:=h₂;subst e;refine Lj (RR:=fun acc C'=>compPost (model X.prog X.w) X.A X.xe none (EP X pins σ Q) acc C') hc C hb I2 T st2 f2 rd fun D N s' H' I' q hN hHN ⟨m,hm⟩=>?_;exact⟨m,hm,fun h' sb=>⟨.ref D,H',I2.other I' hN hHN sb,rfl,q⟩⟩
theorem UZ{wi:TI}{i:Nat}{y:ν}{py spos:aO}(hc:X.calm=true)(hN:X.N.Nodup)(hy:X.N[i]?=some y)(hyl:X.env.scope.names.lookup y=some .local)(C:dM X.N X.env.scope scope own js)(hi:PI X tg iter wi)
  (hb:∀s H fp,PG (X.cmp scope own js s H fp) tg g/\vh (X.cmp scope own js s H fp) ifs tc/\PE (X.cmp scope own js s H fp) elt te)
  (C5:swapsWith (.ListComp elt [⟨tg,iter,ifs,0⟩] scope pos) (some (.Name y py)) spos.line X.env=pure true:=by rfl)
  (hs:∀x,foldedSetIterable iter X.env x=pure x:=by intro _;rfl):PS X (.Assign [.Name y py] (.ListComp elt [⟨tg,iter,ifs,0⟩] scope pos) spos) (Dm (HH own js wi g tc te) (BF i)):=by
 intro pins s σ H D I h;rw[exec_Assign_Name_used _ _ _ _ C5];refine δ (gs (δ ?_));show ξ _ X.A (do let _ ←comprehension (.ListComp elt [⟨tg,iter,ifs,0⟩] scope pos) scope X.env _ (newList []) false (eval iter X.env) (some (assign (.Name y py) X.env))) _ _ s;refine δ (cb (pN (use:=some (assign (.Name y py) X.env)) (Q:=fun _ s'=>SP X pins D .next s') rfl hs (Ln (C.cells I.ok)) C.kind C.names
  (bJ (hi pins s σ H _ I h) fun xv s₁ h₁=>bJ h₁ fun itv s₂ h₂=>?_)) (fun _ s' hq=>μ (μ hq)) fun _ _ e=>e)
 obtain⟨it,fp,tn,J,H2,e,I2,T,st2,f2,rd⟩:=h₂;subst e;refine Lj (RR:=fun acc C'=>compPost (model X.prog X.w) X.A X.xe (some (assign (.Name y py) X.env)) (fun _ s'=>SP X pins D .next s') acc C') hc C hb I2 T st2 f2 rd fun L N s' H' I' q hN' hHN ⟨m,hm⟩=>?_
 show ξ _ _ (assign (.Name y py) X.env (.ref L)) _ _ _;refine wpAny_assign_Name (EY I' hN hy (.inl hyl) (v:=.ref L) rfl (fun s'' I'' ⟨a,sb,ha⟩=>?_) (.inr hyl));have hNa:N≠a:=by
  obtain⟨f0,f1,f2,f3,f4,f5⟩:=I2.qR hN' hHN;rcases ha with rfl|ha
  ·exact f1
  ·exact di (f4 _ _ ha)
 refine⟨m,hm.sameBut sb hNa,fun h'' sb''=>?_⟩;refine⟨σ.set i (some (.ref L)),H',?_,q⟩;obtain⟨f0,f1,f2,f3,f4,f5⟩:=I2.qR hN' hHN;exact I''.turned (t':=s''.toks) (fun c o hc e=>(sb''.2 c hc).trans e) f0 f1 f3 f4 f5
end
end L2
namespace L3
open PySem PySem.Spec PyProof.Rows L2
section
variable {X:Cx} {st:aQ} {rest:List aQ} {t u:az} {e c:ρ} {te:aU} {tc:cN} {pos:aO}
def fJ:az:=fun D τ G=>D.nx τ G
def bH(t u:az):az:=fun D τ G=>t { D with nx:=u D } τ G
theorem UY:jZ X [] fJ:=Lp WY fun D σ H ⟨τ,G,D3,RS,RG,h,k⟩=>k.nx τ σ G H RS (.refl H G) RG h
theorem UX(h1:nC X st t)(h2:jZ X rest u):jZ X (st::rest) (bH t u):=Lp (WX h1 h2) fun D σ H ⟨τ,G,D3,RS,RG,h,k⟩=>
 ⟨τ,G,{ D3 with nx:=u D3 },RS,RG,h,⟨fun τ' σ' G' H' a b c q=>⟨τ',G',D3,a,c,q,k.step b⟩,k.bk,k.ct,k.rt⟩⟩
theorem UW(h1:nC X st t):jZ X [st] t:=WW h1
def rT(te:aU):az:=fun D τ G=>te τ G fun _ G1=>D.nx τ G1
theorem UU(he:bT X e te)(hs:swapsWith e none pos.line X.env=pure false:=by rfl):nC X (.Expr e pos) (rT te):=mI (WV he hs) fun D σ H ⟨τ,G,D3,RS,RG,h,k⟩=>
 ⟨τ,G,_,RS,RG,h,fun v H1 d G1 h1 S1 R1 q1=>k.nx τ σ G1 H1 (RS.ext (S1.ext RG)) S1 R1 q1⟩
def cz(te:aU):az:=fun D τ G=>te τ G D.rt
theorem Vv(he:bT X e te):nC X (.Return (some e) pos) (cz te):=mI (WU he) fun D σ H ⟨τ,G,D3,RS,RG,h,k⟩=>
 ⟨τ,G,D3.rt,RS,RG,h,fun v H1 d G1 h1 S1 R1 q1=>k.rt d v G1 H1 h1 S1 R1 q1⟩
def kA(c:cN)(t u:az):az:=fun D τ G=>c τ G fun b G1=>Br b (t D τ G1) (u D τ G1)
theorem Od{a b:List aQ}(hc:qu X c tc)(ha:jZ X a t)(hb:jZ X b u):nC X (.If c a b pos) (kA tc t u):=mI (Wx hc ha hb) fun D σ H ⟨τ,G,D3,RS,RG,h,k⟩=>
 ⟨τ,G,_,RS,RG,h,fun b H1 G1 S1 R1 q1=>Br.ite q1 (fun q=>⟨τ,G1,D3,RS.ext (S1.ext RG),R1,q,k.step S1⟩) fun q=>⟨τ,G1,D3,RS.ext (S1.ext RG),R1,q,k.step S1⟩⟩
end
abbrev iu:=D->S3->Gp->(S3->Gp->Prop)->Prop
abbrev mP:=List D->S3->Gp->(S3->Gp->Prop)->Prop
def lowG(K:θ)(t:iu):TG:=fun v σ H Q=>∃d τ G Q3,Hv K H d v/\dB K τ σ H/\aJ K G H/\t d τ G Q3/\∀τ' σ' G' H',dB K τ' σ' H'->Step H G H' G'->aJ K G' H'->Q3 τ' G'->Q σ' H'
def Nr(K:θ)(t:mP):vg:=fun vs σ H Q=>∃ds τ G Q3,aF K H ds vs/\dB K τ σ H/\aJ K G H/\t ds τ G Q3/\∀τ' σ' G' H',dB K τ' σ' H'->Step H G H' G'->aJ K G' H'->Q3 τ' G'->Q σ' H'
abbrev uq(X:Cx)(tg:ρ)(t:iu):Prop:=PG X tg (lowG X.K t)
abbrev xJ(X:Cx)(tgs:List ρ)(t:mP):Prop:=xV X tgs (Nr X.K t)
section
variable {X:Cx} {pos:aO} {e:ρ} {es:List ρ}
theorem A8{t t':TG}(h:PG X e t)(f:∀v σ H Q,t' v σ H Q->t v σ H Q):PG X e t':=fun pins s σ H v u Q I r q=>h pins s σ H v u Q I r (f v σ H Q q)
theorem Li{t t':vg}(h:xV X es t)(f:∀v σ H Q,t' v σ H Q->t v σ H Q):xV X es t':=fun pins s σ H v u Q I r q=>h pins s σ H v u Q I r (f v σ H Q q)
def hName(i:Nat):iu:=fun d τ G Q=>Q (jQ τ i d) G
theorem Vu{i:Nat}{x:ν}(hN:X.N.Nodup)(hi:X.N[i]?=some x:=by rfl)(hx:Loc X.env.scope x:=by first|exact pS rfl|exact nF rfl)(hf:X.fn x=true∨X.env.scope.names.lookup x=some .local:=by first|exact .inl rfl|exact .inr rfl|assumption):uq X (.Name x pos) (hName i):=
 A8 (Ww hN hi hx hf) fun v σ H Q ⟨d,τ,G,Q3,hd,RS,RG,h,k⟩=>k _ _ G H (RS.set hd) (.refl H G) RG h
def uf:mP:=fun ds τ G Q=>match ds with
 |[]=>Q τ G
 |_::_=>False
def jH(t:iu)(u:mP):mP:=fun ds τ G Q=>match ds with
 |[]=>False
 |d::r=>t d τ G fun τ' G'=>u r τ' G' Q
theorem Vt:xJ X [] uf:=Li Wv fun vs σ H Q ⟨ds,τ,G,Q3,hd,RS,RG,h,k⟩=>by
 cases ds with
 |nil=>exact⟨hd.hZ,k _ _ G H RS (.refl H G) RG h⟩
 |cons d r=>exact h.elim
theorem Vs{t:iu}{u:mP}(h1:uq X e t)(h2:xJ X es u)(hs:(assignEach (e::es) X.env).map (·.2)=assign e X.env::(assignEach es X.env).map (·.2):=by rfl):xJ X (e::es) (jH t u):=
 Li (Wu h1 h2 hs) fun vs σ H Q ⟨ds,τ,G,Q3,hd,RS,RG,h,k⟩=>by
  cases ds with
  |nil=>exact h.elim
  |cons d r=>
   obtain⟨v,vr,rfl,q1,q2⟩:=hd.inv;refine⟨v,vr,rfl,d,τ,G,_,q1,RS,RG,h,fun τ' σ' G' H' a b c q=>?_⟩;exact⟨r,τ',G',Q3,q2.ext (b.ext RG),a,c,q,fun τ2 σ2 G2 H2 a2 b2 c2=>k τ2 σ2 G2 H2 a2 (b.trans b2) c2⟩
def qQ(n:Nat)(t:mP):iu:=fun d τ G Q=>match d with
 |.tup ds=>ds.length=n/\t ds τ G Q
 |_=>False
theorem Vr{k:Nat}{t:mP}{n:Nat}(hc:X.calm=true)(h:xJ X es t)(hn:(assignEach es X.env).length=n:=by rfl)(hst:(assignEach es X.env).findIdx? (·.1)=none:=by rfl):uq X (.Tuple es k pos) (qQ n t):=
 A8 (Wt hc h hn hst) fun v σ H Q ⟨d,τ,G,Q3,hd,RS,RG,h,k⟩=>by
  cases d with
  |tup ds=>
   unfold Hv at hd;obtain⟨a,vs,e1,e2,e3⟩:=hd;exact⟨a,vs,e1,e2,by rw[←e3.length];exact h.1,ds,τ,G,Q3,e3,RS,RG,h.2,k⟩
  |_=>exact h.elim
def ck(te:aU)(g:iu):az:=fun D τ G=>te τ G fun x G1=>g x τ G1 D.nx
theorem Vq{tg:ρ}{te:aU}{g:iu}(he:bT X e te)(hg:uq X tg g)(hs:swapsWithSole [tg] e pos.line X.env=pure false:=by rfl)(hw:swappedStores [tg] e X.env=pure none:=by rfl)
  (h1:(assignEach [tg] X.env).map (·.2)=[assign tg X.env]:=by rfl):nC X (.Assign [tg] e pos) (ck te g):=mI (Wr he hg hs hw h1) fun D σ H ⟨τ,G,D3,RS,RG,h,k⟩=>
 ⟨τ,G,_,RS,RG,h,fun v H1 d G1 h1 S1 R1 q1=>⟨d,τ,G1,D3.nx,h1,RS.ext (S1.ext RG),R1,q1,fun τ' σ' G' H' a b c q=>k.nx τ' σ' G' H' a (S1.trans b) c q⟩⟩
theorem Vp{i:Nat}{x:ν}{te:aU}{pos':aO}(hN:X.N.Nodup)(he:bT X e te)(hi:X.N[i]?=some x:=by rfl)(hx:Loc X.env.scope x:=by first|exact pS rfl|exact nF rfl)(hs:swapsWith e (some (.Name x pos')) pos.line X.env=pure false:=by rfl)
  (hf:X.fn x=true∨X.env.scope.names.lookup x=some .local:=by first|exact .inl rfl|exact .inr rfl|assumption):nC X (.Assign [.Name x pos'] e pos) (ck te (hName i)):=mI (Wq hN hi hx he hs hf) fun D σ H ⟨τ,G,D3,RS,RG,h,k⟩=>
 ⟨τ,G,_,RS,RG,h,fun v H1 d G1 h1 S1 R1 q1=>k.nx _ _ G1 H1 ((RS.ext (S1.ext RG)).set h1) S1 R1 q1⟩
def Aj(i j:Nat)(ta:cM):az:=fun D τ G=>ta τ G fun ds G1=>match ds with
 |[a,b]=>D.nx (jQ (jQ τ i a) j b) G1
 |_=>False
theorem Lh{i j:Nat}{st:aQ}{ta:cM}(h:PS X st (Dl i j (vW X.K ta))):nC X st (Aj i j ta):=mI h fun D σ H ⟨τ,G,D3,RS,RG,h,k⟩=>
 ⟨τ,G,_,RS,RG,h,fun vs H1 ds G1 h1 S1 R1 q1=>by
  match ds,h1,q1 with
  |[a,b],h1,q1=>
   obtain⟨v,r,rfl,z1,z2⟩:=h1.inv;obtain⟨w,r2,rfl,z3,z4⟩:=z2.inv;cases z4.hZ;exact⟨v,w,rfl,k.nx _ _ G1 H1 (((RS.ext (S1.ext RG)).set z1).set z3) S1 R1 q1⟩
  |[],_,q1=>exact q1.elim
  |[_],_,q1=>exact q1.elim
  |_::_::_::_,_,q1=>exact q1.elim⟩
def Am(i:Nat)(te:aU)(r:R3):az:=fun D τ G=>match iI τ i with
 |some x=>te τ G fun y G1=>r x y G1 fun z G2=>D.nx (jQ τ i z) G2
 |none=>False
theorem Vo{i:Nat}{x:ν}{te:aU}{op:lp}{r:R3}{r2:xR}{pos':aO}(L:fR X.K r r2)(hN:X.N.Nodup)(he:bT X e te)(ho:De X op r2)(hi:X.N[i]?=some x:=by rfl)(hx:Loc X.env.scope x:=by first|exact pS rfl|exact nF rfl)(hf:X.fn x=true∨X.env.scope.names.lookup x=some .local:=by first|exact .inl rfl|exact .inr rfl|assumption):
  nC X (.AugAssign (.Name x pos') op e pos) (Am i te r):=mI (Wo hN hi hx he ho hf) fun D σ H ⟨τ,G,D3,RS,RG,h,k⟩=>by
 unfold Am at h;cases hd:iI τ i with
 |none=>rw[hd] at h;exact h.elim
 |some d=>
  rw[hd] at h;obtain⟨v,e1,e2⟩:=RS.at_ i d hd;refine⟨v,e1,τ,G,_,RS,RG,h,fun v1 H1 d1 G1 h1 S1 R1 q1=>?_⟩;refine L _ _ _ _ _ _ _ _ (e2.ext (S1.ext RG)) h1 R1 q1 fun v2 H2 d2 G2 z1 z2 z3 z4=>?_;exact k.nx _ _ G2 H2 (((RS.ext (S1.ext RG)).ext (z2.ext R1)).set z1) (S1.trans z2) z3 z4
def Ao:D->D->D->Gp->(Gp->Prop)->Prop:=fun o i v G Q=>match o,i with
 |.obj p,.int k=>∃ds j,G p=some (.lst ds)/\ud ds.length k=some j/\Q (dG G p (.lst (ds.set j v)))
 |_,_=>False
def hSub(to ti:aU):iu:=fun v τ G Q=>to τ G fun o G1=>ti τ G1 fun i G2=>Ao o i v G2 fun G3=>Q τ G3
theorem Lg{K:θ}{o i v:D}{vo vi vv:V}{G:Gp}{H:Hp}{Q3:Gp->Prop}{Q:Hp->Prop}(ho:Hv K H o vo)(hi:Hv K H i vi)(hv:Hv K H v vv)(RG:aJ K G H)(h:Ao o i v G Q3)
  (k:∀H' G',Step H G H' G'->aJ K G' H'->Q3 G'->Q H'):Gc vo vi vv H Q:=by
 match o,i,ho,hi,h with
 |.obj p,.int j,ho,hi,h=>
  unfold Hv at ho hi;obtain⟨ds,n,e1,e2,q⟩:=h;obtain⟨vs,e3,e4⟩:=RG p _ e1;refine⟨p,vs,j,n,ho,hi,e3,by rw[←e4.length];exact e2,k _ _ (Step.wrote (g:=.lst (ds.set n v)) e1) (RG.wrote e3 ⟨_,iO,?_⟩) q⟩;exact (e4.ext (Ext.wrote e3)).set n (hv.ext (Ext.wrote e3))
 |.obj _,.aC,_,_,h=>exact h.elim
 |.obj _,.bl _,_,_,h=>exact h.elim
 |.obj _,.str _,_,_,h=>exact h.elim
 |.obj _,.tup _,_,_,h=>exact h.elim
 |.obj _,.dW _,_,_,h=>exact h.elim
 |.obj _,.obj _,_,_,h=>exact h.elim
 |.obj _,.dc _,_,_,h=>exact h.elim
 |.dc _,_,_,_,h=>exact h.elim
 |.aC,_,_,_,h=>exact h.elim
 |.bl _,_,_,_,h=>exact h.elim
 |.int _,_,_,_,h=>exact h.elim
 |.str _,_,_,_,h=>exact h.elim
 |.tup _,_,_,_,h=>exact h.elim
 |.dW _,_,_,_,h=>exact h.elim
theorem Vn{o i:ρ}{to ti:aU}(ho:bT X o to)(hi:bT X i ti)
  (ha:∀v,assign (.Subscript o i pos) X.env v=(do
   let ov ←holding [v] (eval o X.env)
   let iv ←holding [v,ov] (eval i X.env)
   standAt pos
   holding [v,ov,iv] (setItem ov iv v)
   release [v,ov,iv] []):=by intro _;rfl):uq X (.Subscript o i pos) (hSub to ti):=A8 (Ws ho hi set_list ha) fun v σ H Q ⟨d,τ,G,Q3,hd,RS,RG,h,k⟩=>
 ⟨τ,G,_,RS,RG,h,fun v1 H1 d1 G1 h1 S1 R1 q1=>⟨τ,G1,_,RS.ext (S1.ext RG),R1,q1,fun v2 H2 d2 G2 h2 S2 R2 q2=>
  Lg (h1.ext (S2.ext R1)) h2 ((hd.ext (S1.ext RG)).ext (S2.ext R1)) R2 q2 fun H' G' y1 y2 y3=>k _ _ G' H' (((RS.ext (S1.ext RG)).ext (S2.ext R1)).ext (y1.ext R2)) ((S1.trans S2).trans y1) y2 y3⟩⟩
def Al(to ti te:aU)(f:Int->Int->Int):az:=fun D τ G=>to τ G fun o G1=>ti τ G1 fun i G2=>match o,i with
 |.obj p,.int k=>∃ds x,G2 p=some (.lst ds)/\kF ds k=some (.int x)/\te τ G2 fun y G3=>match y with
  |.int y=>Ao o i (.int (f x y)) G3 fun G4=>D.nx τ G4
  |_=>False
 |_,_=>False
def wy(c:cN)(tb:az):az:=fun D τ G=>∃W:Nat->S3->Gp->Prop,(∃m,W m τ G)/\∀m τ G,W m τ G ->
 c τ G fun b G1=>Br b (tb { D with nx:=fun τ' G'=>∃m',m' < m/\W m' τ' G',ct:=fun τ' G'=>∃m',m' < m/\W m' τ' G',bk:=D.nx } τ G1) (D.nx τ G1)
theorem Vm{c:ρ}{body:List aQ}{tc:cN}{tb:az}(hp:g9 (model X.prog X.w) X.A X.env X.xe)(hc:qu X c tc)(hb:jZ X body tb):nC X (.While c body [] pos) (wy tc tb):=
 mI (Wm hp hc hb) fun D σ H ⟨τ,G,D3,RS,RG,⟨W,⟨m0,w0⟩,turn⟩,k⟩=>by
  refine⟨fun m σ' H'=>∃τ' G',W m τ' G'/\dB X.K τ' σ' H'/\aJ X.K G' H'/\Step H G H' G',⟨m0,τ,G,w0,RS,RG,.refl H G⟩,fun m σ1 H1 ⟨τ1,G1,w1,RS1,RG1,S1⟩=>?_⟩;refine⟨τ1,G1,_,RS1,RG1,turn m τ1 G1 w1,fun b H2 G2 S2 R2 q2=>Br.ite q2 (fun q=>?_) fun q=>k.nx _ _ G2 H2 (RS1.ext (S2.ext RG1)) (S1.trans S2) R2 q⟩;refine⟨fun σ' H'=>∃τ' G',(∃m',m' < m/\W m' τ' G')/\dB X.K τ' σ' H'/\aJ X.K G' H'/\Step H G H' G',fun σ' H' ⟨τ',G',⟨m',hm,w'⟩,a,b,c⟩=>⟨m',hm,τ',G',w',a,b,c⟩,?_⟩;refine⟨τ1,G2,_,RS1.ext (S2.ext RG1),R2,q,⟨?_,?_,?_,?_⟩⟩
  ·exact fun τ' σ' G' H' a b c q=>⟨τ',G',q,a,c,(S1.trans S2).trans b⟩
  ·exact fun τ' σ' G' H' a b c q=>k.nx τ' σ' G' H' a ((S1.trans S2).trans b) c q
  ·exact fun τ' σ' G' H' a b c q=>⟨τ',G',q,a,c,(S1.trans S2).trans b⟩
  ·exact fun d v G' H' a b c q=>k.rt d v G' H' a ((S1.trans S2).trans b) c q
end
abbrev dJ:=List D->Gp->V3->Prop
def kW(K:θ)(sp:dJ):Sp:=fun vs H Q _=>∃ds G Q3,aF K H ds vs/\aJ K G H/\sp ds G Q3/\∀v H' d G',Hv K H' d v->Step H G H' G'->aJ K G' H'->Q3 d G'->Q v H'
abbrev dS(P:Ω)(w:ah)(K:θ)(mg:ν->Option ε)(base:Ψ)(k:Nat)(f:ζ)(fd:ag)(ps:List ν)(sp:dJ):Prop:=jx P w K mg base oA k f fd ps (kW K sp)
def bA(sp:dJ)(t:cM):aU:=fun τ G Q=>t τ G fun ds G1=>sp ds G1 Q
section
variable {X:Cx} {k:Nat} {f:ζ} {fd:ag} {ps:List ν} {sp:dJ} {x:ν} {p pos:aO} {e:ρ} {es:List ρ} {t:cM}
theorem EN{K:θ}{σ:L2.St}{H:Hp}{Q:VK}{E:XK}(h:low K (bA sp t) σ H Q):xZ (kW K sp) [] E (vW K t) σ H Q:=by
 obtain⟨τ,G,Q3,RS,RG,h,k⟩:=h;refine⟨τ,G,_,RS,RG,h,fun vs H1 ds G1 h1 S1 R1 q1=>?_⟩;refine⟨ds,G1,Q3,by rw[bh];exact h1,R1,q1,fun v H' d G' z1 z2 z3 z4=>k v H' d G' z1 (S1.trans z2) z3 z4⟩
theorem UJ(F:dS X.prog X.w X.K X.mg X.base k f fd ps sp)(hr:dH k X.A)(hm:X.mg x=some (.ref f))(hk:bD X.K (.ref f)=true)(hb:Binds X.K fd ps [])(ha:jc X (e::es) t)(hg:Gl X x:=by rfl)
  (hdb:(x==("__debug__":ν))=false:=by decide) (he:notStar e=true:=by rfl) (hpl:es.all notStar=true:=by rfl):
  bT X (.Call (.Name x p) (e::es) [] pos) (bA sp t):=jS (VW (E:=E0) F hr hg hm hk hb .nil M8 ha hdb (eB he) (kD hpl)) fun σ H Q h=>EN h
end
section
variable {P:Ω} {w:ah} {K:θ} {mg:ν->Option ε} {base:Ψ}
def bf(Q:V3):ng:={ nx:=fun _ G'=>∃G0,Sub G0 G'/\Q .aC G0,rt:=fun d G'=>∃G0,Sub G0 G'/\Q d G0 }
theorem fn3{x qual:ν}{st:aQ}{f:ζ}{fd:ag}{N ps:List ν}{k:Nat}{sp:dJ}(F:dQ K x qual st f fd)(S:bz N ps (ω st))(hN:ps.length≤N.length)(len:∀ds G Q,sp ds G Q->ds.length=ps.length)(tb:az)
  (fk:∀(cdv:ε) (A:aE) (outer:List cK) (s:η) (H:Hp) (E:XK),dH k (A.deeper (envOfC qual (ω st) s.heap.objs.size f cdv)) ->
   jZ (ia oA P w K mg base N qual (ω st) f cdv A outer s H E).lB (eE st) tb)
  (oq:∀ds G Q,sp ds G Q->tb (bf Q) (bc N ds) G):dS P w K mg base (k+1) f fd ps sp:=by
 refine F.ok S (fun vs H Q E h=>?_) (fun cdv A outer s H vs Q E hr h=>?_)
 ·obtain⟨ds,G,Q3,h1,h2,h3,h4⟩:=h;rw[←h1.length];exact len _ _ _ h3
 ·obtain⟨ds,G,Q3,h1,h2,h3,h4⟩:=h;refine⟨_,fk cdv A outer s H E hr,bc N ds,G,bf Q3,.start h1 ?_,h2,oq _ _ _ h3,⟨?_,?_,?_,?_⟩⟩
  ·rw[←h1.length,len _ _ _ h3];exact hN
  ·exact fun τ σ G' H' a b c ⟨G0,s0,q⟩=>h4 _ H' .aC G0 (by simp[Hv]) (b.trans (.sub s0)) (c.sub s0) q
  ·exact fun τ σ G' H' a b c q=>q.elim
  ·exact fun τ σ G' H' a b c q=>q.elim
  ·exact fun d v G' H' a b c ⟨G0,s0,q⟩=>h4 _ H' d G0 a (b.trans (.sub s0)) (c.sub s0) q
end
end L3
namespace L3
open PySem PySem.Spec PyProof.Rows L2
structure Src where
 items:List D
 guard:Gp->Prop
structure yk(K:θ)(H0:Hp)(J:It)(S:Src):Prop where
 go:∀(i:Nat) d H G,Ext H0 H->aJ K G H->S.guard G->S.items[i]?=some d->J.go i H/\∀x H',J.CI i H x H'->Hv K H' d x/\Step H G H' G/\aJ K G H'
 stop:∀(i:Nat) H G,Ext H0 H->aJ K G H->S.guard G->S.items.length≤i->J.stop i H
abbrev nA:=S3->Gp->(Src->Gp->Prop)->Prop
def Mr(K:θ)(ti:nA):TI:=fun σ H R=>∃τ G R3,dB K τ σ H/\aJ K G H/\ti τ G R3/\∀J H' S G',yk K H' J S->Step H G H' G'->aJ K G' H'->R3 S G'->R J H'
abbrev wK(X:Cx)(tg iter:ρ)(ti:nA):Prop:=PI X tg iter (Mr X.K ti)
section
variable {X:Cx} {tg iter:ρ} {pos p:aO}
theorem A7{t t':TI}(h:PI X tg iter t)(f:∀σ H R,t' σ H R->t σ H R):PI X tg iter t':=fun pins s σ H R I q=>h pins s σ H R I (f σ H R q)
def iW(te:aU):nA:=fun τ G R=>te τ G fun x G1=>match x with
 |.obj p=>∃ds,G1 p=some (.lst ds)/\R ⟨ds,fun G=>G p=some (.lst ds)⟩ G1
 |.tup ds=>R ⟨ds,fun _=>True⟩ G1
 |.dW ds=>R ⟨ds,fun _=>True⟩ G1
 |_=>False
theorem UI{l:ρ}{te:aU}(hl:bT X l te):wK X tg l (iW te):=by
 intro pins s σ H R I h;obtain⟨τ,G,R3,RS,RG,h,k⟩:=h
 -- the state carries what a list of the heap is
 refine bJ (hl pins s σ H (fun v H'=>∃d G',Hv X.K H' d v/\Step H G H' G'/\aJ X.K G' H'/\(match d with
  |.obj p=>∃ds,G' p=some (.lst ds)/\R3 ⟨ds,fun G=>G p=some (.lst ds)⟩ G'
  |.tup ds=>R3 ⟨ds,fun _=>True⟩ G'
  |.dW ds=>R3 ⟨ds,fun _=>True⟩ G'
  | _=>False)) I ⟨τ,G,_,RS,RG,h,fun v H' d G' a b c q=>⟨d,G',a,b,c,q⟩⟩) fun v s1 ⟨x,H1,I1,r1,d,G1,hv,S1,R1,q⟩=>?_
 have hlist:∀(a:ζ) (its:List ε) (xs:List V),bp xs its->PlainL s1.heap a its.toArray->R (N0 X.K a) H1->ξ (model X.prog X.w) X.A (pyIter (.ref a)) (GR X pins σ tg R) X.xe s1:=by
  intro a its xs rv p q;refine fy p.isList ?_;refine⟨s1.heap.objs.size,[s1.heap.objs.size],_,_,H1,rfl,I1.kept (t':=s1.toks) fun b o e=>ι _ e,Wl a _,⟨_,af _ rfl,rfl,rfl⟩,fun b hb=>?_,q⟩;have e:b=s1.heap.objs.size:=by simpa using hb
  subst e;exact I1.qR (Θ _) (I1.bF.fresh (Θ _))
 cases d with
 |obj a=>
  unfold Hv at hv;subst hv;cases r1;obtain⟨ds,e1,q⟩:=q;obtain⟨vs,e2,e3⟩:=R1 a _ e1;obtain⟨its,rv,p,hz⟩:=I1.list (fM.of e2);refine hlist a its vs rv p (k _ _ _ _ ⟨?_,?_⟩ S1 R1 q)
  ·intro i d H' G' E' RG' hg hi;obtain⟨vs',z1,z2⟩:=RG' a _ hg;obtain⟨v',y1,y2⟩:=z2.get hi;refine⟨⟨vs',v',.of z1,y1⟩,fun x H'' hy=>?_⟩;obtain⟨rfl,hy⟩:=hy;have:=hy vs' (.of z1);rw[y1] at this;cases this;exact⟨y2,.refl _ _,RG'⟩
  ·intro i H' G' E' RG' hg hi;obtain⟨vs',z1,z2⟩:=RG' a _ hg;exact⟨vs',.of z1,by rw[←z2.length];exact hi⟩
 |tup ds=>
  unfold Hv at hv;obtain⟨a,vs,rfl,e2,e3⟩:=hv;cases r1;obtain⟨its,rv,p,hz⟩:=I1.tuple e2;have hq:R (Di X.K a) H1:=by
   refine k _ _ _ _ ⟨?_,?_⟩ S1 R1 q
   ·intro i d H' G' E' RG' hg hi;obtain⟨v',y1,y2⟩:=e3.get hi;refine⟨⟨vs,v',cC.ext E' e2,y1⟩,fun x H'' hy=>?_⟩;obtain⟨rfl,hy⟩:=hy;have:=hy vs (cC.ext E' e2);rw[y1] at this;cases this;exact⟨y2.ext E',.refl _ _,RG'⟩
   ·intro i H' G' E' RG' hg hi;exact⟨vs,cC.ext E' e2,by rw[←e3.length];exact hi⟩
  refine dq (show s1.heap.IsTuple a its.toArray from p) ?_;refine⟨s1.heap.objs.size,[s1.heap.objs.size],_,_,H1,rfl,I1.kept (t':=s1.toks) fun b o e=>ι _ e,Wk a _,⟨_,af _ rfl,rfl,rfl⟩,fun b hb=>?_,hq⟩;have e:b=s1.heap.objs.size:=by simpa using hb
  subst e;exact I1.qR (Θ _) (I1.bF.fresh (Θ _))
 |dW ds=>
  unfold Hv at hv;obtain⟨a,vs,rfl,e2,e3⟩:=hv;cases r1;obtain⟨its,rv,p,hz⟩:=I1.list e2.l;refine hlist a its vs rv p (k _ _ _ _ ⟨?_,?_⟩ S1 R1 q)
  ·intro i d H' G' E' RG' hg hi;obtain⟨v',y1,y2⟩:=e3.get hi;refine⟨⟨vs,v',(lD.ext E' e2).l,y1⟩,fun x H'' hy=>?_⟩;obtain⟨rfl,hy⟩:=hy;have:=hy vs (lD.ext E' e2).l;rw[y1] at this;cases this;exact⟨y2.ext E',.refl _ _,RG'⟩
  ·intro i H' G' E' RG' hg hi;exact⟨vs,(lD.ext E' e2).l,by rw[←e3.length];exact hi⟩
 |aC=>exact q.elim
 |bl _=>exact q.elim
 |int _=>exact q.elim
 |str _=>exact q.elim
 |dc _=>exact q.elim
def iF(lo:Int)(n:Nat):List D:=(ao n).map fun i:Nat=>.int (lo+(i:Int))
theorem Lf{lo:Int}{n i:Nat}{d:D}(h:(iF lo n)[i]?=some d):i<n/\d=.int (lo+(i:Int)):=by
 unfold iF at h;rw[aI] at h;by_cases hi:i<n
 ·rw[gW hi] at h;simp at h;exact⟨hi,h.symm⟩
 ·rw[da.mpr (by simpa using hi)] at h;cases h
theorem vN(lo:Int)(n:Nat):(iF lo n).length=n:=by simp[iF]
theorem UH{K:θ}{H:Hp}(lo:Int)(n:Nat):yk K H (GS lo n) ⟨iF lo n,fun _=>True⟩:=⟨by
 intro i d H' G' _ RG _ hi;obtain⟨h1,h2⟩:=Lf hi;refine⟨h1,fun x H'' hy=>?_⟩;obtain⟨rfl,rfl⟩:=hy;exact⟨by rw[h2];simp[Hv],.refl _ _,RG⟩,by
 intro i H' G' _ RG _ hi;rw[vN] at hi;exact hi⟩
def iX(ta:cM):nA:=fun τ G R=>ta τ G fun ds G1=>match ds with
 |[.int j]=>(-(2^62)≤j/\j<2^62)/\R ⟨iF 0 j.toNat,fun _=>True⟩ G1
 |_=>False
theorem UG{a:ρ}{ta:cM}(hm:X.mg "range" = none)(ha:jc X [a] ta)(hg:Gl X "range":=by rfl)(hs:notStar a=true:=by rfl):wK X tg (.Call (.Name "range" p) [a] [] pos) (iX ta):=
 A7 (Wh hg hm ha (eB hs)) fun σ H R ⟨τ,G,R3,RS,RG,h,k⟩=>⟨τ,G,_,RS,RG,h,fun vs H1 ds G1 h1 S1 R1 q1=>by
  rcases ds with _|⟨d,_|⟨d2,ds⟩⟩
  ·exact q1.elim
  ·cases d with
   |int j=>
    obtain⟨v,r,rfl,z1,z2⟩:=h1.inv;cases z2.hZ;unfold Hv at z1;exact⟨j,by rw[z1],q1.1.1,q1.1.2,k _ _ _ _ (UH 0 _) S1 R1 q1.2⟩
   |_=>exact q1.elim
  ·cases d<;>exact q1.elim⟩
def iY(guard:Gp->Prop)(g:iu)(tb:az)(D3:ng):List D->S3->Gp->Prop
 |[],τ,G=>guard G/\D3.nx τ G
 |d::ds,τ,G=>guard G/\g d τ G fun τ2 G2=>tb { D3 with nx:=iY guard g tb D3 ds,ct:=iY guard g tb D3 ds,bk:=D3.nx } τ2 G2
def hX(ti:nA)(g:iu)(tb:az):az:=fun D3 τ G=>ti τ G fun S G1=>iY S.guard g tb D3 S.items τ G1
theorem UE{body:List aQ}{ti:nA}{g:iu}{tb:az}(hp:g9 (model X.prog X.w) X.A X.env X.xe)(hc:X.calm=true)(hi:wK X tg iter ti)(hg:uq X tg g)(hb:jZ X body tb)
  (hs:∀x,foldedSetIterable iter X.env x=pure x:=by intro _;rfl):nC X (.For tg iter body [] pos) (hX ti g tb):=mI (Wf hp hc hi hg hb hs) fun D2 σ H ⟨τ,G,D3,RS,RG,h,k⟩=>by
 refine⟨τ,G,_,RS,RG,h,fun J H1 S G1 ok S1 R1 q1=>?_⟩;refine⟨fun i m σ' H'=>∃τ' G',dB X.K τ' σ' H'/\aJ X.K G' H'/\Step H G H' G'/\Ext H1 H'/\iY S.guard g tb D3 (S.items.drop i) τ' G'/\m+i=S.items.length,⟨S.items.length,τ,G1,RS.ext (S1.ext RG),R1,S1,.refl H1,by simpa using q1,by lia⟩,?_⟩;rintro i m σ' H' ⟨τ',G',RS',RG',S',E',q,hm⟩;by_cases hlt:i<S.items.length
 ·have hd:S.items.drop i=S.items[i]::S.items.drop (i+1):=jJ hlt;have hget:S.items[i]?=some S.items[i]:=aB hlt;rw[hd] at q;obtain⟨hgd,q⟩:=q;obtain⟨z1,z2⟩:=ok.go i _ H' G' E' RG' hgd hget;refine .inr ⟨z1,fun σ2 H2=>∃τ2 G2,dB X.K τ2 σ2 H2/\aJ X.K G2 H2/\Step H G H2 G2/\Ext H1 H2/\iY S.guard g tb D3 (S.items.drop (i+1)) τ2 G2,fun σ2 H2 ⟨τ2,G2,a1,a2,a3,a4,a5⟩=>⟨m-1,by lia,τ2,G2,a1,a2,a3,a4,a5,by lia⟩,fun x H2 hy=>?_⟩;obtain⟨y1,y2,y3⟩:=z2 x H2 hy;refine⟨S.items[i],τ',G',_,y1,RS'.ext (y2.ext RG'),y3,q,fun τ3 σ3 G3 H3 b1 b2 b3 b4=>?_⟩;refine⟨τ3,G3,_,b1,b3,b4,⟨?_,?_,?_,?_⟩⟩
  ·exact fun τ4 σ4 G4 H4 c1 c2 c3 c4=>⟨τ4,G4,c1,c3,((S'.trans y2).trans b2).trans c2,((E'.trans (y2.ext RG')).trans (b2.ext y3)).trans (c2.ext b3),c4⟩
  ·exact fun τ4 σ4 G4 H4 c1 c2 c3 c4=>k.nx τ4 σ4 G4 H4 c1 (((S'.trans y2).trans b2).trans c2) c3 c4
  ·exact fun τ4 σ4 G4 H4 c1 c2 c3 c4=>⟨τ4,G4,c1,c3,((S'.trans y2).trans b2).trans c2,((E'.trans (y2.ext RG')).trans (b2.ext y3)).trans (c2.ext b3),c4⟩
  ·exact fun d v G4 H4 c1 c2 c3 c4=>k.rt d v G4 H4 c1 (((S'.trans y2).trans b2).trans c2) c3 c4
 ·have hd:S.items.drop i=[]:=ik (by lia);rw[hd] at q;exact .inl ⟨ok.stop i H' G' E' RG' q.1 (by lia),k.nx τ' σ' G' H' RS' S' RG' q.2⟩
def g6(guard:Gp->Prop)(g:iu)(tc:cN)(te:aU)(Q:List D->Gp->Prop):List D->List D->S3->Gp->Prop
 |[],acc,τ,G=>guard G/\Q acc G
 |d::ds,acc,τ,G=>guard G/\g d τ G fun τ2 G2=>tc τ2 G2 fun b G3=>Br b (te τ2 G3 fun v G4=>g6 guard g tc te Q ds (acc++[v]) τ2 G4) (g6 guard g tc te Q ds acc τ2 G3)
def zC(own:List ν)(js:List Nat)(τ:S3):S3:=(own.map fun _=>none)++js.map fun j=>iI τ j
def fX(own:List ν)(js:List Nat)(ti:nA)(g:iu)(tc:cN)(te:aU):aU:=fun τ G Q=>ti τ G fun S G1=>S.items.length≤au ∧
 g6 S.guard g tc te (fun ds G2=>∀p G3,eD G2 p (.lst ds) G3->Q (.obj p) G3) S.items [] (zC own js τ) G1
theorem Le:∀(τ:S3) (i:Nat),iI τ i=(τ[i]?).getD none
 |[],i=>by simp[iI]
 |x::r,0=>by simp[iI]
 |x::r,i+1=>by simp[iI,Le r i]
theorem dB.cmp{K:θ}{τ:S3}{σ:L2.St}{H:Hp}(own:List ν)(js:List Nat)(R:dB K τ σ H):dB K (zC own js τ) (uM own js σ) H:=⟨by simp[zC,uM],fun i d h=>by
 rw[Le] at h;unfold zC at h;by_cases hi:i<own.length
 ·rw[fi (by simpa using hi)] at h;rw[aI,aB hi] at h;cases h
 ·rw[eU (by simpa using hi),aI] at h;simp only[π] at h;cases hj:js[i-own.length]? with
  |none=>rw[hj] at h;cases h
  |some j=>
   rw[hj] at h;have h':iI τ j=some d:=h;obtain⟨v,e1,e2⟩:=R.at_ j d h';refine⟨v,?_,e2⟩;unfold uM;rw[eU (by simpa using hi),aI];simp only[lG,hj,Option.map_some,e1,Option.getD_some]⟩
def eI:cN:=fun _ G Q=>Q true G
theorem UD:vh X [] (sh X.K eI):=fun pins s σ H Q I ⟨τ,G,Q3,RS,RG,h,k⟩=>U3 pins s σ H Q I (k true H G (.refl H G) RG h)
theorem UC{c:ρ}{t:cN}(h:qu X c t):vh X [c] (sh X.K t):=U2 h
theorem LQ{K:θ}{own:List ν}{js:List Nat}{ti:nA}{g:iu}{tc:cN}{te:aU}{σ:L2.St}{H:Hp}{Q:VK}(h:low K (fX own js ti g tc te) σ H Q):HH own js (Mr K ti) (lowG K g) (sh K tc) (low K te) σ H Q:=by
 obtain⟨τ,G,Q3,RS,RG,h,k⟩:=h;refine⟨τ,G,_,RS,RG,h,fun J H1 S G1 ok S1 R1 q1=>?_⟩;obtain⟨hz,q1⟩:=q1;intro p hp;have hGp:G1 p=none:=R1.free hp;refine⟨fun i m ys σ' H'=>∃τ' G' acc,dB K τ' σ' H'/\aJ K G' H'/\Step H G H' G'/\Ext H1 H'/\H' p=some (.lst ys)/\G' p=none/\aF K H' acc ys ∧
  g6 S.guard g tc te (fun ds G2=>∀p G3,eD G2 p (.lst ds) G3->Q3 (.obj p) G3) (S.items.drop i) acc τ' G'/\m+i=S.items.length/\ys.length≤i,?_,?_⟩
 ·have E1:Ext H1 (upd H1 p (.lst [])):=.laid hp;exact⟨S.items.length,zC own js τ,G1,[],((RS.ext (S1.ext RG)).cmp own js).ext E1,R1.laid hp,S1.trans (.laid hp),E1,iO,hGp,.nil,by simpa using q1,by lia,ba _⟩
 rintro i m ys σ' H' ⟨τ',G',acc,RS',RG',S',E',hpl,hG',hacc,q,hm,hy⟩;refine⟨hpl,?_⟩;by_cases hlt:i<S.items.length
 ·have hd:S.items.drop i=S.items[i]::S.items.drop (i+1):=jJ hlt;have hget:S.items[i]?=some S.items[i]:=aB hlt;rw[hd] at q;obtain⟨hgd,q⟩:=q;obtain⟨z1,z2⟩:=ok.go i _ H' G' E' RG' hgd hget;refine .inr ⟨z1,by lia,fun x H2 hyl=>?_⟩;obtain⟨y1,y2,y3⟩:=z2 x H2 hyl
  -- what is not in G stays
  have keep:∀{Ha Hb:Hp} {Ga Gb:Gp},Step Ha Ga Hb Gb->Ha p=some (.lst ys)->Ga p=none->Hb p=some (.lst ys)/\Gb p=none:=fun {Ha Hb Ga Gb} st e n=>by
   refine⟨st.fr p _ e n,?_⟩;refine aK fun z=>?_;rw[st.new p n z] at e;cases e
  obtain⟨p2,n2⟩:=keep y2 hpl hG';refine⟨S.items[i],τ',G',_,y1,RS'.ext (y2.ext RG'),y3,q,fun τ3 σ3 G3 H3 b1 b2 b3 b4=>?_⟩;obtain⟨p3,n3⟩:=keep b2 p2 n2;refine⟨τ3,G3,_,b1,b3,b4,fun bb H4 G4 c1 c2 c3=>?_⟩;obtain⟨p4,n4⟩:=keep c1 p3 n3;have E4:Ext H' H4:=((y2.ext RG').trans (b2.ext y3)).trans (c1.ext b3);have S4:Step H G H4 G4:=((S'.trans y2).trans b2).trans c1;have RS4:=b1.ext (c1.ext b3);refine Br.ite c3 (fun c3=>?_) fun c3=>?_
  ·refine⟨τ3,G4,_,RS4,c2,c3,fun v H5 d G5 e1 e2 e3 e4=>?_⟩;obtain⟨p5,n5⟩:=keep e2 p4 n4;refine⟨p5,m-1,by lia,τ3,G5,acc++[d],?_,?_,?_,?_,iO,n5,?_,e4,by lia,by rw[aq];simp;lia⟩
   ·exact (RS4.ext (e2.ext c2)).ext (.wrote p5)
   ·intro a o e;have bZ:a≠p:=fun z=>by
     rw[z,n5] at e;cases e
    exact (e3 a o e).ext (.wrote p5) (dz bZ)
   ·refine⟨fun a o e n=>?_,fun a q=>?_,fun a n q=>((S4.trans e2).new a n q)⟩
    ·by_cases bZ:a=p
     ·exfalso;rw[bZ] at e n;have hh:=S1.fr p o e n;rw[hp] at hh;cases hh
     ·rw[dz bZ];exact (S4.trans e2).fr a o e n
    ·by_cases bZ:a=p
     ·rw[bZ,iO];simp
     ·rw[dz bZ];exact (S4.trans e2).nZ a q
   ·exact ((E'.trans E4).trans (e2.ext c2)).trans (.wrote p5)
   ·have E5:Ext H' (upd H5 p (.lst (ys++[v]))):=(E4.trans (e2.ext c2)).trans (.wrote p5);exact (hacc.ext E5).append (.cons (e1.ext (.wrote p5)) .nil)
  ·exact⟨m-1,by lia,τ3,G4,acc,RS4,c2,S4,E'.trans E4,p4,n4,hacc.ext E4,c3,by lia,by lia⟩
 ·have hd:S.items.drop i=[]:=ik (by lia);rw[hd] at q;refine .inl ⟨ok.stop i H' G' E' RG' q.1 (by lia),?_⟩;refine k _ H' (.obj p) (dG G' p (.lst acc)) (by simp[Hv]) ?_ ?_ (q.2 p _ (.mk' hG'))
  ·refine⟨S'.fr,S'.nZ,fun a n z=>?_⟩;by_cases bZ:a=p
   ·rw[bZ];cases hh:H p with
    |none=>rfl
    |some o=>
     exfalso;rw[bZ] at n;have:=S1.fr p o hh n;rw[hp] at this;cases this
   ·rw[mE bZ] at z;exact S'.new a n z
  ·intro a o e;by_cases bZ:a=p
   ·rw[bZ,jT] at e;cases e;rw[bZ];exact⟨ys,hpl,hacc⟩
   ·rw[mE bZ] at e;exact RG' a o e
theorem UB{elt:ρ}{ifs:List ρ}{scope:eS}{own:List ν}{js:List Nat}{ti:nA}{g:iu}{tc:cN}{te:aU}(hc:X.calm=true)(C:dM X.N X.env.scope scope own js)(hi:wK X tg iter ti)
  (hb:∀s H fp,uq (X.cmp scope own js s H fp) tg g/\vh (X.cmp scope own js s H fp) ifs (sh X.K tc)/\bT (X.cmp scope own js s H fp) elt te)
  (hs:∀x,foldedSetIterable iter X.env x=pure x:=by intro _;rfl):bT X (.ListComp elt [⟨tg,iter,ifs,0⟩] scope pos) (fX own js ti g tc te):=
 jS (U0 hc C hi hb hs) fun σ H Q h=>LQ h
theorem UA{elt:ρ}{ifs:List ρ}{scope:eS}{own:List ν}{js:List Nat}{ti:nA}{g:iu}{tc:cN}{te:aU}{i:Nat}{y:ν}{py spos:aO}(hc:X.calm=true)(hN:X.N.Nodup)(C:dM X.N X.env.scope scope own js)(hi:wK X tg iter ti)
  (hb:∀s H fp,uq (X.cmp scope own js s H fp) tg g/\vh (X.cmp scope own js s H fp) ifs (sh X.K tc)/\bT (X.cmp scope own js s H fp) elt te) (hy:X.N[i]?=some y:=by rfl) (hyl:X.env.scope.names.lookup y=some .local:=by rfl)
  (C5:swapsWith (.ListComp elt [⟨tg,iter,ifs,0⟩] scope pos) (some (.Name y py)) spos.line X.env=pure true:=by rfl)
  (hs:∀x,foldedSetIterable iter X.env x=pure x:=by intro _;rfl):nC X (.Assign [.Name y py] (.ListComp elt [⟨tg,iter,ifs,0⟩] scope pos) spos) (ck (fX own js ti g tc te) (hName i)):=
 mI (UZ hc hN hy hyl C hi hb C5 hs) fun D2 σ H ⟨τ,G,D3,RS,RG,h,k⟩=>
  LQ ⟨τ,G,_,RS,RG,h,fun v H1 d G1 h1 S1 R1 q1=>k.nx _ _ G1 H1 ((RS.ext (S1.ext RG)).set h1) S1 R1 q1⟩
theorem Uz{guard:Gp->Prop}{g:iu}{tb:az}{D3:ng}(I:List D->S3->Gp->Prop)(hg:∀ds τ G,I ds τ G->guard G)
  (step:∀d ds τ G,I (d::ds) τ G->g d τ G fun τ2 G2=>tb { D3 with nx:=I ds,ct:=I ds,bk:=D3.nx } τ2 G2) (mL:∀τ G,I [] τ G->D3.nx τ G)
  (mono:∀(N N':S3->Gp->Prop),(∀τ G,N τ G->N' τ G)->∀d τ G,(g d τ G fun τ2 G2=>tb { D3 with nx:=N,ct:=N,bk:=D3.nx } τ2 G2)->g d τ G fun τ2 G2=>tb { D3 with nx:=N',ct:=N',bk:=D3.nx } τ2 G2):
  ∀ds τ G,I ds τ G->iY guard g tb D3 ds τ G
 |[],τ,G,h=>⟨hg _ _ _ h,mL _ _ h⟩
 |d::ds,τ,G,h=>⟨hg _ _ _ h,mono (I ds) _ (fun τ G q=>Uz I hg step mL mono ds τ G q) d τ G (step d ds τ G h)⟩
theorem nv{guard:Gp->Prop}{g:iu}{tb:az}{D3:ng}(I:List D->S3->Gp->Prop)(hg:∀ds τ G,I ds τ G->guard G)
  (step:∀d ds τ G (N:S3->Gp->Prop),I (d::ds) τ G->(∀τ' G',I ds τ' G'->N τ' G')->g d τ G fun τ2 G2=>tb { D3 with nx:=N,ct:=N,bk:=D3.nx } τ2 G2) (mL:∀τ G,I [] τ G->D3.nx τ G):
  ∀ds τ G,I ds τ G->iY guard g tb D3 ds τ G
 |[],τ,G,h=>⟨hg _ _ _ h,mL _ _ h⟩
 |d::ds,τ,G,h=>⟨hg _ _ _ h,step d ds τ G _ h fun τ' G' q=>nv I hg step mL ds τ' G' q⟩
end
end L3
namespace Dat
open PySem PySem.SeqAt
inductive D where
 |aC|bl (b:Bool)|int (i:Int)|str (x:ν)|tup (xs:List D)|lst (xs:List D)|fE
mutual
def D.fm:D->D->Bool
 |.aC,.aC=>true
 |.bl a,.bl b=>a==b
 |.bl a,.int b=>(if a then 1 else 0)==b
 |.int a,.bl b=>a==(if b then 1 else 0)
 |.int a,.int b=>a==b
 |.str a,.str b=>a==b
 |.tup xs,.tup ys=>ju xs ys
 |.lst xs,.lst ys=>ju xs ys
 |_,_=>false
def ju:List D->List D->Bool
 |[],[]=>true
 |x::xs,y::ys=>x.fm y&&ju xs ys
 |_,_=>false
end
mutual
def D.jW:D->Nat
 |.tup xs=>fI xs+1
 |.lst xs=>fI xs+1
 |_=>0
def fI:List D->Nat
 |[]=>0
 |x::xs=>max x.jW (fI xs)
end
theorem vM{d:D}:∀{xs:List D},d∈xs->d.jW≤fI xs
 |x::xs,h=>by
  unfold fI;rcases Δ.mp h with e|e
  ·rw[e];exact Nat.le_max_left _ _
  ·exact aA (vM e) (Nat.le_max_right _ _)
mutual
def Hv(h:Ψ):D->ε->Prop
 |.aC,u=>u=.none
 |.bl b,u=>u=.bool b
 |.int i,u=>∃t,u=.int i t
 |.str x,u=>∃t,u=.str x t
 |.tup ds,u=>∃(a:ζ) (its:List ε),u=.ref a/\h.IsTuple a its.toArray/\aF h ds its
 |.lst ds,u=>∃(a:ζ) (its:List ε),u=.ref a/\h.IsList a its.toArray/\aF h ds its
 |.fE,_=>False
def aF(h:Ψ):List D->List ε->Prop
 |[],us=>us=[]
 |d::ds,us=>∃u r,us=u::r/\Hv h d u/\aF h ds r
end
theorem aF.length{h:Ψ}:∀{ds:List D} {us:List ε},aF h ds us->us.length=ds.length
 |[],us,e=>by
  unfold aF at e;rw[e];rfl
 |d::ds,us,e=>by
  unfold aF at e;obtain⟨u,r,rfl,_,e2⟩:=e;rw[aL,aL,e2.length]
theorem aF.get{h:Ψ}:∀{ds:List D} {us:List ε} {j:Nat} {d:D} {u:ε},aF h ds us->ds[j]?=some d->us[j]?=some u->Hv h d u
 |[],_,_,_,_,_,e,_=>by simp at e
 |d::ds,us,0,_,_,q,e1,e2=>by
  unfold aF at q;obtain⟨u,r,rfl,q1,_⟩:=q;simp at e1 e2;rw[←e1,←e2];exact q1
 |d::ds,us,j+1,_,_,q,e1,e2=>by
  unfold aF at q;obtain⟨u,r,rfl,_,q2⟩:=q;exact q2.get (j:=j) (by simpa using e1) (by simpa using e2)
theorem LP{h:Ψ}{a:ζ}{xs ys:Array ε}(hl:h.IsList a xs)(ht:h.IsTuple a ys):False:=by
 obtain⟨o,ho,hc,_⟩:=hl;obtain⟨o',ho',hc',_⟩:=ht;rw[ho] at ho';cases ho';rw[hc] at hc';exact absurd hc' (by decide)
mutual
theorem Hv.inj{h:Ψ}:∀{d e:D} {u:ε},Hv h d u->Hv h e u->d=e
 |d,e,u,p,q=>by
  cases d with
  |aC=>unfold Hv at p;subst p;cases e<;>unfold Hv at q<;>first|rfl|(simp at q)
  |bl b=>unfold Hv at p;subst p;cases e<;>unfold Hv at q<;>first|(simp at q;rw[q])|(simp at q)
  |int b=>unfold Hv at p;obtain⟨t,rfl⟩:=p;cases e<;>unfold Hv at q<;>first|(simp at q;rw[q])|(simp at q)
  |str b=>unfold Hv at p;obtain⟨t,rfl⟩:=p;cases e<;>unfold Hv at q<;>first|(simp at q;rw[q])|(simp at q)
  |fE=>unfold Hv at p;exact p.elim
  |tup ds=>
   unfold Hv at p;obtain⟨a,its,rfl,ha,p⟩:=p;cases e with
   |tup es=>
    unfold Hv at q;obtain⟨a',its',e1,ha',q⟩:=q;cases e1;have e2:its=its':=by
     obtain⟨o,ho,_,n,hd⟩:=ha;obtain⟨o',ho',_,n',hd'⟩:=ha';rw[ho] at ho';cases ho';rw[hd] at hd';injection hd' with e3 _
     simpa using congrArg qe e3
    subst e2;rw[aF.inj p q]
   |lst es=>
    unfold Hv at q;obtain⟨a',its',e1,ha',q⟩:=q;cases e1;exact (LP ha' ha).elim
   |_=>unfold Hv at q<;>simp at q
  |lst ds=>
   unfold Hv at p;obtain⟨a,its,rfl,ha,p⟩:=p;cases e with
   |lst es=>
    unfold Hv at q;obtain⟨a',its',e1,ha',q⟩:=q;cases e1;have e2:its=its':=by
     obtain⟨o,ho,_,n,hd⟩:=ha;obtain⟨o',ho',_,n',hd'⟩:=ha';rw[ho] at ho';cases ho';rw[hd] at hd';injection hd' with e3 _
     simpa using congrArg qe e3
    subst e2;rw[aF.inj p q]
   |tup es=>
    unfold Hv at q;obtain⟨a',its',e1,ha',q⟩:=q;cases e1;exact (LP ha ha').elim
   |_=>unfold Hv at q<;>simp at q
theorem aF.inj{h:Ψ}:∀{ds es:List D} {us:List ε},aF h ds us->aF h es us->ds=es
 |[],[],_,_,_=>rfl
 |[],e::es,us,p,q=>by
  unfold aF at p q;subst p;obtain⟨_,_,e1,_⟩:=q;cases e1
 |d::ds,[],us,p,q=>by
  unfold aF at p q;subst q;obtain⟨_,_,e1,_⟩:=p;cases e1
 |d::ds,e::es,us,p,q=>by
  unfold aF at p q;obtain⟨u,r,rfl,p1,p2⟩:=p;obtain⟨u',r',e1,q1,q2⟩:=q;cases e1;rw[Hv.inj p1 q1,aF.inj p2 q2]
end
theorem vL:∀(ds es:List D),((ao (min ds.length es.length)).all (fun j=>(ds.getD j .aC).fm (es.getD j .aC))&&ds.length==es.length)=ju ds es
 |[],[]=>by simp[ju]
 |[],e::es=>by simp[ju]
 |d::ds,[]=>by simp[ju]
 |d::ds,e::es=>by
  have ih:=vL ds es;unfold ju;rw[←ih];rw[aL,aL,show min (ds.length+1) (es.length+1)=min ds.length es.length+1 by lia,qZ,nV,List.all_map];have e1:((ds.length+1==es.length+1):Bool)=(ds.length==es.length):=by simp
  rw[e1,Bool.and_assoc];rfl
theorem A6:∀(ds es:List D),ds.length≠es.length->ju ds es=false
 |[],[],h=>absurd rfl h
 |[],e::es,_=>rfl
 |d::ds,[],_=>rfl
 |d::ds,e::es,h=>by
  unfold ju;rw[A6 ds es (by simpa using h),kx]
mutual
theorem Hv.refl{h:Ψ}:∀{d:D} {u:ε},Hv h d u->d.fm d=true
 |.aC,_,_=>rfl
 |.bl b,_,_=>by unfold D.fm;simp
 |.int b,_,_=>by unfold D.fm;simp
 |.str b,_,_=>by unfold D.fm;simp
 |.fE,_,p=>by unfold Hv at p;exact p.elim
 |.tup ds,_,p=>by
  unfold Hv at p;obtain⟨_,_,_,_,p⟩:=p;unfold D.fm;exact aF.refl p
 |.lst ds,_,p=>by
  unfold Hv at p;obtain⟨_,_,_,_,p⟩:=p;unfold D.fm;exact aF.refl p
theorem aF.refl{h:Ψ}:∀{ds:List D} {us:List ε},aF h ds us->ju ds ds=true
 |[],_,_=>rfl
 |d::ds,us,p=>by
  unfold aF at p;obtain⟨u,r,_,p1,p2⟩:=p;unfold ju;rw[Hv.refl p1,aF.refl p2];rfl
end
theorem mD{h:Ψ}{ds:List D}{us:List ε}(p:aF h ds us){j:Nat}(hj:j<us.toArray.size):Hv h (ds.getD j .aC) (us.toArray[j])/\ds.getD j .aC∈ds:=by
 have hl:=p.length;have hj':j<ds.length:=by simp at hj;lia
 have e1:ds[j]?=some (ds.getD j .aC):=by simp[hj']
 exact⟨p.get e1 (by simp at hj;simp[hj]),bE e1⟩
theorem vZ{s:η}:∀(d e:D) (u v:ε) (A:aE),Hv s.heap d u->Hv s.heap e v->A.units+d.jW+1<cLine->EqAt A s u v (d.fm e)
 |.aC,.aC,u,v,A,p1,p2,hu=>by
  unfold Hv at p1;subst p1;unfold Hv at p2;subst p2;exact EqAt.same _
 |.aC,.bl b2,u,v,A,p1,p2,hu=>by
  unfold Hv at p1;subst p1;unfold Hv at p2;subst p2;exact EqAt.none_bool  b2
 |.aC,.int b2,u,v,A,p1,p2,hu=>by
  unfold Hv at p1;subst p1;unfold Hv at p2;obtain⟨t2,rfl⟩:=p2;exact EqAt.none_int  b2 t2
 |.aC,.str b2,u,v,A,p1,p2,hu=>by
  unfold Hv at p1;subst p1;unfold Hv at p2;obtain⟨t2,rfl⟩:=p2;exact EqAt.none_str  b2 t2
 |.aC,.tup ds2,u,v,A,p1,p2,hu=>by
  unfold Hv at p1;subst p1;unfold Hv at p2;obtain⟨a2,its2,rfl,l2,p2⟩:=p2;exact EqAt.none_tuple  l2 (by lia)
 |.aC,.lst ds2,u,v,A,p1,p2,hu=>by
  unfold Hv at p1;subst p1;unfold Hv at p2;obtain⟨a2,its2,rfl,l2,p2⟩:=p2;exact EqAt.none_list  l2 (by lia)
 |.bl b1,.aC,u,v,A,p1,p2,hu=>by
  unfold Hv at p1;subst p1;unfold Hv at p2;subst p2;exact EqAt.bool_none b1
 |.bl b1,.bl b2,u,v,A,p1,p2,hu=>by
  unfold Hv at p1;subst p1;unfold Hv at p2;subst p2;exact EqAt.bool_bool b1 b2
 |.bl b1,.int b2,u,v,A,p1,p2,hu=>by
  unfold Hv at p1;subst p1;unfold Hv at p2;obtain⟨t2,rfl⟩:=p2;exact EqAt.bool_int b1 b2 t2
 |.bl b1,.str b2,u,v,A,p1,p2,hu=>by
  unfold Hv at p1;subst p1;unfold Hv at p2;obtain⟨t2,rfl⟩:=p2;exact EqAt.bool_str b1 b2 t2
 |.bl b1,.tup ds2,u,v,A,p1,p2,hu=>by
  unfold Hv at p1;subst p1;unfold Hv at p2;obtain⟨a2,its2,rfl,l2,p2⟩:=p2;exact EqAt.bool_tuple b1 l2 (by lia)
 |.bl b1,.lst ds2,u,v,A,p1,p2,hu=>by
  unfold Hv at p1;subst p1;unfold Hv at p2;obtain⟨a2,its2,rfl,l2,p2⟩:=p2;exact EqAt.bool_list b1 l2 (by lia)
 |.int b1,.aC,u,v,A,p1,p2,hu=>by
  unfold Hv at p1;obtain⟨t1,rfl⟩:=p1;unfold Hv at p2;subst p2;exact EqAt.int_none b1 t1
 |.int b1,.bl b2,u,v,A,p1,p2,hu=>by
  unfold Hv at p1;obtain⟨t1,rfl⟩:=p1;unfold Hv at p2;subst p2;exact EqAt.int_bool b1 t1 b2
 |.int b1,.int b2,u,v,A,p1,p2,hu=>by
  unfold Hv at p1;obtain⟨t1,rfl⟩:=p1;unfold Hv at p2;obtain⟨t2,rfl⟩:=p2;exact EqAt.int_int b1 t1 b2 t2
 |.int b1,.str b2,u,v,A,p1,p2,hu=>by
  unfold Hv at p1;obtain⟨t1,rfl⟩:=p1;unfold Hv at p2;obtain⟨t2,rfl⟩:=p2;exact EqAt.int_str b1 t1 b2 t2
 |.int b1,.tup ds2,u,v,A,p1,p2,hu=>by
  unfold Hv at p1;obtain⟨t1,rfl⟩:=p1;unfold Hv at p2;obtain⟨a2,its2,rfl,l2,p2⟩:=p2;exact EqAt.int_tuple b1 t1 l2 (by lia)
 |.int b1,.lst ds2,u,v,A,p1,p2,hu=>by
  unfold Hv at p1;obtain⟨t1,rfl⟩:=p1;unfold Hv at p2;obtain⟨a2,its2,rfl,l2,p2⟩:=p2;exact EqAt.int_list b1 t1 l2 (by lia)
 |.str b1,.aC,u,v,A,p1,p2,hu=>by
  unfold Hv at p1;obtain⟨t1,rfl⟩:=p1;unfold Hv at p2;subst p2;exact EqAt.str_none b1 t1
 |.str b1,.bl b2,u,v,A,p1,p2,hu=>by
  unfold Hv at p1;obtain⟨t1,rfl⟩:=p1;unfold Hv at p2;subst p2;exact EqAt.str_bool b1 t1 b2
 |.str b1,.int b2,u,v,A,p1,p2,hu=>by
  unfold Hv at p1;obtain⟨t1,rfl⟩:=p1;unfold Hv at p2;obtain⟨t2,rfl⟩:=p2;exact EqAt.str_int b1 t1 b2 t2
 |.str b1,.str b2,u,v,A,p1,p2,hu=>by
  unfold Hv at p1;obtain⟨t1,rfl⟩:=p1;unfold Hv at p2;obtain⟨t2,rfl⟩:=p2;exact EqAt.str_str b1 t1 b2 t2
 |.str b1,.tup ds2,u,v,A,p1,p2,hu=>by
  unfold Hv at p1;obtain⟨t1,rfl⟩:=p1;unfold Hv at p2;obtain⟨a2,its2,rfl,l2,p2⟩:=p2;exact EqAt.str_tuple b1 t1 l2 (by lia)
 |.str b1,.lst ds2,u,v,A,p1,p2,hu=>by
  unfold Hv at p1;obtain⟨t1,rfl⟩:=p1;unfold Hv at p2;obtain⟨a2,its2,rfl,l2,p2⟩:=p2;exact EqAt.str_list b1 t1 l2 (by lia)
 |.tup ds1,.aC,u,v,A,p1,p2,hu=>by
  unfold Hv at p1;obtain⟨a1,its1,rfl,l1,p1⟩:=p1;unfold Hv at p2;subst p2;exact EqAt.tuple_none  l1 (by lia)
 |.tup ds1,.bl b2,u,v,A,p1,p2,hu=>by
  unfold Hv at p1;obtain⟨a1,its1,rfl,l1,p1⟩:=p1;unfold Hv at p2;subst p2;exact EqAt.tuple_bool b2 l1 (by lia)
 |.tup ds1,.int b2,u,v,A,p1,p2,hu=>by
  unfold Hv at p1;obtain⟨a1,its1,rfl,l1,p1⟩:=p1;unfold Hv at p2;obtain⟨t2,rfl⟩:=p2;exact EqAt.tuple_int b2 t2 l1 (by lia)
 |.tup ds1,.str b2,u,v,A,p1,p2,hu=>by
  unfold Hv at p1;obtain⟨a1,its1,rfl,l1,p1⟩:=p1;unfold Hv at p2;obtain⟨t2,rfl⟩:=p2;exact EqAt.tuple_str b2 t2 l1 (by lia)
 |.tup ds1,.tup ds2,u,v,A,p1,p2,hu=>by
  unfold Hv at p1;obtain⟨a1,its1,rfl,l1,p1⟩:=p1;unfold Hv at p2;obtain⟨a2,its2,rfl,l2,p2⟩:=p2;unfold D.fm;by_cases ha:a1=a2
  ·subst ha;have e0:(.tup ds1:D)=.tup ds2:=Hv.inj (h:=s.heap) (u:=.ref a1) (by unfold Hv;exact⟨a1,its1,rfl,l1,p1⟩) (by unfold Hv;exact⟨a1,its2,rfl,l2,p2⟩);injection e0 with e0;subst e0;rw[p1.refl];exact EqAt.same _
  ·refine EqAt.of_refs ha ?_;have hdep:A.units+fI ds1+1+1<cLine:=by
    have e9:(.tup ds1:D).jW=fI ds1+1:=by first|rfl|(unfold D.jW;rfl)
    lia
   have q:=RcAt.tuples (e:=fun j=>(ds1.getD j .aC).fm (ds2.getD j .aC)) l1 l2 (by lia) fun j h1 h2=>
    have m:=(mD p1 h1).2
    vZ (ds1.getD j .aC) (ds2.getD j .aC) _ _ A.in1 (mD p1 h1).1 (mD p2 h2).1 (by
     have:=vM m;show A.units+1+_+1<cLine;lia)
   rw[Γ,Γ,p1.length,p2.length,vL] at q;exact q
 |.tup ds1,.lst ds2,u,v,A,p1,p2,hu=>by
  unfold Hv at p1;obtain⟨a1,its1,rfl,l1,p1⟩:=p1;unfold Hv at p2;obtain⟨a2,its2,rfl,l2,p2⟩:=p2;exact EqAt.tuple_list l1 l2 (by lia)
 |.lst ds1,.aC,u,v,A,p1,p2,hu=>by
  unfold Hv at p1;obtain⟨a1,its1,rfl,l1,p1⟩:=p1;unfold Hv at p2;subst p2;exact EqAt.list_none  l1 (by lia)
 |.lst ds1,.bl b2,u,v,A,p1,p2,hu=>by
  unfold Hv at p1;obtain⟨a1,its1,rfl,l1,p1⟩:=p1;unfold Hv at p2;subst p2;exact EqAt.list_bool b2 l1 (by lia)
 |.lst ds1,.int b2,u,v,A,p1,p2,hu=>by
  unfold Hv at p1;obtain⟨a1,its1,rfl,l1,p1⟩:=p1;unfold Hv at p2;obtain⟨t2,rfl⟩:=p2;exact EqAt.list_int b2 t2 l1 (by lia)
 |.lst ds1,.str b2,u,v,A,p1,p2,hu=>by
  unfold Hv at p1;obtain⟨a1,its1,rfl,l1,p1⟩:=p1;unfold Hv at p2;obtain⟨t2,rfl⟩:=p2;exact EqAt.list_str b2 t2 l1 (by lia)
 |.lst ds1,.tup ds2,u,v,A,p1,p2,hu=>by
  unfold Hv at p1;obtain⟨a1,its1,rfl,l1,p1⟩:=p1;unfold Hv at p2;obtain⟨a2,its2,rfl,l2,p2⟩:=p2;exact EqAt.list_tuple l1 l2 (by lia)
 |.lst ds1,.lst ds2,u,v,A,p1,p2,hu=>by
  unfold Hv at p1;obtain⟨a1,its1,rfl,l1,p1⟩:=p1;unfold Hv at p2;obtain⟨a2,its2,rfl,l2,p2⟩:=p2;unfold D.fm;by_cases ha:a1=a2
  ·subst ha;have e0:(.lst ds1:D)=.lst ds2:=Hv.inj (h:=s.heap) (u:=.ref a1) (by unfold Hv;exact⟨a1,its1,rfl,l1,p1⟩) (by unfold Hv;exact⟨a1,its2,rfl,l2,p2⟩);injection e0 with e0;subst e0;rw[p1.refl];exact EqAt.same _
  ·refine EqAt.of_refs ha ?_;have hdep:A.units+fI ds1+1+1<cLine:=by
    have e9:(.lst ds1:D).jW=fI ds1+1:=by first|rfl|(unfold D.jW;rfl)
    lia
   by_cases hn:ds1.length=ds2.length
   ·have q:=RcAt.lists (e:=fun j=>(ds1.getD j .aC).fm (ds2.getD j .aC)) l1 l2 (by simp[p1.length,p2.length,hn]) (by lia) fun j h1 h2=>
     have m:=(mD p1 h1).2
     vZ (ds1.getD j .aC) (ds2.getD j .aC) _ _ A.in1 (mD p1 h1).1 (mD p2 h2).1 (by
      have:=vM m;show A.units+1+_+1<cLine;lia)
    have q2:=vL ds1 ds2;rw[hn,ux,beq_self_eq_true,tz] at q2;rw[Γ,p1.length,hn,q2] at q;exact q
   ·rw[A6 _ _ hn];exact uw l1 l2 (by simp[p1.length,p2.length,hn]) (by lia)
 |.aC,.fE,u,v,A,p1,p2,hu=>by
  unfold Hv at p2;exact p2.elim
 |.bl b1,.fE,u,v,A,p1,p2,hu=>by
  unfold Hv at p2;exact p2.elim
 |.int b1,.fE,u,v,A,p1,p2,hu=>by
  unfold Hv at p2;exact p2.elim
 |.str b1,.fE,u,v,A,p1,p2,hu=>by
  unfold Hv at p2;exact p2.elim
 |.tup ds1,.fE,u,v,A,p1,p2,hu=>by
  unfold Hv at p2;exact p2.elim
 |.lst ds1,.fE,u,v,A,p1,p2,hu=>by
  unfold Hv at p2;exact p2.elim
 |.fE,e,u,v,A,p1,p2,hu=>by
  unfold Hv at p1;exact p1.elim
termination_by d=>sizeOf d
decreasing_by
 all_goals (have:=List.sizeOf_lt_of_mem m;first|(rw[D.tup.sizeOf_spec];lia)|(rw[D.lst.sizeOf_spec];lia))
theorem Oi{s:η}(d e:D)(u v:ε)(A:aE)(p1:Hv s.heap d u)(p2:Hv s.heap e v)(hu:A.units+d.jW+1<cLine):RcAt A s u v (d.fm e):=
 match d,e,p1,p2,hu with
 |.aC,.aC,p1,p2,hu=>by
  unfold Hv at p1;subst p1;unfold Hv at p2;subst p2;exact RcAt.none_none
 |.aC,.bl b2,p1,p2,hu=>by
  unfold Hv at p1;subst p1;unfold Hv at p2;subst p2;exact RcAt.none_bool  b2
 |.aC,.int b2,p1,p2,hu=>by
  unfold Hv at p1;subst p1;unfold Hv at p2;obtain⟨t2,rfl⟩:=p2;exact RcAt.none_int  b2 t2
 |.aC,.str b2,p1,p2,hu=>by
  unfold Hv at p1;subst p1;unfold Hv at p2;obtain⟨t2,rfl⟩:=p2;exact RcAt.none_str  b2 t2
 |.aC,.tup ds2,p1,p2,hu=>by
  unfold Hv at p1;subst p1;unfold Hv at p2;obtain⟨a2,its2,rfl,l2,p2⟩:=p2;exact RcAt.none_tuple  l2 (by lia)
 |.aC,.lst ds2,p1,p2,hu=>by
  unfold Hv at p1;subst p1;unfold Hv at p2;obtain⟨a2,its2,rfl,l2,p2⟩:=p2;exact RcAt.none_list  l2 (by lia)
 |.bl b1,.aC,p1,p2,hu=>by
  unfold Hv at p1;subst p1;unfold Hv at p2;subst p2;exact RcAt.bool_none b1
 |.bl b1,.bl b2,p1,p2,hu=>by
  unfold Hv at p1;subst p1;unfold Hv at p2;subst p2;exact RcAt.bool_bool b1 b2
 |.bl b1,.int b2,p1,p2,hu=>by
  unfold Hv at p1;subst p1;unfold Hv at p2;obtain⟨t2,rfl⟩:=p2;exact RcAt.bool_int b1 b2 t2
 |.bl b1,.str b2,p1,p2,hu=>by
  unfold Hv at p1;subst p1;unfold Hv at p2;obtain⟨t2,rfl⟩:=p2;exact RcAt.bool_str b1 b2 t2
 |.bl b1,.tup ds2,p1,p2,hu=>by
  unfold Hv at p1;subst p1;unfold Hv at p2;obtain⟨a2,its2,rfl,l2,p2⟩:=p2;exact RcAt.bool_tuple b1 l2 (by lia)
 |.bl b1,.lst ds2,p1,p2,hu=>by
  unfold Hv at p1;subst p1;unfold Hv at p2;obtain⟨a2,its2,rfl,l2,p2⟩:=p2;exact RcAt.bool_list b1 l2 (by lia)
 |.int b1,.aC,p1,p2,hu=>by
  unfold Hv at p1;obtain⟨t1,rfl⟩:=p1;unfold Hv at p2;subst p2;exact RcAt.int_none b1 t1
 |.int b1,.bl b2,p1,p2,hu=>by
  unfold Hv at p1;obtain⟨t1,rfl⟩:=p1;unfold Hv at p2;subst p2;exact RcAt.int_bool b1 t1 b2
 |.int b1,.int b2,p1,p2,hu=>by
  unfold Hv at p1;obtain⟨t1,rfl⟩:=p1;unfold Hv at p2;obtain⟨t2,rfl⟩:=p2;exact RcAt.int_int b1 t1 b2 t2
 |.int b1,.str b2,p1,p2,hu=>by
  unfold Hv at p1;obtain⟨t1,rfl⟩:=p1;unfold Hv at p2;obtain⟨t2,rfl⟩:=p2;exact RcAt.int_str b1 t1 b2 t2
 |.int b1,.tup ds2,p1,p2,hu=>by
  unfold Hv at p1;obtain⟨t1,rfl⟩:=p1;unfold Hv at p2;obtain⟨a2,its2,rfl,l2,p2⟩:=p2;exact RcAt.int_tuple b1 t1 l2 (by lia)
 |.int b1,.lst ds2,p1,p2,hu=>by
  unfold Hv at p1;obtain⟨t1,rfl⟩:=p1;unfold Hv at p2;obtain⟨a2,its2,rfl,l2,p2⟩:=p2;exact RcAt.int_list b1 t1 l2 (by lia)
 |.str b1,.aC,p1,p2,hu=>by
  unfold Hv at p1;obtain⟨t1,rfl⟩:=p1;unfold Hv at p2;subst p2;exact RcAt.str_none b1 t1
 |.str b1,.bl b2,p1,p2,hu=>by
  unfold Hv at p1;obtain⟨t1,rfl⟩:=p1;unfold Hv at p2;subst p2;exact RcAt.str_bool b1 t1 b2
 |.str b1,.int b2,p1,p2,hu=>by
  unfold Hv at p1;obtain⟨t1,rfl⟩:=p1;unfold Hv at p2;obtain⟨t2,rfl⟩:=p2;exact RcAt.str_int b1 t1 b2 t2
 |.str b1,.str b2,p1,p2,hu=>by
  unfold Hv at p1;obtain⟨t1,rfl⟩:=p1;unfold Hv at p2;obtain⟨t2,rfl⟩:=p2;exact RcAt.str_str b1 t1 b2 t2
 |.str b1,.tup ds2,p1,p2,hu=>by
  unfold Hv at p1;obtain⟨t1,rfl⟩:=p1;unfold Hv at p2;obtain⟨a2,its2,rfl,l2,p2⟩:=p2;exact RcAt.str_tuple b1 t1 l2 (by lia)
 |.str b1,.lst ds2,p1,p2,hu=>by
  unfold Hv at p1;obtain⟨t1,rfl⟩:=p1;unfold Hv at p2;obtain⟨a2,its2,rfl,l2,p2⟩:=p2;exact RcAt.str_list b1 t1 l2 (by lia)
 |.tup ds1,.aC,p1,p2,hu=>by
  unfold Hv at p1;obtain⟨a1,its1,rfl,l1,p1⟩:=p1;unfold Hv at p2;subst p2;exact RcAt.tuple_none  l1 (by lia)
 |.tup ds1,.bl b2,p1,p2,hu=>by
  unfold Hv at p1;obtain⟨a1,its1,rfl,l1,p1⟩:=p1;unfold Hv at p2;subst p2;exact RcAt.tuple_bool b2 l1 (by lia)
 |.tup ds1,.int b2,p1,p2,hu=>by
  unfold Hv at p1;obtain⟨a1,its1,rfl,l1,p1⟩:=p1;unfold Hv at p2;obtain⟨t2,rfl⟩:=p2;exact RcAt.tuple_int b2 t2 l1 (by lia)
 |.tup ds1,.str b2,p1,p2,hu=>by
  unfold Hv at p1;obtain⟨a1,its1,rfl,l1,p1⟩:=p1;unfold Hv at p2;obtain⟨t2,rfl⟩:=p2;exact RcAt.tuple_str b2 t2 l1 (by lia)
 |.tup ds1,.tup ds2,p1,p2,hu=>by
  unfold Hv at p1;obtain⟨a1,its1,rfl,l1,p1⟩:=p1;unfold Hv at p2;obtain⟨a2,its2,rfl,l2,p2⟩:=p2;unfold D.fm;have hdep:A.units+fI ds1+1+1<cLine:=by
   have e9:(.tup ds1:D).jW=fI ds1+1:=by first|rfl|(unfold D.jW;rfl)
   lia
  have q:=RcAt.tuples (e:=fun j=>(ds1.getD j .aC).fm (ds2.getD j .aC)) l1 l2 (by lia) fun j h1 h2=>
   vZ (ds1.getD j .aC) (ds2.getD j .aC) _ _ A.in1 (mD p1 h1).1 (mD p2 h2).1 (by
    have:=vM (mD p1 h1).2;show A.units+1+_+1<cLine;lia)
  rw[Γ,Γ,p1.length,p2.length,vL] at q;exact q
 |.tup ds1,.lst ds2,p1,p2,hu=>by
  unfold Hv at p1;obtain⟨a1,its1,rfl,l1,p1⟩:=p1;unfold Hv at p2;obtain⟨a2,its2,rfl,l2,p2⟩:=p2;exact RcAt.tuple_list l1 l2 (by lia)
 |.lst ds1,.aC,p1,p2,hu=>by
  unfold Hv at p1;obtain⟨a1,its1,rfl,l1,p1⟩:=p1;unfold Hv at p2;subst p2;exact RcAt.list_none  l1 (by lia)
 |.lst ds1,.bl b2,p1,p2,hu=>by
  unfold Hv at p1;obtain⟨a1,its1,rfl,l1,p1⟩:=p1;unfold Hv at p2;subst p2;exact RcAt.list_bool b2 l1 (by lia)
 |.lst ds1,.int b2,p1,p2,hu=>by
  unfold Hv at p1;obtain⟨a1,its1,rfl,l1,p1⟩:=p1;unfold Hv at p2;obtain⟨t2,rfl⟩:=p2;exact RcAt.list_int b2 t2 l1 (by lia)
 |.lst ds1,.str b2,p1,p2,hu=>by
  unfold Hv at p1;obtain⟨a1,its1,rfl,l1,p1⟩:=p1;unfold Hv at p2;obtain⟨t2,rfl⟩:=p2;exact RcAt.list_str b2 t2 l1 (by lia)
 |.lst ds1,.tup ds2,p1,p2,hu=>by
  unfold Hv at p1;obtain⟨a1,its1,rfl,l1,p1⟩:=p1;unfold Hv at p2;obtain⟨a2,its2,rfl,l2,p2⟩:=p2;exact RcAt.list_tuple l1 l2 (by lia)
 |.lst ds1,.lst ds2,p1,p2,hu=>by
  unfold Hv at p1;obtain⟨a1,its1,rfl,l1,p1⟩:=p1;unfold Hv at p2;obtain⟨a2,its2,rfl,l2,p2⟩:=p2;unfold D.fm;have hdep:A.units+fI ds1+1+1<cLine:=by
   have e9:(.lst ds1:D).jW=fI ds1+1:=by first|rfl|(unfold D.jW;rfl)
   lia
  by_cases hn:ds1.length=ds2.length
  ·have q:=RcAt.lists (e:=fun j=>(ds1.getD j .aC).fm (ds2.getD j .aC)) l1 l2 (by simp[p1.length,p2.length,hn]) (by lia) fun j h1 h2=>
    vZ (ds1.getD j .aC) (ds2.getD j .aC) _ _ A.in1 (mD p1 h1).1 (mD p2 h2).1 (by
     have:=vM (mD p1 h1).2;show A.units+1+_+1<cLine;lia)
   have q2:=vL ds1 ds2;rw[hn,ux,beq_self_eq_true,tz] at q2;rw[Γ,p1.length,hn,q2] at q;exact q
  ·rw[A6 _ _ hn];exact uw l1 l2 (by simp[p1.length,p2.length,hn]) (by lia)
 |d,.fE,p1,p2,hu=>by
  unfold Hv at p2;exact p2.elim
 |.fE,e,p1,p2,hu=>by
  unfold Hv at p1;exact p1.elim
theorem Oh{s:η}(d e:D)(u v:ε)(A:aE)(p1:Hv s.heap d u)(p2:Hv s.heap e v)(hu:A.units+d.jW+1<cLine):RcNeAt A s u v (!d.fm e):=
 match d,e,p1,p2,hu with
 |.aC,.aC,p1,p2,hu=>by
  unfold Hv at p1;subst p1;unfold Hv at p2;subst p2;exact RcNeAt.none_none
 |.aC,.bl b2,p1,p2,hu=>by
  unfold Hv at p1;subst p1;unfold Hv at p2;subst p2;exact RcNeAt.none_bool  b2
 |.aC,.int b2,p1,p2,hu=>by
  unfold Hv at p1;subst p1;unfold Hv at p2;obtain⟨t2,rfl⟩:=p2;exact RcNeAt.none_int  b2 t2
 |.aC,.str b2,p1,p2,hu=>by
  unfold Hv at p1;subst p1;unfold Hv at p2;obtain⟨t2,rfl⟩:=p2;exact RcNeAt.none_str  b2 t2
 |.aC,.tup ds2,p1,p2,hu=>by
  unfold Hv at p1;subst p1;unfold Hv at p2;obtain⟨a2,its2,rfl,l2,p2⟩:=p2;exact RcNeAt.none_tuple  l2 (by lia)
 |.aC,.lst ds2,p1,p2,hu=>by
  unfold Hv at p1;subst p1;unfold Hv at p2;obtain⟨a2,its2,rfl,l2,p2⟩:=p2;exact RcNeAt.none_list  l2 (by lia)
 |.bl b1,.aC,p1,p2,hu=>by
  unfold Hv at p1;subst p1;unfold Hv at p2;subst p2;exact RcNeAt.bool_none b1
 |.bl b1,.bl b2,p1,p2,hu=>by
  unfold Hv at p1;subst p1;unfold Hv at p2;subst p2;exact RcNeAt.bool_bool b1 b2
 |.bl b1,.int b2,p1,p2,hu=>by
  unfold Hv at p1;subst p1;unfold Hv at p2;obtain⟨t2,rfl⟩:=p2;exact RcNeAt.bool_int b1 b2 t2
 |.bl b1,.str b2,p1,p2,hu=>by
  unfold Hv at p1;subst p1;unfold Hv at p2;obtain⟨t2,rfl⟩:=p2;exact RcNeAt.bool_str b1 b2 t2
 |.bl b1,.tup ds2,p1,p2,hu=>by
  unfold Hv at p1;subst p1;unfold Hv at p2;obtain⟨a2,its2,rfl,l2,p2⟩:=p2;exact RcNeAt.bool_tuple b1 l2 (by lia)
 |.bl b1,.lst ds2,p1,p2,hu=>by
  unfold Hv at p1;subst p1;unfold Hv at p2;obtain⟨a2,its2,rfl,l2,p2⟩:=p2;exact RcNeAt.bool_list b1 l2 (by lia)
 |.int b1,.aC,p1,p2,hu=>by
  unfold Hv at p1;obtain⟨t1,rfl⟩:=p1;unfold Hv at p2;subst p2;exact RcNeAt.int_none b1 t1
 |.int b1,.bl b2,p1,p2,hu=>by
  unfold Hv at p1;obtain⟨t1,rfl⟩:=p1;unfold Hv at p2;subst p2;exact RcNeAt.int_bool b1 t1 b2
 |.int b1,.int b2,p1,p2,hu=>by
  unfold Hv at p1;obtain⟨t1,rfl⟩:=p1;unfold Hv at p2;obtain⟨t2,rfl⟩:=p2;exact RcNeAt.int_int b1 t1 b2 t2
 |.int b1,.str b2,p1,p2,hu=>by
  unfold Hv at p1;obtain⟨t1,rfl⟩:=p1;unfold Hv at p2;obtain⟨t2,rfl⟩:=p2;exact RcNeAt.int_str b1 t1 b2 t2
 |.int b1,.tup ds2,p1,p2,hu=>by
  unfold Hv at p1;obtain⟨t1,rfl⟩:=p1;unfold Hv at p2;obtain⟨a2,its2,rfl,l2,p2⟩:=p2;exact RcNeAt.int_tuple b1 t1 l2 (by lia)
 |.int b1,.lst ds2,p1,p2,hu=>by
  unfold Hv at p1;obtain⟨t1,rfl⟩:=p1;unfold Hv at p2;obtain⟨a2,its2,rfl,l2,p2⟩:=p2;exact RcNeAt.int_list b1 t1 l2 (by lia)
 |.str b1,.aC,p1,p2,hu=>by
  unfold Hv at p1;obtain⟨t1,rfl⟩:=p1;unfold Hv at p2;subst p2;exact RcNeAt.str_none b1 t1
 |.str b1,.bl b2,p1,p2,hu=>by
  unfold Hv at p1;obtain⟨t1,rfl⟩:=p1;unfold Hv at p2;subst p2;exact RcNeAt.str_bool b1 t1 b2
 |.str b1,.int b2,p1,p2,hu=>by
  unfold Hv at p1;obtain⟨t1,rfl⟩:=p1;unfold Hv at p2;obtain⟨t2,rfl⟩:=p2;exact RcNeAt.str_int b1 t1 b2 t2
 |.str b1,.str b2,p1,p2,hu=>by
  unfold Hv at p1;obtain⟨t1,rfl⟩:=p1;unfold Hv at p2;obtain⟨t2,rfl⟩:=p2;exact RcNeAt.str_str b1 t1 b2 t2
 |.str b1,.tup ds2,p1,p2,hu=>by
  unfold Hv at p1;obtain⟨t1,rfl⟩:=p1;unfold Hv at p2;obtain⟨a2,its2,rfl,l2,p2⟩:=p2;exact RcNeAt.str_tuple b1 t1 l2 (by lia)
 |.str b1,.lst ds2,p1,p2,hu=>by
  unfold Hv at p1;obtain⟨t1,rfl⟩:=p1;unfold Hv at p2;obtain⟨a2,its2,rfl,l2,p2⟩:=p2;exact RcNeAt.str_list b1 t1 l2 (by lia)
 |.tup ds1,.aC,p1,p2,hu=>by
  unfold Hv at p1;obtain⟨a1,its1,rfl,l1,p1⟩:=p1;unfold Hv at p2;subst p2;exact RcNeAt.tuple_none  l1 (by lia)
 |.tup ds1,.bl b2,p1,p2,hu=>by
  unfold Hv at p1;obtain⟨a1,its1,rfl,l1,p1⟩:=p1;unfold Hv at p2;subst p2;exact RcNeAt.tuple_bool b2 l1 (by lia)
 |.tup ds1,.int b2,p1,p2,hu=>by
  unfold Hv at p1;obtain⟨a1,its1,rfl,l1,p1⟩:=p1;unfold Hv at p2;obtain⟨t2,rfl⟩:=p2;exact RcNeAt.tuple_int b2 t2 l1 (by lia)
 |.tup ds1,.str b2,p1,p2,hu=>by
  unfold Hv at p1;obtain⟨a1,its1,rfl,l1,p1⟩:=p1;unfold Hv at p2;obtain⟨t2,rfl⟩:=p2;exact RcNeAt.tuple_str b2 t2 l1 (by lia)
 |.tup ds1,.tup ds2,p1,p2,hu=>by
  unfold Hv at p1;obtain⟨a1,its1,rfl,l1,p1⟩:=p1;unfold Hv at p2;obtain⟨a2,its2,rfl,l2,p2⟩:=p2;unfold D.fm;have hdep:A.units+fI ds1+1+1<cLine:=by
   have e9:(.tup ds1:D).jW=fI ds1+1:=by first|rfl|(unfold D.jW;rfl)
   lia
  have q:=RcNeAt.tuples (e:=fun j=>(ds1.getD j .aC).fm (ds2.getD j .aC)) l1 l2 (by lia) fun j h1 h2=>
   vZ (ds1.getD j .aC) (ds2.getD j .aC) _ _ A.in1 (mD p1 h1).1 (mD p2 h2).1 (by
    have:=vM (mD p1 h1).2;show A.units+1+_+1<cLine;lia)
  rw[Γ,Γ,p1.length,p2.length,vL] at q;exact q
 |.tup ds1,.lst ds2,p1,p2,hu=>by
  unfold Hv at p1;obtain⟨a1,its1,rfl,l1,p1⟩:=p1;unfold Hv at p2;obtain⟨a2,its2,rfl,l2,p2⟩:=p2;exact RcNeAt.tuple_list l1 l2 (by lia)
 |.lst ds1,.aC,p1,p2,hu=>by
  unfold Hv at p1;obtain⟨a1,its1,rfl,l1,p1⟩:=p1;unfold Hv at p2;subst p2;exact RcNeAt.list_none  l1 (by lia)
 |.lst ds1,.bl b2,p1,p2,hu=>by
  unfold Hv at p1;obtain⟨a1,its1,rfl,l1,p1⟩:=p1;unfold Hv at p2;subst p2;exact RcNeAt.list_bool b2 l1 (by lia)
 |.lst ds1,.int b2,p1,p2,hu=>by
  unfold Hv at p1;obtain⟨a1,its1,rfl,l1,p1⟩:=p1;unfold Hv at p2;obtain⟨t2,rfl⟩:=p2;exact RcNeAt.list_int b2 t2 l1 (by lia)
 |.lst ds1,.str b2,p1,p2,hu=>by
  unfold Hv at p1;obtain⟨a1,its1,rfl,l1,p1⟩:=p1;unfold Hv at p2;obtain⟨t2,rfl⟩:=p2;exact RcNeAt.list_str b2 t2 l1 (by lia)
 |.lst ds1,.tup ds2,p1,p2,hu=>by
  unfold Hv at p1;obtain⟨a1,its1,rfl,l1,p1⟩:=p1;unfold Hv at p2;obtain⟨a2,its2,rfl,l2,p2⟩:=p2;exact RcNeAt.list_tuple l1 l2 (by lia)
 |.lst ds1,.lst ds2,p1,p2,hu=>by
  unfold Hv at p1;obtain⟨a1,its1,rfl,l1,p1⟩:=p1;unfold Hv at p2;obtain⟨a2,its2,rfl,l2,p2⟩:=p2;unfold D.fm;have hdep:A.units+fI ds1+1+1<cLine:=by
   have e9:(.lst ds1:D).jW=fI ds1+1:=by first|rfl|(unfold D.jW;rfl)
   lia
  by_cases hn:ds1.length=ds2.length
  ·have q:=RcNeAt.lists (e:=fun j=>(ds1.getD j .aC).fm (ds2.getD j .aC)) l1 l2 (by simp[p1.length,p2.length,hn]) (by lia) fun j h1 h2=>
    vZ (ds1.getD j .aC) (ds2.getD j .aC) _ _ A.in1 (mD p1 h1).1 (mD p2 h2).1 (by
     have:=vM (mD p1 h1).2;show A.units+1+_+1<cLine;lia)
   have q2:=vL ds1 ds2;rw[hn,ux,beq_self_eq_true,tz] at q2;rw[Γ,p1.length,hn,q2] at q;exact q
  ·rw[A6 _ _ hn];exact RcNeAt.lists_lengths l1 l2 (by simp[p1.length,p2.length,hn]) (by lia)
 |d,.fE,p1,p2,hu=>by
  unfold Hv at p2;exact p2.elim
 |.fE,e,p1,p2,hu=>by
  unfold Hv at p1;exact p1.elim
end Dat
namespace L3
open PySem PySem.Spec PyProof.Rows L2
section
variable {X:Cx} {K:θ}
def zU(f:Int->Int->D):R3:=fun x y G Q=>match x,y with
 |.int i,.int j=>Q (f i j) G
 |_,_=>False
theorem jb{H:Hp}{i:Int}{v:V}(h:Hv K H (.int i) v):v=.int i:=by unfold Hv at h;exact h
theorem vK{H:Hp}{i:Bool}{v:V}(h:Hv K H (.bl i) v):v=.bl i:=by unfold Hv at h;exact h
theorem ip{H:Hp}{a:ζ}{v:V}(h:Hv K H (.obj a) v):v=.ref a:=by unfold Hv at h;exact h
theorem lQ{H:Hp}{ds:List D}{v:V}(h:Hv K H (.tup ds) v):∃a vs,v=.ref a/\cC K H a vs/\aF K H ds vs:=by unfold Hv at h;exact h
theorem vJ{H:Hp}{ds:List D}{v:V}(h:Hv K H (.dW ds) v):∃a vs,v=.ref a/\lD K H a vs/\aF K H ds vs:=by unfold Hv at h;exact h
theorem lL{H:Hp}{i:Int}:Hv K H (.int i) (.int i):=by simp[Hv]
theorem pB{H:Hp}{i:Bool}:Hv K H (.bl i) (.bl i):=by simp[Hv]
theorem vI{H:Hp}{a:ζ}:Hv K H (.obj a) (.ref a):=by simp[Hv]
theorem r9{H:Hp}{ds:List D}{a:ζ}{vs:List V}(h:cC K H a vs)(q:aF K H ds vs):Hv K H (.tup ds) (.ref a):=by
 unfold Hv;exact⟨a,vs,rfl,h,q⟩
theorem low_ints{f:Int->Int->D}{g:Int->Int->V}(hf:∀i j H,Hv K H (f i j) (g i j)):fR K (zU f) (rp g):=fun x y vx vy G H Q3 Q hx hy RG h k=>by
 cases x with
 |int i=>
  cases y with
  |int j=>
   rw[jb hx,jb hy];exact⟨i,j,rfl,rfl,k _ H _ G (hf i j H) (.refl H G) RG h⟩
  |_=>exact h.elim
 |_=>exact h.elim
abbrev yb:R3:=zU fun i j=>.int (i-j)
theorem EM:fR K yb (rp fun i j=>.int (i-j)):=low_ints fun _ _ _=>lL
abbrev Dp:R3:=zU fun i j=>.bl (decide (i≤j))
abbrev Dr:R3:=zU fun i j=>.bl (decide (j<i))
theorem Fn:fR K Dr (rp fun i j=>.bl (decide (j<i))):=low_ints fun _ _ _=>pB
abbrev HS:R3:=zU fun i j=>.bl (decide (j≤i))
theorem aam:fR K HS (rp fun i j=>.bl (decide (j≤i))):=low_ints fun _ _ _=>pB
def kG(i:Int):Prop:=i.natAbs<2^4000
theorem LO{i:Int}(h:kG i):i.natAbs.log2<4000:=by
 by_cases h0:i.natAbs=0
 ·rw[h0];decide
 ·exact (Nat.log2_lt h0).mpr h
theorem LN{i:Int}(h:kG i):jA i≤4000:=by
 unfold jA;split
 ·exact ba _
 ·exact LO h
theorem Uy{i j:Int}(h1:kG i)(h2:kG j):IntMulOk i j:=by
 unfold IntMulOk cS.Int.intTooBig;have b1:=LN h1;have b2:=LN h2;have:¬((jA i:Int)+(jA j:Int) > (bitsLine:Int)):=by
  have:(bitsLine:Int)=134217728:=by decide
  omega
 rw[decide_eq_false this];simp
theorem yW:fF X (binaryOp .FloorDiv) (rI (fun _ j=>0<j/\kG j) fun i j=>.int (i / j)):=CZ fun i j _ _ _ _ _ hc q=>by
 have h1:(0:Int)<j:=hc.1;exact floordiv_int (by omega) (by rw[Int.fdiv_eq_ediv_of_nonneg i (by omega)];exact q) (.inl (PyProof.noPylong_of_log2 (mj (LO hc.2) (by decide))))
theorem Hl:fF X (binaryOp .Mult) (rI (fun i j=>kG i/\kG j) fun i j=>.int (i*j)):=CZ fun _ _ _ _ _ _ _ hc q=>mul_int q (Uy hc.1 hc.2)
def yz(C:Int->Int->Prop)(f:Int->Int->D):R3:=fun x y G Q=>match x,y with
 |.int i,.int j=>C i j/\Q (f i j) G
 |_,_=>False
theorem A5{C:Int->Int->Prop}{f:Int->Int->D}{g:Int->Int->V}(hf:∀i j H,Hv K H (f i j) (g i j)):fR K (yz C f) (rI C g):=fun x y vx vy G H Q3 Q hx hy RG h k=>by
 cases x with
 |int i=>
  cases y with
  |int j=>
   rw[jb hx,jb hy];exact⟨i,j,rfl,rfl,h.1,k _ H _ G (hf i j H) (.refl H G) RG h.2⟩
  |_=>exact h.elim
 |_=>exact h.elim
abbrev uI:R3:=yz (fun _ j=>0<j/\kG j) fun i j=>.int (i / j)
theorem yV:fR K uI (rI (fun _ j=>0<j/\kG j) fun i j=>.int (i / j)):=A5 fun _ _ _=>lL
abbrev oJ:R3:=yz (fun _ j=>0<j) fun i j=>.int (i%j)
theorem r8:fR K oJ (rI (fun _ j=>0<j) fun i j=>.int (i%j)):=A5 fun _ _ _=>lL
abbrev Gd:R3:=yz FW fun i j=>.int (i^j.toNat)
theorem Ux:fR K Gd (rI FW fun i j=>.int (i^j.toNat)):=A5 fun _ _ _=>lL
theorem Uw{prog:Ω}{w:ah}{A:aE}{E:ε->η->Prop}{s:η}{t b:ζ}{ws:List ε}{Q:ε->η->Prop}(ht:iB s.heap t #[])(hb:iB s.heap b ws.toArray)(h1:Q (.ref b) s):
  ξ (model prog w) A (binaryOp .Add (.ref t) (.ref b)) Q E s:=by
 obtain⟨⟨cls,dd,data,sl⟩,ho,hc,n,hd⟩:=id ht;obtain⟨⟨cls2,dd2,data2,sl2⟩,ho2,hc2,n2,hd2⟩:=id hb;simp only at hc hd hc2 hd2;subst hc hd hc2 hd2;exact concat_meets ⟨_,ho,rfl⟩ ⟨_,ho2,rfl⟩ pP sZ kR kH (j9 _ _)
   (tuple_addW0 t b #[] ws.toArray n n2 dd dd2 sl sl2 rfl) ⟨ho,ho2,h1⟩
def CV(K:θ):R2:=fun x y H Q=>∃a b ys,x=.ref a/\y=.ref b/\cC K H a []/\cC K H b ys/\Q (.ref b) H
theorem Uv:fF X (binaryOp .Add) (CV X.K):=by
 intro pins s σ H x y v u Q I rx ry h;obtain⟨a,b,ys,rfl,rfl,ha,hb,q⟩:=h;cases rx;cases ry;obtain⟨its,r1,p1,_⟩:=I.tuple ha;obtain⟨its2,r2,p2,_⟩:=I.tuple hb;cases r1;exact Uw p1 p2 ⟨.ref b,H,I,rfl,q⟩
def gU:R3:=fun x y G Q=>match x,y with
 |.int i,.int j=>Q (.int (i+j)) G
 |.obj a,.obj b=>∃ds es,G a=some (.lst ds)/\G b=some (.lst es)/\ds.length+es.length≤au/\∀p G',eD G p (.lst (ds++es)) G'->Q (.obj p) G'
 |.tup ds,.tup es=>ds.length+es.length≤au/\Q (.tup (ds++es)) G
 |_,_=>False
abbrev Gg(K:θ):R2:=fun x y H Q=>rp (fun i j=>.int (i+j)) x y H Q∨(HU x y H Q∨(Gf K x y H Q∨CV K x y H Q))
theorem oo:fF X (binaryOp .Add) (Gg X.K):=Ma.or (L9.or (Hm.or Uv))
theorem om:fR K gU (Gg K):=fun x y vx vy G H Q3 Q hx hy RG h k=>by
 cases x with
 |int i=>
  cases y with
  |int j=>
   rw[jb hx,jb hy];exact .inl ⟨i,j,rfl,rfl,k _ H _ G lL (.refl H G) RG h⟩
  |_=>exact h.elim
 |obj a=>
  cases y with
  |obj b=>
   rw[ip hx,ip hy];obtain⟨ds,es,e1,e2,hz,q⟩:=h;obtain⟨vs,z1,z2⟩:=RG a _ e1;obtain⟨us,y1,y2⟩:=RG b _ e2;refine .inr (.inl ⟨a,b,vs,us,rfl,rfl,z1,y1,by rw[←z2.length,←y2.length];exact hz,fun p hp=>?_⟩);exact k _ _ (.obj p) _ vI (.jG hp) (RG.xB hp (z2.append y2)) (q p _ (.mk' (RG.free hp)))
  |_=>exact h.elim
 |tup ds=>
  cases y with
  |tup es=>
   obtain⟨a,vs,rfl,e1,e2⟩:=lQ hx;obtain⟨b,us,rfl,y1,y2⟩:=lQ hy;by_cases h0:vs=[]
   ·subst h0;have:ds=[]:=by
     have:=e2.length;exact mB (by simpa using this)
    subst this;exact .inr (.inr (.inr ⟨a,b,us,rfl,rfl,e1,y1,k _ H (.tup es) G (r9 y1 y2) (.refl H G) RG h.2⟩))
   ·refine .inr (.inr (.inl ⟨a,b,vs,us,rfl,rfl,e1,y1,h0,by rw[←e2.length,←y2.length];exact h.1,fun z=>?_,fun z p hp=>?_⟩))
    ·subst z;have:es=[]:=mB (by simpa using y2.length);subst this;refine k _ H (.tup ds) G (r9 e1 e2) (.refl H G) RG ?_;have:=h.2;rwa [bh] at this
    ·exact k _ _ (.tup (ds++es)) G (r9 (.of iO) ((e2.append y2).ext (.laid hp))) (.laid hp) (RG.laid hp) h.2
  |_=>exact h.elim
 |_=>exact h.elim
def lJ:R3:=fun x y G Q=>match x,y with
 |.int i,.int j=>(kG i/\kG j)/\Q (.int (i*j)) G
 |.obj a,.int k=>∃ds,G a=some (.lst ds)/\(-(2^63)≤k/\k<2^63)/\ds.length*k.toNat≤au/\∀p G',eD G p (.lst (bo k.toNat ds).flatten) G'->Q (.obj p) G'
 |_,_=>False
abbrev Ge:R2:=fun x y H Q=>rI (fun i j=>kG i/\kG j) (fun i j=>.int (i*j)) x y H Q∨HL x y H Q
theorem qI:fF X (binaryOp .Mult) Ge:=Hl.or Vy
theorem qH:fR K lJ Ge:=fun x y vx vy G H Q3 Q hx hy RG h k=>by
 cases x with
 |int i=>
  cases y with
  |int j=>
   rw[jb hx,jb hy];exact .inl ⟨i,j,rfl,rfl,h.1,k _ H _ G lL (.refl H G) RG h.2⟩
  |_=>exact h.elim
 |obj a=>
  cases y with
  |int j=>
   rw[ip hx,jb hy];obtain⟨ds,e1,hk,hz,q⟩:=h;obtain⟨vs,z1,z2⟩:=RG a _ e1;refine .inr ⟨a,j,vs,rfl,rfl,z1,hk.1,hk.2,by rw[←z2.length];exact hz,fun p hp=>?_⟩;exact k _ _ (.obj p) _ vI (.jG hp) (RG.xB hp (z2.rep _)) (q p _ (.mk' (RG.free hp)))
  |_=>exact h.elim
 |_=>exact h.elim
def By:D->Bool
 |.aC=>true
 |_=>false
def HR(neg:Bool):R3:=fun x y G Q=>match y with
 |.aC=>Q (.bl (if neg then !By x else By x)) G
 |_=>False
theorem Uu{H:Hp}{x:D}{v:V}(h:Hv K H x v):decide (v=.aC)=By x:=by
 cases x with
 |aC=>unfold Hv at h;subst h;rfl
 |bl b=>rw[vK h];rfl
 |int b=>rw[jb h];rfl
 |str b=>unfold Hv at h;subst h;rfl
 |obj b=>rw[ip h];rfl
 |tup ds=>obtain⟨a,vs,rfl,_⟩:=lQ h;rfl
 |dW ds=>obtain⟨a,vs,rfl,_⟩:=vJ h;rfl
 |dc a=>unfold Hv at h;rw[h.1];rfl
theorem aal:fR K (HR false) (fun x y H Q=>y=.aC/\Q (.bl (decide (x=.aC))) H):=fun x y vx vy G H Q3 Q hx hy RG h k=>by
 cases y with
 |aC=>
  refine⟨by unfold Hv at hy;exact hy,?_⟩;rw[Uu hx];exact k _ H _ G pB (.refl H G) RG h
 |_=>exact h.elim
def intsOf:List D->Option (List Int)
 |[]=>some []
 |.int i::r=>(intsOf r).map (i::·)
 |_::_=>none
theorem vH{H:Hp}:∀{ds:List D} {vs:List V} {ns:List Int},aF K H ds vs->intsOf ds=some ns->vs=ns.map V.int
 |[],vs,ns,h,e=>by
  cases e;exact h.hZ
 |d::ds,vs,ns,h,e=>by
  cases d with
  |int i=>
   obtain⟨v,r,rfl,z1,z2⟩:=h.inv;unfold intsOf at e;cases hm:intsOf ds with
   |none=>rw[hm] at e;cases e
   |some ms=>
    rw[hm] at e;cases e;rw[jb z1,vH z2 hm];rfl
  |_=>cases e
def rV:R3:=fun x y G Q=>match x,y with
 |.int i,.int j=>Q (.bl (decide (i<j))) G
 |.tup ds,.tup es=>∃ns ms,intsOf ds=some ns/\intsOf es=some ms/\Q (.bl (HT.lexLt ns ms)) G
 |_,_=>False
abbrev HN(K:θ):R2:=fun x y H Q=>rp (fun i j=>.bl (decide (i<j))) x y H Q∨HM K x y H Q
theorem A4(hu:X.A.units<cLine):fF X (compareOp .Lt) (HN X.K):=Na.or (VJ hu)
theorem Bq:fR K rV (HN K):=fun x y vx vy G H Q3 Q hx hy RG h k=>by
 cases x with
 |int i=>
  cases y with
  |int j=>
   rw[jb hx,jb hy];exact .inl ⟨i,j,rfl,rfl,k _ H _ G pB (.refl H G) RG h⟩
  |_=>exact h.elim
 |tup ds=>
  cases y with
  |tup es=>
   obtain⟨a,vs,rfl,e1,e2⟩:=lQ hx;obtain⟨b,us,rfl,y1,y2⟩:=lQ hy;obtain⟨ns,ms,z1,z2,q⟩:=h;have q1:=vH e2 z1;have q2:=vH y2 z2;subst q1 q2;exact .inr ⟨a,b,ns,ms,rfl,rfl,e1,y1,k _ H _ G pB (.refl H G) RG q⟩
  |_=>exact h.elim
 |_=>exact h.elim
def fG:R3:=fun x y G Q=>match x,y with
 |.tup ds,.int i=>∃d,kF ds i=some d/\Q d G
 |.dW ds,.int i=>∃d,kF ds i=some d/\Q d G
 |.obj p,.int i=>∃ds d,G p=some (.lst ds)/\kF ds i=some d/\Q d G
 |_,_=>False
theorem yU{H:Hp}{ds:List D}{vs:List V}{i:Int}{d:D}(h:aF K H ds vs)(e:kF ds i=some d):∃v,kF vs i=some v/\Hv K H d v:=by
 unfold kF at e ⊢;rw[←h.length];cases hx:ud ds.length i with
 |none=>rw[hx] at e;cases e
 |some j=>
  rw[hx] at e;exact h.get e
theorem aak:fR K fG (NQ K):=fun x y vx vy G H Q3 Q hx hy RG h k=>by
 cases y with
 |int i=>
  rw[jb hy];cases x with
  |tup ds=>
   obtain⟨d,e,q⟩:=h;obtain⟨a,vs,rfl,e1,e2⟩:=lQ hx;obtain⟨v,z1,z2⟩:=yU e2 e;exact .inr (.inl ⟨a,vs,i,v,rfl,rfl,e1,z1,k _ H d G z2 (.refl H G) RG q⟩)
  |dW ds=>
   obtain⟨d,e,q⟩:=h;obtain⟨a,vs,rfl,e1,e2⟩:=vJ hx;obtain⟨v,z1,z2⟩:=yU e2 e;exact .inl ⟨a,vs,i,v,rfl,rfl,e1.l,z1,k _ H d G z2 (.refl H G) RG q⟩
  |obj p=>
   obtain⟨ds,d,e0,e,q⟩:=h;rw[ip hx];obtain⟨vs,e1,e2⟩:=RG p _ e0;obtain⟨v,z1,z2⟩:=yU e2 e;exact .inl ⟨p,vs,i,v,rfl,rfl,.of e1,z1,k _ H d G z2 (.refl H G) RG q⟩
  |_=>exact h.elim
 |_=>cases x<;>exact h.elim
theorem aax{a b:ρ}{ta tb:aU}{pos:aO}(ha:bT X a ta)(hb:bT X b tb)(hs:rC b:=by intro _ _;rfl):bT X (.Subscript a b pos) (bx fG ta tb):=jS (Lz Ly ha hb hs) fun _ _ _ h=>Bb aak h
def rz(ta:cM)(tb:aU):aU:=fun τ G Q=>ta τ G fun ds G1=>tS (tb τ G1 fun y G2=>match y with
 |.int i=>∃d,kF ds i=some d/\Q d G2
 | _=>False) ds 64
theorem Ut{es:List ρ}{b:ρ}{ta:cM}{tb:aU}{pos pos':aO}(ha:jc X es ta)(hb:bT X b tb)(hs:rC b:=by intro _ _;rfl):bT X (.Subscript (.List es pos') b pos) (rz ta tb):=
 jS (Lz Ly (LX ha) hb hs) fun σ H Q ⟨τ,G,Q3,RS,RG,h,k⟩=>by
  refine⟨τ,G,_,RS,RG,h,fun vs H1 ds G1 h1 S1 R1 q1=>?_⟩;obtain⟨z,q1⟩:=Ba q1;refine⟨by rw[←h1.length];exact zp z,fun p hp=>?_⟩;refine⟨τ,G1,_,(RS.ext (S1.ext RG)).ext (.laid hp),R1.laid hp,q1,fun v2 H2 d2 G2 h2 S2 R2 q2=>?_⟩;have e2:H2 p=some (.lst vs):=S2.fr p _ iO (R1.free hp);cases d2 with
  |int i=>
   obtain⟨d,e,q⟩:=q2;obtain⟨v,z1,z2⟩:=yU ((h1.ext (.laid hp)).ext (S2.ext (R1.laid hp))) e;rw[jb h2];exact .inl ⟨p,vs,i,v,rfl,rfl,.of e2,z1,k _ H2 d G2 z2 ((S1.trans (.laid hp)).trans S2) R2 q⟩
  |_=>exact q2.elim
end
end L3
namespace L3
open PySem PySem.Spec PyProof.Rows L2
mutual
def iE:D->Option Dat.D
 |.aC=>some .aC
 |.bl b=>some (.bl b)
 |.int i=>some (.int i)
 |.str x=>some (.str x)
 |.tup ds=>match dP ds with
  |some xs=>some (.tup xs)
  |none=>none
 |.dW ds=>match dP ds with
  |some xs=>some (.lst xs)
  |none=>none
 |.obj _=>none
 |.dc _=>none
def dP:List D->Option (List Dat.D)
 |[]=>some []
 |d::ds=>match iE d with
  |some x=>match dP ds with
   |some xs=>some (x::xs)
   |none=>none
  |none=>none
end
def rR(G:Gp):D->Option Dat.D
 |.obj a=>match G a with
  |some (.lst ds)=>match dP ds with
   |some xs=>some (.lst xs)
   |none=>none
  |_=>none
 |d=>iE d
section
variable {X:Cx} {pins:List (ζ×aP)} {σ:L2.St} {H:Hp} {s:η}
mutual
theorem qG(I:Inv X pins σ H s):∀{d:D} {v:V} {u:ε} {x:Dat.D},Hv X.K H d v->RelV v u->iE d=some x->Dat.Hv s.heap x u
 |.aC,v,u,x,h,r,e=>by
  unfold Hv at h;subst h;cases e;unfold Dat.Hv;exact r
 |.bl b,v,u,x,h,r,e=>by
  unfold Hv at h;subst h;cases e;unfold Dat.Hv;exact r
 |.int b,v,u,x,h,r,e=>by
  unfold Hv at h;subst h;cases e;unfold Dat.Hv;exact r
 |.str b,v,u,x,h,r,e=>by
  unfold Hv at h;subst h;cases e;unfold Dat.Hv;exact r
 |.obj a,v,u,x,h,r,e=>by cases e
 |.dc a,v,u,x,h,r,e=>by cases e
 |.tup ds,v,u,x,h,r,e=>by
  obtain⟨a,vs,rfl,q1,q2⟩:=lQ h;cases r;unfold iE at e;cases hd:dP ds with
  |none=>rw[hd] at e;cases e
  |some xs=>
   rw[hd] at e;cases e;obtain⟨its,rv,p,_⟩:=I.tuple q1;unfold Dat.Hv;exact⟨a,its,rfl,p,Bp I q2 rv hd⟩
 |.dW ds,v,u,x,h,r,e=>by
  obtain⟨a,vs,rfl,q1,q2⟩:=vJ h;cases r;unfold iE at e;cases hd:dP ds with
  |none=>rw[hd] at e;cases e
  |some xs=>
   rw[hd] at e;cases e;obtain⟨its,rv,p,_⟩:=I.list q1.l;unfold Dat.Hv;exact⟨a,its,rfl,p.isList,Bp I q2 rv hd⟩
theorem Bp(I:Inv X pins σ H s):∀{ds:List D} {vs:List V} {us:List ε} {xs:List Dat.D},aF X.K H ds vs->bp vs us->dP ds=some xs->Dat.aF s.heap xs us
 |[],vs,us,xs,h,r,e=>by
  cases h.hZ;cases r;cases e;unfold Dat.aF;rfl
 |d::ds,vs,us,xs,h,r,e=>by
  obtain⟨v,vr,rfl,q1,q2⟩:=h.inv;unfold dP at e;cases hd:iE d with
  |none=>rw[hd] at e;cases e
  |some x=>
   rw[hd] at e;cases hr:dP ds with
   |none=>rw[hr] at e;cases e
   |some xr=>
    rw[hr] at e;cases e;cases r with
    |cons r1 r2=>
     unfold Dat.aF;exact⟨_,_,rfl,qG I q1 r1 hd,Bp I q2 r2 hr⟩
end
theorem Bo{G:Gp}(I:Inv X pins σ H s)(RG:aJ X.K G H){d:D}{v:V}{u:ε}{x:Dat.D}(h:Hv X.K H d v)(r:RelV v u)(e:rR G d=some x):Dat.Hv s.heap x u:=by
 cases d with
 |obj a=>
  rw[ip h] at r;cases r;unfold rR at e;cases hG:G a with
  |none=>simp[hG] at e
  |some o=>
   cases o with
   |lst ds=>
    simp only[hG] at e;cases hr:dP ds with
    |none=>rw[hr] at e;cases e
    |some xs=>
     rw[hr] at e;cases e;obtain⟨vs,e1,e2⟩:=RG a _ hG;obtain⟨its,rv,p,_⟩:=I.list (fM.of e1);unfold Dat.Hv;exact⟨a,its,rfl,p.isList,Bp I e2 rv hr⟩
   |ny=>simp[hG] at e
   |fE=>simp[hG] at e
   |gen R=>simp[hG] at e
 |aC=>exact qG I h r e
 |bl _=>exact qG I h r e
 |int _=>exact qG I h r e
 |str _=>exact qG I h r e
 |tup _=>exact qG I h r e
 |dW _=>exact qG I h r e
 |dc _=>exact qG I h r e
end
section
variable {X:Cx} {a b e:ρ} {ta tb:aU} {pos:aO}
def fQ(neg:Bool):R3:=fun x y G Q=>∃u v,rR G x=some u/\rR G y=some v/\u.jW≤50/\Q (.bl (if neg then !u.fm v else u.fm v)) G
def CD(X:Cx)(f:ε->ε->j5 ε)(r:R3):Prop:=
 ∀(pins:List (ζ×aP)) (s:η) (σ:L2.St) (H:Hp) (G:Gp) (x y:D) (vx vy:V) (u v:ε) (Q3:V3),Inv X pins σ H s->aJ X.K G H->Hv X.K H x vx->Hv X.K H y vy->RelV vx u->RelV vy v->r x y G Q3 ->
  ξ (model X.prog X.w) X.A (f u v) (EP X pins σ fun w H'=>∃d G',Hv X.K H' d w/\Step H G H' G'/\aJ X.K G' H'/\Q3 d G') X.xe s
theorem eqR(hu:X.A.units+64<cLine):CD X (compareOp .Eq) (fQ false):=by
 intro pins s σ H G x y vx vy u v Q3 I RG hx hy rx ry ⟨p,q,e1,e2,hd,h⟩;have:=Dat.Oi p q u v X.A (Bo I RG hx rx e1) (Bo I RG hy ry e2) (by omega);exact this _ _ _ _ ⟨.bl (p.fm q),H,I,rfl,.bl (p.fm q),G,pB,.refl H G,RG,h⟩
theorem neR(hu:X.A.units+64<cLine):CD X (compareOp .NotEq) (fQ true):=by
 intro pins s σ H G x y vx vy u v Q3 I RG hx hy rx ry ⟨p,q,e1,e2,hd,h⟩;have:=Dat.Oh p q u v X.A (Bo I RG hx rx e1) (Bo I RG hy ry e2) (by omega);exact this _ _ _ _ ⟨.bl (!p.fm q),H,I,rfl,.bl (!p.fm q),G,pB,.refl H G,RG,h⟩
def uN(K:θ)(r:R3):R2:=fun vx vy H Q=>∃x y G Q3,aJ K G H/\Hv K H x vx/\Hv K H y vy/\r x y G Q3/\∀v H' d G',Hv K H' d v->Step H G H' G'->aJ K G' H'->Q3 d G'->Q v H'
theorem CD.op{f:ε->ε->j5 ε}{r:R3}(h:CD X f r):fF X f (uN X.K r):=by
 intro pins s σ H vx vy u v Q I rx ry ⟨x,y,G,Q3,RG,hx,hy,q,k⟩;refine bJ (h pins s σ H G x y vx vy u v Q3 I RG hx hy rx ry q) fun w s' ⟨v',H',I',r',d,G',z1,z2,z3,z4⟩=>⟨v',H',I',r',k v' H' d G' z1 z2 z3 z4⟩
theorem LM{K:θ}{r:R3}:fR K r (uN K r):=fun x y vx vy G H Q3 Q hx hy RG h k=>⟨x,y,G,Q3,RG,hx,hy,h,k⟩
theorem nQ(hu:X.A.units+64<cLine):fF X (compareOp .Eq) (uN X.K (fQ false)):=(eqR hu).op
theorem xw(hu:X.A.units+64<cLine):fF X (compareOp .NotEq) (uN X.K (fQ true)):=(neR hu).op
theorem nR{K:θ}:fR K (fQ false) (uN K (fQ false)):=LM
theorem xF{K:θ}:fR K (fQ true) (uN K (fQ true)):=LM
abbrev xQ:=S3->Gp->(Option Int->Gp->Prop)->Prop
def aaj(K:θ)(t:xQ):TO:=fun σ H Q=>∃τ G Q3,dB K τ σ H/\aJ K G H/\t τ G Q3/\∀o H' G',Step H G H' G'->aJ K G' H'->Q3 o G'->Q o H'
abbrev Dd(X:Cx)(e:Option ρ)(t:xQ):Prop:=PO X e (aaj X.K t)
theorem LL{o:Option ρ}{t t':TO}(h:PO X o t)(f:∀σ H Q,t' σ H Q->t σ H Q):PO X o t':=fun pins s σ H Q I q=>h pins s σ H Q I (f σ H Q q)
def lR:xQ:=fun _ G Q=>Q none G
def kl(t:aU):xQ:=fun τ G Q=>t τ G fun x G1=>match x with
 |.int i=>Q (some i) G1
 |_=>False
theorem Us:Dd X none lR:=LL VN fun σ H Q ⟨τ,G,Q3,RS,RG,h,k⟩=>k none H G (.refl H G) RG h
theorem Ur(h:bT X e ta):Dd X (some e) (kl ta):=LL (VM h) fun σ H Q ⟨τ,G,Q3,RS,RG,h,k⟩=>
 ⟨τ,G,_,RS,RG,h,fun v H1 d G1 h1 S1 R1 q1=>by
  cases d with
  |int i=>exact⟨i,jb h1,k (some i) H1 G1 S1 R1 q1⟩
  |_=>exact q1.elim⟩
def jw(ds:List D)(lo hi:Option Int):List D:=(ds.drop (HT.cq ds.length 0 lo)).take (HT.cq ds.length ds.length hi-HT.cq ds.length 0 lo)
def sT(ta:aU)(tl th:xQ):aU:=fun τ G Q=>ta τ G fun x G1=>tl τ G1 fun lo G2=>th τ G2 fun hi G3=>match x with
 |.tup ds=>Q (.tup (jw ds lo hi)) G3
 |.dW ds=>∀p G4,eD G3 p (.lst (jw ds lo hi)) G4->Q (.obj p) G4
 |.obj a=>∃ds,G3 a=some (.lst ds)/\∀p G4,eD G3 p (.lst (jw ds lo hi)) G4->Q (.obj p) G4
 |_=>False
theorem EK{K:θ}{H:Hp}{ds:List D}{vs:List V}(h:aF K H ds vs)(lo hi:Option Int):aF K H (jw ds lo hi) (uj vs lo hi):=by
 unfold jw uj;rw[h.length];exact (h.drop _).take _
theorem Uq{prog:Ω}{w:ah}{A:aE}{E:ε->η->Prop}{s:η}{t sl:ζ}{items:Array ε}{vl vu:ε}{lo hi:Option Int}{Q:ε->η->Prop}(ht:iB s.heap t items)(hs:s.heap.IsSliceOf sl vl vu .none)(pl:mr vl lo)(pu:mr vu hi)
  (hw:HT.cq items.size 0 lo=0/\HT.cq items.size items.size hi=items.size) (h:Q (.ref t) s):ξ (model prog w) A (getItem (.ref t) (.ref sl)) Q E s:=by
 obtain⟨os,hos,hcs,hds⟩:=id hs;have hTs:s.TypeIs (.ref sl) "slice":=⟨os,hos,hcs⟩;unfold getItem
 try with_reducible refine aZ ?_
 first|refine δ (μ ?_)|skip
 refine δ (wpAny_sequenceKey ht.typeIs (by decide) ?_);refine δ (bS (name:=ee "__getitem__") ht.typeIs cP
  (cA cP ht.typeIs entry_tuple_getitem ?_ (args_tuple_getitem _ _)))
 show ξ _ _ (nX (.ref t) >>= _) _ _ s;refine δ (tupleItemsOf_ ht ?_);refine δ (j4 hTs ?_);rw[if_pos (by decide)];refine δ (HT.pg hs pl pu ?_);have hyes:(((HT.cq items.size 0 lo:Nat):Int)==0&&(1:Int)==1&&(HT.cq items.size items.size hi-HT.cq items.size 0 lo)==items.size)=true:=by
  rw[hw.1,hw.2];simp
 show ξ _ _ (if (((HT.cq items.size 0 lo:Nat):Int)==0&&(1:Int)==1&&(HT.cq items.size items.size hi-HT.cq items.size 0 lo)==items.size)=true then _ else _) _ _ s;rw[if_pos hyes];unfold cS.Tuple.tupleIsExact;refine δ (δ (j4 ht.typeIs (μ ?_)));rw[if_pos (by decide)];exact δ (g7 (μ ⟨_,rfl,μ h⟩))
def M7(K:θ):V->Option Int->Option Int->Hp->VK->Prop:=fun x lo hi H Q=>∃a xs,x=.ref a/\cC K H a xs ∧
 (HT.cq xs.length 0 lo=0/\HT.cq xs.length xs.length hi=xs.length)/\Q (.ref a) H
theorem Hj:xS X (M7 X.K):=by
 intro pins s σ H x v vl vu lo hi sl Q I rx hs pl pu h;obtain⟨a,xs,rfl,hx,hw,q⟩:=h;cases rx;obtain⟨its,r,ht,hz⟩:=I.tuple hx;have hlen:its.toArray.size=xs.length:=by rw[Γ];exact r.length.symm
 refine⟨"tuple",_,cP.lookup,ht.typeIs,?_⟩;exact Uq ht hs pl pu (by rw[hlen];exact hw) ⟨.ref a,H,I,rfl,q⟩
theorem aav{lo hi:Option ρ}{tl th:xQ}{p2:aO}(ha:bT X a ta)(hl:Dd X lo tl)(hh:Dd X hi th):bT X (.Subscript a (.Slice lo hi none p2) pos) (sT ta tl th):=
 jS (VL (HK.or (Hj.or VE)) ha hl hh) fun σ H Q ⟨τ,G,Q3,RS,RG,h,k⟩=>by
  refine⟨τ,G,_,RS,RG,h,fun v1 H1 d1 G1 h1 S1 R1 q1=>?_⟩;have RS1:=RS.ext (S1.ext RG);refine⟨τ,G1,_,RS1,R1,q1,fun l H2 G2 S2 R2 q2=>?_⟩;have RS2:=RS1.ext (S2.ext R1);refine⟨τ,G2,_,RS2,R2,q2,fun u H3 G3 S3 R3 q3=>?_⟩;have S13:Step H G H3 G3:=(S1.trans S2).trans S3;have hv:=(h1.ext (S2.ext R1)).ext (S3.ext R2);cases d1 with
  |tup ds=>
   obtain⟨a',vs,rfl,e1,e2⟩:=lQ hv;by_cases hw:HT.cq vs.length 0 l=0/\HT.cq vs.length vs.length u=vs.length
   ·refine .inr (.inl ⟨a',vs,rfl,e1,hw,k _ H3 (.tup (jw ds l u)) G3 (r9 e1 ?_) S13 R3 q3⟩);have:jw ds l u=ds:=by
     unfold jw;rw[e2.length,hw.1,hw.2];simp[←e2.length]
    rw[this];exact e2
   ·refine .inl ⟨a',vs,rfl,e1,hw,fun p hp=>?_⟩;exact k _ _ (.tup (jw ds l u)) G3 (r9 (.of iO) ((EK e2 l u).ext (.laid hp))) (S13.trans (.laid hp)) (R3.laid hp) q3
  |dW ds=>
   obtain⟨a',vs,rfl,e1,e2⟩:=vJ hv;refine .inr (.inr ⟨a',vs,rfl,e1.l,fun p hp=>?_⟩);exact k _ _ (.obj p) _ vI (S13.trans (.jG hp)) (R3.xB hp (EK e2 l u)) (q3 p _ (.mk' (R3.free hp)))
  |obj a'=>
   rw[ip hv];obtain⟨ds,e0,q3⟩:=q3;obtain⟨vs,e1,e2⟩:=R3 a' _ e0;refine .inr (.inr ⟨a',vs,rfl,.of e1,fun p hp=>?_⟩);exact k _ _ (.obj p) _ vI (S13.trans (.jG hp)) (R3.xB hp (EK e2 l u)) (q3 p _ (.mk' (R3.free hp)))
  |_=>exact q3.elim
end
end L3
namespace L3
open PySem PySem.Spec PyProof.Rows L2
abbrev C3:=List D->Gp->V3->Prop
def eH(r:C3)(t:cM):aU:=fun τ G Q=>t τ G fun ds G1=>r ds G1 Q
def sF(K:θ)(r:C3)(r2:List V->Hp->VK->Prop):Prop:=∀ds vs G H Q3 Q,aF K H ds vs->aJ K G H->r ds G Q3->(∀v H' d G',Hv K H' d v->Step H G H' G'->aJ K G' H'->Q3 d G'->Q v H')->r2 vs H Q
section
variable {X:Cx} {K:θ} {e:ρ} {es:List ρ} {t:cM} {ta:aU} {pos p:aO}
theorem Up{r:C3}{r2:List V->Hp->VK->Prop}(L:sF K r r2){σ:L2.St}{H:Hp}{Q:VK}(h:low K (eH r t) σ H Q):CL r2 (vW K t) σ H Q:=by
 obtain⟨τ,G,Q3,RS,RG,h,k⟩:=h;refine⟨τ,G,_,RS,RG,h,fun vs H1 ds G1 h1 S1 R1 q1=>?_⟩;exact L _ _ _ _ _ _ h1 R1 q1 fun v H' d G' z1 z2 z3 z4=>k v H' d G' z1 (S1.trans z2) z3 z4
theorem v7{r:C3}{r2:List V->Hp->VK->Prop}(L:sF X.K r r2)(h:PE X e (CL r2 (vW X.K t))):bT X e (eH r t):=jS h fun _ _ _ h=>Up L h
theorem sx{H:Hp}{d:D}{vs:List V}(h:aF K H [d] vs):∃v,vs=[v]/\Hv K H d v:=by
 obtain⟨v,r,rfl,z1,z2⟩:=h.inv;cases z2.hZ;exact⟨v,rfl,z1⟩
theorem aaq{H:Hp}{d d':D}{vs:List V}(h:aF K H [d,d'] vs):∃v v',vs=[v,v']/\Hv K H d v/\Hv K H d' v':=by
 obtain⟨v,r,rfl,z1,z2⟩:=h.inv;obtain⟨v',rfl,z3⟩:=sx z2;exact⟨v,v',rfl,z1,z3⟩
def oj:C3:=fun ds G Q=>match ds with
 |[.obj a]=>∃xs,G a=some (.lst xs)/\Q (.int xs.length) G
 |[.tup xs]=>Q (.int xs.length) G
 |[.dW xs]=>Q (.int xs.length) G
 |_=>False
theorem Uo:sF K oj (fun xs H Q=>∃p ys,xs=[.ref p]/\(fM K H p ys∨cC K H p ys)/\Q (.int ys.length) H):=fun ds vs G H Q3 Q h RG q k=>by
 rcases ds with _|⟨d,_|⟨d2,ds⟩⟩
 ·exact q.elim
 ·obtain⟨v,rfl,hv⟩:=sx h;cases d with
  |obj a=>
   obtain⟨xs,e,q⟩:=q;obtain⟨us,e1,e2⟩:=RG a _ e;rw[ip hv];exact⟨a,us,rfl,.inl (.of e1),by rw[←e2.length];exact k _ H _ G lL (.refl H G) RG q⟩
  |tup xs=>
   obtain⟨a,us,rfl,e1,e2⟩:=lQ hv;exact⟨a,us,rfl,.inr e1,by rw[←e2.length];exact k _ H _ G lL (.refl H G) RG q⟩
  |dW xs=>
   obtain⟨a,us,rfl,e1,e2⟩:=vJ hv;exact⟨a,us,rfl,.inl e1.l,by rw[←e2.length];exact k _ H _ G lL (.refl H G) RG q⟩
  |_=>exact q.elim
 ·cases d<;>exact q.elim
theorem Um(hu:X.A.units+64<cLine)(hm:X.mg "len" = none)(ha:jc X (e::es) t)(hg:Gl X "len":=by rfl)(he:notStar e=true:=by rfl)(hpl:es.all notStar=true:=by rfl):
  bT X (.Call (.Name "len" p) (e::es) [] pos) (eH oj t):=v7 Uo (qJ VD hg hm PySem.boot_len ha (he:=eB he) (hpl:=kD hpl))
def Bn:C3:=fun ds G Q=>match ds with
 |[.bl b]=>Q (.int (if b then 1 else 0)) G
 |[.int i]=>Q (.int i) G
 |_=>False
theorem Ul:sF K Bn (fun xs H Q=>(∃i,xs=[.int i]/\Q (.int i) H)∨∃k,xs=[.bl k]/\Q (.int (if k then 1 else 0)) H):=fun ds vs G H Q3 Q h RG q k=>by
 rcases ds with _|⟨d,_|⟨d2,ds⟩⟩
 ·exact q.elim
 ·obtain⟨v,rfl,hv⟩:=sx h;cases d with
  |bl b=>
   rw[vK hv];exact .inr ⟨b,rfl,k _ H _ G lL (.refl H G) RG q⟩
  |int b=>
   rw[jb hv];exact .inl ⟨b,rfl,k _ H _ G lL (.refl H G) RG q⟩
  |_=>exact q.elim
 ·cases d<;>exact q.elim
theorem Uk(hu:X.A.units+64<cLine)(hm:X.mg "int" = none)(ha:jc X (e::es) t)(hg:Gl X "int":=by rfl)(he:notStar e=true:=by rfl)(hpl:es.all notStar=true:=by rfl):
  bT X (.Call (.Name "int" p) (e::es) [] pos) (eH Bn t):=v7 Ul (EU WD hg hm rfl ha (he:=eB he) (hpl:=kD hpl))
def EJ:C3:=fun ds G Q=>match ds with
 |[.int i,.int j]=>Q (.int (if j > i then j else i)) G
 |_=>False
theorem Uj{f:Int->Int->Int}:sF K (fun ds G Q=>match ds with
 |[.int i,.int j]=>Q (.int (f i j)) G
 | _=>False) (fun xs H Q=>∃i j,xs=[.int i,.int j]/\Q (.int (f i j)) H):=fun ds vs G H Q3 Q h RG q k=>by
 rcases ds with _|⟨d,_|⟨d2,_|⟨d3,ds⟩⟩⟩
 ·exact q.elim
 ·cases d<;>exact q.elim
 ·obtain⟨v,v',rfl,h1,h2⟩:=aaq h;cases d with
  |int i=>
   cases d2 with
   |int j=>
    rw[jb h1,jb h2];exact⟨i,j,rfl,k _ H _ G lL (.refl H G) RG q⟩
   |_=>exact q.elim
  |_=>exact q.elim
 ·cases d with
  |int i=>cases d2<;>exact q.elim
  |_=>exact q.elim
theorem Ui(hu:X.A.units+64<cLine)(hm:X.mg "max" = none)(ha:jc X (e::es) t)(hc:X.calm=true:=by rfl)(hg:Gl X "max":=by rfl)(he:notStar e=true:=by rfl)(hpl:es.all notStar=true:=by rfl):
  bT X (.Call (.Name "max" p) (e::es) [] pos) (eH EJ t):=v7 (Uj (f:=fun i j=>if j > i then j else i)) (qJ (WE hc) hg hm rfl ha (he:=eB he) (hpl:=kD hpl))
def t8:C3:=fun ds G Q=>match ds with
 |[.obj a]=>∃xs,G a=some (.lst xs)/\Q (.tup xs) G
 |[.tup xs]=>Q (.tup xs) G
 |[.dW xs]=>Q (.tup xs) G
 |_=>False
theorem UT:sF K t8 (fun xs H Q=>∃p ys,xs=[.ref p]/\((fM K H p ys/\∀l,H l=none->Q (.ref l) (upd H l (.tup ys)))∨(cC K H p ys/\Q (.ref p) H))):=fun ds vs G H Q3 Q h RG q k=>by
 rcases ds with _|⟨d,_|⟨d2,ds⟩⟩
 ·exact q.elim
 ·obtain⟨v,rfl,hv⟩:=sx h;cases d with
  |obj a=>
   obtain⟨xs,e,q⟩:=q;obtain⟨us,e1,e2⟩:=RG a _ e;rw[ip hv];exact⟨a,us,rfl,.inl ⟨.of e1,fun l hl=>k _ _ (.tup xs) G (r9 (.of iO) (e2.ext (.laid hl))) (.laid hl) (RG.laid hl) q⟩⟩
  |tup xs=>
   obtain⟨a,us,rfl,e1,e2⟩:=lQ hv;exact⟨a,us,rfl,.inr ⟨e1,k _ H _ G (r9 e1 e2) (.refl H G) RG q⟩⟩
  |dW xs=>
   obtain⟨a,us,rfl,e1,e2⟩:=vJ hv;exact⟨a,us,rfl,.inl ⟨e1.l,fun l hl=>k _ _ (.tup xs) G (r9 (.of iO) (e2.ext (.laid hl))) (.laid hl) (RG.laid hl) q⟩⟩
  |_=>exact q.elim
 ·cases d<;>exact q.elim
theorem US(hu:X.A.units+64<cLine)(hm:X.mg "tuple" = none)(ha:jc X (e::es) t)(hg:Gl X "tuple":=by rfl)(he:notStar e=true:=by rfl)(hpl:es.all notStar=true:=by rfl):
  bT X (.Call (.Name "tuple" p) (e::es) [] pos) (eH t8 t):=v7 UT (EU VC hg hm rfl ha (he:=eB he) (hpl:=kD hpl))
def eM(r:D->List D->Gp->V3->Prop)(to:aU)(t:cM):aU:=fun τ G Q=>to τ G fun x G1=>(∃a xs,x=.obj a/\G1 a=some (.lst xs))/\t τ G1 fun ds G2=>r x ds G2 Q
def v8(K:θ)(r:D->List D->Gp->V3->Prop)(r2:V->List V->Hp->VK->Prop):Prop:=∀x vx ds vs G H Q3 Q,Hv K H x vx->aF K H ds vs->aJ K G H->r x ds G Q3->(∀v H' d G',Hv K H' d v->Step H G H' G'->aJ K G' H'->Q3 d G'->Q v H')->r2 vx vs H Q
theorem UR{r:D->List D->Gp->V3->Prop}{r2:V->List V->Hp->VK->Prop}{to:aU}(L:v8 K r r2){σ:L2.St}{H:Hp}{Q:VK}(h:low K (eM r to t) σ H Q):HJ K "list" r2 (low K to) (vW K t) σ H Q:=by
 obtain⟨τ,G,Q3,RS,RG,h,k⟩:=h;refine⟨τ,G,_,RS,RG,h,fun v1 H1 d1 G1 h1 S1 R1 q1=>?_⟩;obtain⟨⟨a,xs,rfl,e1⟩,q1⟩:=q1;obtain⟨us,e2,e3⟩:=R1 a _ e1;refine⟨?_,τ,G1,_,RS.ext (S1.ext RG),R1,q1,fun vs H2 ds G2 h2 S2 R2 q2=>?_⟩
 ·rw[ip h1];exact .inl ⟨rfl,us,.of e2⟩
 ·exact L _ _ _ _ _ _ _ _ (h1.ext (S2.ext R1)) h2 R2 q2 fun v H' d G' z1 z2 z3 z4=>k v H' d G' z1 ((S1.trans S2).trans z2) z3 z4
def Bm:D->List D->Gp->V3->Prop:=fun x ds G Q=>match x,ds with
 |.obj a,[d]=>∃xs,G a=some (.lst xs)/\xs.length<au/\Q .aC (dG G a (.lst (xs++[d])))
 |_,_=>False
theorem EH:v8 K Bm zW:=fun x vx ds vs G H Q3 Q hx hs RG q k=>by
 rcases ds with _|⟨d,_|⟨d2,ds⟩⟩
 ·cases x<;>exact q.elim
 ·cases x with
  |obj a=>
   obtain⟨xs,e1,hz,q⟩:=q;obtain⟨us,e2,e3⟩:=RG a _ e1;obtain⟨v,rfl,hv⟩:=sx hs;rw[ip hx];refine⟨a,us,v,rfl,rfl,e2,by rw[←e3.length];exact hz,?_⟩;exact k _ _ .aC _ (by simp[Hv]) (.wrote e1) (RG.CJ e2 (e3.append (.cons hv .nil))) q
  |_=>exact q.elim
 ·cases x<;>exact q.elim
theorem UQ{r:D->List D->Gp->V3->Prop}{r2:V->List V->Hp->VK->Prop}{to:aU}(L:v8 X.K r r2)(h:PE X e (HJ X.K "list" r2 (low X.K to) (vW X.K t))):bT X e (eM r to t):=jS h fun _ _ _ z=>UR L z
def LK:D->List D->Gp->V3->Prop:=fun x ds G Q=>match x,ds with
 |.obj a,[.int i]=>∃xs k d,G a=some (.lst xs)/\(-(2^63)≤i/\i<2^63)/\seqIndex? i xs.length=some k/\xs[k]?=some d/\Q d (dG G a (.lst (xs.eraseIdx k)))
 |_,_=>False
theorem UP:v8 K LK CT:=fun x vx ds vs G H Q3 Q hx hs RG q k=>by
 rcases ds with _|⟨d,_|⟨d2,ds⟩⟩
 ·cases x<;>exact q.elim
 ·cases x with
  |obj a=>
   cases d with
   |int i=>
    obtain⟨xs,j,y,e1,hb,hk,hy,q⟩:=q;obtain⟨us,e2,e3⟩:=RG a _ e1;obtain⟨v,rfl,hv⟩:=sx hs;obtain⟨w,e4,e5⟩:=e3.get hy;rw[ip hx,jb hv];refine⟨a,us,i,j,w,rfl,rfl,e2,hb.1,hb.2,by rw[←e3.length];exact hk,e4,?_⟩;exact k _ _ y _ (e5.ext (.wrote e2)) (.wrote e1) (RG.CJ e2 (e3.erase j)) q
   |_=>exact q.elim
  |_=>exact q.elim
 ·cases x with
  |obj a=>cases d<;>exact q.elim
  |_=>exact q.elim
def iV(T:String)(G:Gp):D->Option Bool
 |.aC=>some false
 |.bl _=>some (T=="bool" || T=="int")
 |.int _=>some (T=="int")
 |.str _=>some (T=="str")
 |.tup _=>some (T=="tuple")
 |.dW _=>some (T=="list")
 |.dc _=>some (T=="dict")
 |.obj a=>match G a with
  |some (.lst _)=>some (T=="list")
  |some .ny=>some (T=="list")
  |some .fE=>some (T=="dict")
  |some (.gen _)=>none
  |none=>none
def qo(T:String)(ta:aU):aU:=fun τ G Q=>ta τ G fun x G1=>match iV T G1 x with
 |some b=>Q (.bl b) G1
 |none=>False
end
end L3
namespace MO
open PySem PySem.W PyProof.Rows
structure Ord(n:Nat)(lt:Nat->Nat->Bool):Prop where
 Ac:∀a b,a<n->b<n->lt a b=true->lt b a=false
 u9:∀a b c,a<n->b<n->c<n->lt b a=false->lt c b=false->lt c a=false
abbrev g(p:Array Nat)(i:Nat):Nat:=p.getD i 0
structure Va(n:Nat)(p:Array Nat):Prop where
 perm:p.toList.Perm (ao n)
section
variable {n:Nat} {lt:Nat->Nat->Bool} {cmp:Nat->Nat->(Bool->η->Prop)->η->Prop} {s:η}
theorem Va.size{p:Array Nat}(v:Va n p):p.size=n:=by
 have:=v.perm.length_eq;simpa using this
theorem Va.get{p:Array Nat}(v:Va n p){i:Nat}(hi:i<n):p[i]?=some (g p i):=by
 have h:=v.size;simp[g,mz,h,hi]
theorem Va.inr{p:Array Nat}(v:Va n p){i:Nat}(hi:i<n):g p i<n:=by
 have h:=v.get hi;have hm:g p i∈p.toList:=bE (by rw[bj];exact h);have:=v.perm.mem_iff.mp hm;simpa using this
theorem Ord.refl(O:Ord n lt){a:Nat}(ha:a<n):lt a a=false:=by
 cases h:lt a a with
 |false=>rfl
 |true=>
  have:=O.Ac a a ha ha h;rw[h] at this;exact this
def So(lt:Nat->Nat->Bool)(p:Array Nat)(k:Nat):Prop:=∀i j,i≤j->j<k->lt (g p j) (g p i)=false
def Ni(lt:Nat->Nat->Bool)(p:Array Nat)(k:Nat):Prop:=∀i j,i≤j->j<k->lt (g p i) (g p j)=false
def Dj(lt:Nat->Nat->Bool)(p:Array Nat)(lo hi:Nat):Prop:=∀i j,lo≤i->i<hi->lo≤j->j<hi->lt (g p i) (g p j)=false
theorem So.one(O:Ord n lt){p:Array Nat}(v:Va n p)(hn:1≤n):So lt p 1:=fun i j h1 h2=>by
 have e1:i=0:=by lia
 have e2:j=0:=by lia
 rw[e1,e2];exact O.refl (v.inr (by lia))
theorem So.next(O:Ord n lt){p:Array Nat}(v:Va n p){a:Nat}(h1:1≤a)(ha:a<n)(S:So lt p a)(h:lt (g p a) (g p (a-1))=false):So lt p (a+1):=fun i j hij hj=>by
 by_cases hja:j<a
 ·exact S i j hij hja
 ·have e:j=a:=by lia
  subst e;by_cases hij':i=j
  ·rw[hij'];exact O.refl (v.inr ha)
  ·exact O.u9 (g p i) (g p (j-1)) (g p j) (v.inr (by lia)) (v.inr (by lia)) (v.inr ha) (S i (j-1) (by lia) (by lia)) h
theorem Ni.next(O:Ord n lt){p:Array Nat}(v:Va n p){a:Nat}(h1:1≤a)(ha:a<n)(S:Ni lt p a)(h:lt (g p (a-1)) (g p a)=false):Ni lt p (a+1):=fun i j hij hj=>by
 by_cases hja:j<a
 ·exact S i j hij hja
 ·have e:j=a:=by lia
  subst e;by_cases hij':i=j
  ·rw[hij'];exact O.refl (v.inr ha)
  ·exact O.u9 (g p j) (g p (j-1)) (g p i) (v.inr ha) (v.inr (by lia)) (v.inr (by lia)) h (S i (j-1) (by lia) (by lia))
theorem vG{p:Array Nat}(v:Va n p)(i j:Nat):Va n (kas_rev p i j):=⟨(mirror_perm p i j _).toList.trans v.perm⟩
theorem Bl{p:Array Nat}(v:Va n p){lo hi k:Nat}(hh:hi≤n)(hk:k<n):g (kas_rev p lo hi) k=if lo≤k/\k<hi then g p (lo+hi-1-k) else g p k:=by
 have h1:=getElem?_mirror_all (xs:=p) (i:=lo) (j:=hi) (by rw[v.size];exact hh) k;have h2:=(vG v lo hi).get hk;have h3:(kas_rev p lo hi)[k]?=_:=h1;rw[h2] at h3;by_cases hc:lo≤k/\k<hi
 ·rw[if_pos hc] at h3 ⊢;rw[v.get (by lia)] at h3;exact aD h3
 ·rw[if_neg hc] at h3 ⊢;rw[v.get hk] at h3;exact aD h3
theorem EG{p:Array Nat}(v:Va n p){lo hi k:Nat}(hh:hi≤k)(hk:k≤n)(S:Ni lt p k)(e:Dj lt p lo hi):Ni lt (kas_rev p lo hi) k:=fun i j hij hj=>by
 rw[Bl v (by lia) (show i<n by lia),Bl v (by lia) (show j<n by lia)];by_cases hi':lo≤i/\i<hi
 ·rw[if_pos hi'];by_cases hj':lo≤j/\j<hi
  ·rw[if_pos hj'];exact e _ _ (by lia) (by lia) (by lia) (by lia)
  ·rw[if_neg hj'];exact S _ _ (by lia) hj
 ·rw[if_neg hi'];by_cases hj':lo≤j/\j<hi
  ·rw[if_pos hj'];exact S _ _ (by lia) (by lia)
  ·rw[if_neg hj'];exact S _ _ hij hj
theorem UO{p:Array Nat}(v:Va n p){k:Nat}(hk:k≤n)(S:Ni lt p k):So lt (kas_rev p 0 k) k:=fun i j hij hj=>by
 rw[Bl v hk (show i<n by lia),Bl v hk (show j<n by lia),if_pos (by lia),if_pos (by lia)];exact S _ _ (by lia) (by lia)
variable (O:Ord n lt) (hc:∀i j,i<n->j<n->∀(C:Bool->η->Prop) (s:η),C (lt i j) s->cmp i j C s)
include O hc
theorem EF{p:Array Nat}(v:Va n p){G:Nat->η->Prop}:∀(f a:Nat),1≤a->a+f≤n->So lt p a->(∀m,a≤m->m≤a+f->So lt p m->(m=a+f∨lt (g p m) (g p (m-1))=true)->G m s)->(kas_asc p f a).kasWp cmp G s
 |0,a,_,_,S,h=>h a (Θ _) (by lia) S (.inl (by lia))
 |f+1,a,h1,h2,S,h=>by
  show cmp _ _ _ s;refine hc _ _ (v.inr (by lia)) (v.inr (by lia)) _ s ?_;cases hb:lt (g p a) (g p (a-1)) with
  |true=>
   ((try dsimp only);rw[if_pos rfl])
   exact h a (Θ _) (by lia) S (.inr hb)
  |false=>
   ((try dsimp only);rw[if_neg ar])
   exact EF v f (a+1) (by lia) (by lia) (S.next O v h1 (by lia) hb) fun m q1 q2 q3 q4=>h m (by lia) (by lia) q3 (by
    rcases q4 with q4|q4
    ·exact .inl (by lia)
    ·exact .inr q4)
theorem Bk{G:Array Nat×Nat×Nat->η->Prop}:∀(f:Nat) (p:Array Nat) (a q:Nat),Va n p->q+1≤a->a+f≤n->Ni lt p a->Dj lt p (a-(q+1)) a ->
  (∀p' m q',Va n p'->a≤m->m≤a+f->q'+1≤m->Ni lt p' m->Dj lt p' (m-(q'+1)) m->G (p',m,q') s)->(kas_desc f p a q).kasWp cmp G s
 |0,p,a,q,v,h1,h2,S,e,h=>h p a q v (Θ _) (by lia) h1 S e
 |f+1,p,a,q,v,h1,h2,S,e,h=>by
  show cmp _ _ _ s;refine hc _ _ (v.inr (by lia)) (v.inr (by lia)) _ s ?_;have one:∀{p':Array Nat},Va n p'->Dj lt p' (a+1-(0+1)) (a+1):=fun {p'} v' i j i1 i2 j1 j2=>by
   have e1:i=a:=by lia
   have e2:j=a:=by lia
   rw[e1,e2];exact O.refl (v'.inr (by lia))
  cases hb:lt (g p a) (g p (a-1)) with
  |true=>
   ((try dsimp only);rw[if_pos rfl])
   have S':=S.next O v (by lia) (by lia) (O.Ac _ _ (v.inr (by lia)) (v.inr (by lia)) hb)
   by_cases hq:q > 0
   ·rw[if_pos hq];exact Bk f _ (a+1) 0 (vG v _ _) (by lia) (by lia) (EG v (by lia) (by lia) S' e) (one (vG v _ _)) fun p' m q' r1 r2 r3 r4 r5 r6=>h p' m q' r1 (by lia) (by lia) r4 r5 r6
   ·rw[if_neg hq];exact Bk f _ (a+1) 0 v (by lia) (by lia) S' (one v) fun p' m q' r1 r2 r3 r4 r5 r6=>h p' m q' r1 (by lia) (by lia) r4 r5 r6
  |false=>
   ((try dsimp only);rw[if_neg ar])
   show cmp _ _ _ s;refine hc _ _ (v.inr (by lia)) (v.inr (by lia)) _ s ?_;cases hd:lt (g p (a-1)) (g p a) with
   |true=>
    ((try dsimp only);rw[if_pos rfl])
    exact h p a q v (Θ _) (by lia) h1 S e
   |false=>
    ((try dsimp only);rw[if_neg ar])
    refine Bk f _ (a+1) (q+1) v (by lia) (by lia) (S.next O v (by lia) (by lia) hd) (fun i j i1 i2 j1 j2=>?_) fun p' m q' r1 r2 r3 r4 r5 r6=>h p' m q' r1 (by lia) (by lia) r4 r5 r6
    have L:∀k,k<n->g p k<n:=fun k hk=>v.inr hk;by_cases hi:i=a
    ·by_cases hj:j=a
     ·rw[hi,hj];exact O.refl (L _ (by lia))
     ·rw[hi];exact O.u9 (g p j) (g p (a-1)) (g p a) (L _ (by lia)) (L _ (by lia)) (L _ (by lia)) (e (a-1) j (by lia) (by lia) (by lia) (by lia)) hb
    ·by_cases hj:j=a
     ·rw[hj];exact O.u9 (g p a) (g p (a-1)) (g p i) (L _ (by lia)) (L _ (by lia)) (L _ (by lia)) hd (e i (a-1) (by lia) (by lia) (by lia) (by lia))
     ·exact e i j (by lia) (by lia) (by lia) (by lia)
theorem LJ{p:Array Nat}(v:Va n p){a:Nat}{G:Nat×Array Nat->η->Prop}(h1:1≤a)(h2:a≤n)(S:Ni lt p a)(h:∀m p',Va n p'->1≤m->m≤n->So lt p' m->G (m,p') s):(kas_tail3 a n p).kasWp cmp G s:=by
 unfold kas_tail3;rw[jK];exact EF O hc (vG v 0 a) (n-a) a h1 (by lia) (UO v h2 S) fun m q1 q2 q3 _=>h m _ (vG v 0 a) (by lia) (by lia) q3
theorem LI{p:Array Nat}(v:Va n p){a:Nat}{G:Nat×Array Nat->η->Prop}(h1:1≤a)(h2:a+1≤n)(S:Ni lt p (a+1))(h:∀m p',Va n p'->1≤m->m≤n->So lt p' m->G (m,p') s):(kas_descPart a n p).kasWp cmp G s:=by
 unfold kas_descPart;rw[jK];refine Bk O hc (n-(a+1)) p (a+1) 0 v (by lia) (by lia) S (fun i j i1 i2 j1 j2=>?_) fun p' m q' r1 r2 r3 r4 r5 r6=>?_
 ·have e1:i=a:=by lia
  have e2:j=a:=by lia
  rw[e1,e2];exact O.refl (v.inr (by lia))
 ·dsimp only;by_cases hq:q' > 0
  ·rw[if_pos hq];exact LJ O hc (vG r1 _ _) (by lia) (by lia) (EG r1 (Θ _) (by lia) r5 r6) h
  ·rw[if_neg hq];exact LJ O hc r1 (by lia) (by lia) r5 h
theorem UN{p:Array Nat}(v:Va n p){G:Nat×Array Nat->η->Prop}(hn:1≤n)(h:∀m p',Va n p'->1≤m->m≤n->So lt p' m->G (m,p') s):(kas_count n p).kasWp cmp G s:=by
 unfold kas_count;rw[jK];refine EF O hc v (n-1) 1 (Θ _) (by lia) (So.one O v hn) fun a q1 q2 q3 q4=>?_;have L:∀k,k<n->g p k<n:=fun k hk=>v.inr hk;by_cases e1:(a==n)=true
 ·rw[if_pos e1];exact h a p v q1 (by lia) q3
 ·rw[if_neg e1];have bZ:a≠n:=fun z=>e1 (by rw[z];exact beq_self_eq_true _);have hlt:lt (g p a) (g p (a-1))=true:=by
   rcases q4 with q4|q4
   ·lia
   ·exact q4
  have hle:=O.Ac _ _ (L a (by lia)) (L (a-1) (by lia)) hlt;by_cases e2:a > 1
  ·rw[if_pos e2];show cmp _ _ _ s;refine hc _ _ (v.inr (by lia)) (v.inr (by lia)) _ s ?_;cases hb:lt (g p 0) (g p (a-1)) with
   |true=>
    ((try dsimp only);rw[if_pos rfl])
    exact h a p v q1 (by lia) q3
   |false=>
    ((try dsimp only);rw[if_neg ar])
    -- all of the run are alike
    have eqv:Dj lt p 0 a:=fun i j i1 i2 j1 j2=>by
     have h1:lt (g p i) (g p 0)=false:=q3 0 i (by lia) i2;have h2:lt (g p (a-1)) (g p j)=false:=q3 j (a-1) (by lia) (by lia);have h3:lt (g p 0) (g p j)=false:=O.u9 _ _ _ (L j (by lia)) (L (a-1) (by lia)) (L 0 (by lia)) h2 hb;have h4:lt (g p (a-1)) (g p i)=false:=q3 i (a-1) (by lia) (by lia);exact O.u9 _ _ _ (L j (by lia)) (L 0 (by lia)) (L i (by lia)) h3 h1
    have ni:Ni lt p (a+1):=Ni.next O v (by lia) (by lia) (fun i j hij hj=>eqv i j (by lia) (by lia) (by lia) hj) hle
    exact LI O hc (vG v _ _) (by lia) (by lia) (EG v (by lia) (by lia) ni eqv) h
  ·rw[if_neg e2];have ea:a=1:=by lia
   subst ea;refine LI O hc v (Θ _) (by lia) (Ni.next O v (by lia) (by lia) (fun i j hij hj=>?_) hle) h
   have e3:i=0:=by lia
   have e4:j=0:=by lia
   rw[e3,e4];exact O.refl (L 0 (by lia))
theorem EE{p:Array Nat}(v:Va n p){k:Nat}(hk:k<n)(S:So lt p k){G:Nat->η->Prop}:∀(f l r:Nat),l≤r->r≤k->r-l≤f->(∀i,i<l->lt (g p k) (g p i)=false)->(∀i,r≤i->i<k->lt (g p k) (g p i)=true) ->
  (∀l,l≤k->(∀i,i<l->lt (g p k) (g p i)=false)->(∀i,l≤i->i<k->lt (g p k) (g p i)=true)->G l s)->(kas_place p k f l r).kasWp cmp G s
 |0,l,r,h1,h2,h3,h4,h5,h=>by
  have e:l=r:=by lia
  subst e;exact h l h2 h4 h5
 |f+1,l,r,h1,h2,h3,h4,h5,h=>by
  unfold kas_place;by_cases hlr:l≥r
  ·rw[if_pos hlr];have e:l=r:=by lia
   subst e;exact h l h2 h4 h5
  ·rw[if_neg hlr];show cmp _ _ _ s;refine hc _ _ (v.inr hk) (v.inr (by lia)) _ s ?_;have L:∀k,k<n->g p k<n:=fun k hk=>v.inr hk;cases hb:lt (g p k) (g p ((l+r) / 2)) with
   |true=>
    ((try dsimp only);rw[if_pos rfl])
    refine EE v hk S f l ((l+r) / 2) (by lia) (by lia) (by lia) h4 (fun i i1 i2=>?_) h;by_cases hri:r≤i
    ·exact h5 i hri i2
    ·cases hx:lt (g p k) (g p i) with
     |true=>rfl
     |false=>
      have h6:lt (g p i) (g p ((l+r) / 2))=false:=S _ _ i1 i2;have:=O.u9 _ _ _ (L ((l+r) / 2) (by lia)) (L i (by lia)) (L k hk) h6 hx;rw[hb] at this;exact this.symm
   |false=>
    ((try dsimp only);rw[if_neg ar])
    refine EE v hk S f ((l+r) / 2+1) r (by lia) h2 (by lia) (fun i hi=>?_) h5 h;exact O.u9 _ _ _ (L i (by lia)) (L ((l+r) / 2) (by lia)) (L k hk) (S i ((l+r) / 2) (by lia) (by lia)) hb
theorem LH{G:Array Nat->η->Prop}:∀(f:Nat) (p:Array Nat) (k:Nat),Va n p->k+f=n->So lt p k->(∀p',Va n p'->So lt p' n->G p' s)->(kas_bin f p k).kasWp cmp G s
 | 0,p,k,v,hk,S,h=>h p v (by
  have e:k=n:=by lia
  rw[←e];exact S)
 |f+1,p,k,v,hk,S,h=>by
  show ((kas_place p k k 0 k).bind fun l=>kas_bin f (bubble p k (k-l)) (k+1)).kasWp cmp G s;rw[jK];refine EE O hc v (by lia) S k 0 k (by lia) (Θ _) (by lia) (fun i hi=>by lia) (fun i i1 i2=>by lia) fun l hl q1 q2=>?_;have v':Va n (bubble p k (k-l)):=⟨(bubble_perm p k (k-l)).toList.trans v.perm⟩;have L:∀k,k<n->g p k<n:=fun k hk=>v.inr hk;have bg:∀i,i<n->g (bubble p k (k-l)) i=if i=l then g p k else if l<i/\i≤k then g p (i-1) else g p i:=fun i hi=>by
   have h1:=getElem?_bubble (xs:=p) (src:=k) (by rw[v.size];lia) (k-l) (by lia) i;rw[v'.get hi,show k-(k-l)=l by lia] at h1;by_cases c1:i=l
   ·rw[if_pos c1] at h1 ⊢;rw[v.get (by lia)] at h1;exact aD h1
   ·rw[if_neg c1] at h1 ⊢;by_cases c2:l<i/\i≤k
    ·rw[if_pos c2] at h1 ⊢;rw[v.get (by lia)] at h1;exact aD h1
    ·rw[if_neg c2] at h1 ⊢;rw[v.get hi] at h1;exact aD h1
  refine LH f _ (k+1) v' (by lia) (fun i j hij hj=>?_) h;rw[bg i (by lia),bg j (by lia)];by_cases ci:i=l
  ·rw[if_pos ci];by_cases cj:j=l
   ·rw[if_pos cj];exact O.refl (L k (by lia))
   ·rw[if_neg cj,if_pos (by lia)];exact O.Ac _ _ (L k (by lia)) (L _ (by lia)) (q2 (j-1) (by lia) (by lia))
  ·rw[if_neg ci];by_cases cj:j=l
   ·rw[if_pos cj,if_neg (by lia)];exact q1 i (by lia)
   ·rw[if_neg cj];by_cases c3:l<i/\i≤k
    ·rw[if_pos c3,if_pos (by lia)];exact S (i-1) (j-1) (by lia) (by lia)
    ·rw[if_neg c3];by_cases c4:l<j/\j≤k
     ·rw[if_pos c4];exact S i (j-1) (by lia) (by lia)
     ·rw[if_neg c4];exact S i j hij (by lia)
theorem UM{G:Array Nat->η->Prop}(hn:1≤n)(h:∀p,Va n p->So lt p n->G p s):(kas_sort n).kasWp cmp G s:=by
 unfold kas_sort;rw[jK];have v0:Va n (kg (ao n)):=⟨by simp⟩;refine UN O hc v0 hn fun m p' v m1 m2 S=>?_;dsimp only;by_cases hm:m<n
 ·rw[if_pos hm];have e:max m 1=m:=by lia
  rw[e];exact LH O hc (n-m) p' m v (by lia) S h
 ·rw[if_neg hm];have e:m=n:=by lia
  subst e;exact h p' v S
end
end MO
namespace pJ
open PySem PySem.SetTable
def ko(m:Nat):Prop:=m=7∨m=31∨m=127
def uk(m:Nat)(p:Probe):Probe:=
 if p.more > 0 then { p with j:=p.j+1,more:=p.more-1 } else
 { p with j:=(leap m p.i p.perturb).1,more:=runEnd m (leap m p.i p.perturb).1-(leap m p.i p.perturb).1,i:=(leap m p.i p.perturb).1,perturb:=(leap m p.i p.perturb).2 }
def rs(m:Nat)(q:Nat×Nat):Probe:={ j:=q.1,more:=runEnd m q.1-q.1,i:=q.1,perturb:=q.2,dummy:=none }
def sta(m:Nat)(h:Int):Probe:=rs m (bits h%(m+1),bits h)
def sq(m:Nat)(h:Int):Nat->Probe
 |0=>sta m h
 |k+1=>uk m (sq m h k)
def rn(m:Nat)(h:Int):Nat->Nat×Nat
 |0=>(bits h%(m+1),bits h)
 |r+1=>leap m (rn m h r).1 (rn m h r).2
theorem K3(m:Nat)(h:Int):∀k,(sq m h k).dummy=none
 |0=>rfl
 |k+1=>by
  show (uk m (sq m h k)).dummy=none;have ih:=K3 m h k;unfold uk;split<;>simpa using ih
theorem UL(m i:Nat):runEnd m i-i≤9:=by
 unfold runEnd;split<;>lia
theorem ED(m:Nat)(h:Int)(n:Nat)(q:Nat×Nat)(e:sq m h n=rs m q):∀d,d≤runEnd m q.1-q.1->sq m h (n+d)={ j:=q.1+d,more:=runEnd m q.1-q.1-d,i:=q.1,perturb:=q.2,dummy:=none }
 |0,_=>by rw[Nat.add_zero,e];rfl
 |d+1,hd=>by
  have ih:=ED m h n q e d (by lia);show uk m (sq m h (n+d))=_;rw[ih];unfold uk;rw[if_pos (show runEnd m q.1-q.1-d > 0 by lia)];simp only[Probe.mk.injEq,and_true,true_and];lia
theorem K0(m:Nat)(h:Int)(n:Nat)(q:Nat×Nat)(e:sq m h n=rs m q):sq m h (n+(runEnd m q.1-q.1)+1)=rs m (leap m q.1 q.2):=by
 show uk m (sq m h (n+(runEnd m q.1-q.1)))=_;rw[ED m h n q e _ (Θ _)];unfold uk;rw[if_neg (by simp)];rfl
theorem KZ(m:Nat)(h:Int):∀r,∃n,n≤10*r/\sq m h n=rs m (rn m h r)
 |0=>⟨0,by lia,rfl⟩
 |r+1=>by
  obtain⟨n,hn,e⟩:=KZ m h r;have:=UL m (rn m h r).1;exact⟨n+(runEnd m (rn m h r).1-(rn m h r).1)+1,by lia,K0 m h n _ e⟩
theorem UK(h:Int):bits h<2^64:=by
 unfold bits;have h1:h%(2^64:Int)<2^64:=fg _ (by decide);have h2:0≤h%(2^64:Int):=gr _ (by decide);lia
theorem KY(m:Nat)(h:Int):∀r,(rn m h r).2=bits h / 32^r
 |0=>by simp[rn]
 |r+1=>by
  show (rn m h r).2 / 32=_;rw[KY m h r,Nat.div_div_eq_div_mul,eR]
theorem T4(m:Nat)(h:Int)(r:Nat)(hr:13≤r):(rn m h r).2=0:=by
 rw[KY];have h1:=UK h;have h2:(32:Nat)^13≤32^r:=cE (by decide) hr;have h3:(2:Nat)^64<32^13:=by decide
 exact Nat.div_eq_of_lt (by lia)
def fl(m x:Nat):Nat:=(x*5+1)%(m+1)
def it(m:Nat):Nat->Nat->Nat
 |0,x=>x
 |n+1,x=>fl m (it m n x)
theorem yT(m:Nat)(a:Nat):∀b x,it m (b+a) x=it m b (it m a x)
 |0,x=>by rw[pU];rfl
 |b+1,x=>by
  rw[show b+1+a=(b+a)+1 by lia];show fl m (it m (b+a) x)=fl m (it m b (it m a x));rw[yT m a b x]
theorem EC(m:Nat)(h:Int):∀n,(rn m h (13+n)).1=it m n (rn m h 13).1
 |0=>rfl
 |n+1=>by
  show ((rn m h (13+n)).1*5+1+(rn m h (13+n)).2 / 32)%(m+1)=fl m (it m n (rn m h 13).1);rw[T4 m h (13+n) (by lia),EC m h n];rfl
theorem EB(m:Nat)(h:Int):∀r,(rn m h r).1<m+1
 |0=>hJ _ (pV _)
 |r+1=>hJ _ (pV _)
def CY(m:Nat):Nat->Nat->List Nat
 |0,_=>[]
 |n+1,x=>x::CY m n (fl m x)
theorem Bj(m:Nat):∀(n x y:Nat),y∈CY m n x->∃k,k<n/\y=it m k x
 |0,_,_,h=>by cases h
 |n+1,x,y,h=>by
  rcases Δ.mp h with e|e
  ·exact⟨0,by lia,e⟩
  ·obtain⟨k,hk,e⟩:=Bj m n (fl m x) y e;refine⟨k+1,by lia,?_⟩;rw[yT m 1 k x];exact e
theorem Z9:((ao 8).all fun x=>(CY 7 8 0).contains x)=true:=by decide +kernel
theorem M9:((ao 32).all fun x=>(CY 31 32 0).contains x)=true:=by decide +kernel
theorem L8:((ao 128).all fun x=>(CY 127 128 0).contains x)=true:=by decide +kernel
theorem NA:it 7 8 0=0:=by decide +kernel
theorem MG:it 31 32 0=0:=by decide +kernel
theorem Hu:it 127 128 0=0:=by decide +kernel
theorem Gj{m:Nat}(hm:ko m){x:Nat}(hx:x<m+1):∃k,k<m+1/\x=it m k 0:=by
 rcases hm with rfl|rfl|rfl
 ·have:=eY.mp Z9 x (ax.mpr hx);exact Bj 7 8 0 x (by simpa using this)
 ·have:=eY.mp M9 x (ax.mpr hx);exact Bj 31 32 0 x (by simpa using this)
 ·have:=eY.mp L8 x (ax.mpr hx);exact Bj 127 128 0 x (by simpa using this)
theorem back{m:Nat}(hm:ko m):it m (m+1) 0=0:=by
 rcases hm with rfl|rfl|rfl
 ·exact NA
 ·exact MG
 ·exact Hu
theorem CW{m:Nat}(hm:ko m){x y:Nat}(hx:x<m+1)(hy:y<m+1):∃n,n≤m/\it m n x=y:=by
 obtain⟨a,ha,ea⟩:=Gj hm hx;obtain⟨b,hb,eb⟩:=Gj hm hy;by_cases hab:a≤b
 ·refine⟨b-a,by lia,?_⟩;rw[ea,←yT,eb];congr 1;lia
 ·refine⟨m+1-a+b,by lia,?_⟩;rw[ea,←yT,eb,show m+1-a+b+a=b+(m+1) by lia,yT,back hm]
theorem comes{m:Nat}(hm:ko m)(h:Int){e:Nat}(he:e≤m):∃k,k≤10*m+130/\(sq m h k).j=e:=by
 obtain⟨n,hn,en⟩:=CW hm (EB m h 13) (show e<m+1 by lia);obtain⟨k,hk,ek⟩:=KZ m h (13+n);refine⟨k,by lia,?_⟩;rw[ek];show (rn m h (13+n)).1=e;rw[EC,en]
theorem EA{xs:Array Nat}{j:Nat}(hr:xs.toList.Pairwise (· < ·)):∀(fuel lo hi:Nat),hi-lo≤fuel->lo≤hi->hi≤xs.size->(∀i x,i<lo->xs[i]?=some x->x<j)->(∀i x,hi≤i->xs[i]?=some x->j≤x) ->
  below.go xs j fuel lo hi≤xs.size/\(∀i x,i<below.go xs j fuel lo hi->xs[i]?=some x->x<j)/\(∀i x,below.go xs j fuel lo hi≤i->xs[i]?=some x->j≤x)
 |0,lo,hi,hf,hl,hs,h1,h2=>by
  have e:lo=hi:=by lia
  subst e;exact⟨hs,h1,h2⟩
 |fuel+1,lo,hi,hf,hl,hs,h1,h2=>by
  unfold below.go;by_cases hlt:lo<hi
  ·rw[if_pos hlt];dsimp only;have hmid:(lo+hi) / 2<xs.size:=by lia
   have hg:xs.getD ((lo+hi) / 2) j=xs[(lo+hi) / 2]:=by simp[mz,hmid]
   rw[hg];have pw:∀a b x y,a<b->xs[a]?=some x->xs[b]?=some y->x<y:=fun a b x y hab ea eb=>by
    have ha':a<xs.toList.length:=by
     have:=(aN.mp ea).1;simpa using this
    have hb':b<xs.toList.length:=by
     have:=(aN.mp eb).1;simpa using this
    have:=dO.mp hr a b ha' hb' hab;obtain⟨_,e1⟩:=aN.mp ea;obtain⟨_,e2⟩:=aN.mp eb;simpa [e1,e2] using this
   have em:xs[(lo+hi) / 2]?=some xs[(lo+hi) / 2]:=by simp[hmid]
   by_cases hc:xs[(lo+hi) / 2]<j
   ·rw[if_pos hc];refine EA hr fuel _ hi (by lia) (by lia) hs (fun i x hi' e=>?_) h2;by_cases hi2:i=(lo+hi) / 2
    ·subst hi2;rw[em] at e;cases e;exact hc
    ·exact mj (pw i _ x _ (by lia) e em) hc
   ·rw[if_neg hc];refine EA hr fuel lo _ (by lia) (by lia) (by lia) h1 (fun i x hi' e=>?_);by_cases hi2:i=(lo+hi) / 2
    ·subst hi2;rw[em] at e;cases e;lia
    ·have:=pw _ i _ x (by lia) em e;lia
  ·rw[if_neg hlt];have e:lo=hi:=by lia
   subst e;exact⟨hs,h1,h2⟩
theorem Bi{xs:Array Nat}{j:Nat}(hr:xs.toList.Pairwise (· < ·)):below xs j≤xs.size/\(∀i x,i<below xs j->xs[i]?=some x->x<j)/\(∀i x,below xs j≤i->xs[i]?=some x->j≤x):=
 EA hr xs.size 0 xs.size (by lia) (by lia) (by lia) (fun i _ h=>by lia) fun i x h e=>by
  have:=(aN.mp e).1;lia
theorem below_at{xs:Array Nat}{j i:Nat}(hr:xs.toList.Pairwise (· < ·))(e:xs[i]?=some j):below xs j=i:=by
 obtain⟨h0,h1,h2⟩:=Bi (j:=j) hr;have hi:=(aN.mp e).1;by_cases hlt:i<below xs j
 ·exact absurd (h1 i j hlt e) (bU _)
 ·by_cases hgt:below xs j<i
  ·have hb:below xs j<xs.size:=by lia
   have eb:xs[below xs j]?=some xs[below xs j]:=by simp[hb]
   have q1:=h2 _ _ (Θ _) eb;have pw:=dO.mp hr (below xs j) i (by simpa using hb) (by simpa using hi) hgt;obtain⟨_,e1⟩:=aN.mp e;simp[e1] at pw;lia
  ·lia
end pJ
namespace pJ
open PySem PySem.SetTable
structure Tab(t:bN)(hs:List Int):Prop where
 mask:ko t.mask
 size:t.place.size=hs.length
 rise:t.place.toList.Pairwise (· < ·)
 bound:∀j∈t.place.toList,j≤t.mask
 oK:t.dummies = #[]
 room:hs.length*5<t.mask*3
 reach:∀j h,(j,h)∈t.place.toList.zip hs->∃k,(sq t.mask h k).j=j/\∀k',k' < k->(sq t.mask h k').j∈t.place.toList
theorem KW{t:bN}{j i:Nat}(hr:t.place.toList.Pairwise (· < ·))(e:t.place[i]?=some j):t.slot j=.live i:=by
 unfold slot;dsimp only;rw[below_at hr e,e];simp
theorem T3{t:bN}{j:Nat}(hd:t.dummies = #[])(e:j∉t.place.toList):t.slot j=.empty:=by
 unfold slot;dsimp only;have h1:¬(t.place[below t.place j]?==some j)=true:=by
  intro h;have h':t.place[below t.place j]?=some j:=by simpa using h
  exact e (by
   rw[←bj] at h';exact bE h')
 rw[if_neg h1];have h2:has t.dummies j=false:=by
  rw[hd];rfl
 rw[h2];rfl
theorem Ez:∀(n:Nat) (L:List Nat),(∀e,e<n->e∈L)->n≤L.length
 |0,_,_=>ba _
 |n+1,L,h=>by
  have h1:=h n (fS n);have h2:=Ez n (L.erase n) fun e he=>(List.mem_erase_of_ne (by lia)).mpr (h e (by lia));have h3:=List.length_erase_of_mem h1;have h4:=rb h1;lia
theorem T1{t:bN}{hs:List Int}(T:Tab t hs)(h:Int):∃ke,ke≤10*t.mask+130/\(sq t.mask h ke).j∉t.place.toList/\∀k,k<ke->(sq t.mask h k).j∈t.place.toList:=by
 -- some slot is empty
 have hex:∃e,e≤t.mask/\e∉t.place.toList:=by
  refine aK fun hn=>?_;have hall:∀e,e≤t.mask->e∈t.place.toList:=fun e he=>aK fun q=>hn ⟨e,he,q⟩;have hl:=Ez (t.mask+1) t.place.toList fun e he=>hall e (by lia);have e1:t.place.toList.length=t.place.size:=by simp
  have:=T.size;have:=T.room;lia
 obtain⟨e,he,ne⟩:=hex;obtain⟨k,hk,ek⟩:=comes T.mask h he;have hP:∃k,(sq t.mask h k).j∉t.place.toList:=⟨k,by rw[ek];exact ne⟩
 -- the least one
 have least:∀n,(∃k,k≤n/\(sq t.mask h k).j∉t.place.toList)->∃ke,ke≤n/\(sq t.mask h ke).j∉t.place.toList/\∀k,k<ke->(sq t.mask h k).j∈t.place.toList:=by
  intro n
  induction n with
  |zero=>
   rintro⟨k,hk,q⟩;have:k=0:=by lia
   subst this;exact⟨0,Θ _,q,fun k hk=>by lia⟩
  |succ n ih=>
   rintro⟨k,hk,q⟩;by_cases hp:∃k,k≤n/\(sq t.mask h k).j∉t.place.toList
   ·obtain⟨ke,h1,h2,h3⟩:=ih hp;exact⟨ke,by lia,h2,h3⟩
   ·have hk':k=n+1:=by
     refine aK fun z=>hp ⟨k,by lia,q⟩
    subst hk';exact⟨n+1,Θ _,q,fun k' hk'=>aK fun z=>hp ⟨k',by lia,z⟩⟩
 obtain⟨ke,h1,h2,h3⟩:=least k ⟨k,Θ _,by rw[ek];exact ne⟩;exact⟨ke,by lia,h2,h3⟩
inductive Meets(t:bN)(hashAt:Nat->Int)(h:Int)(n ke:Nat):Met->Prop where
 |Cn {k i:Nat} (h1:n≤k) (h2:k<ke) (h3:t.place[i]?=some (sq t.mask h k).j) (h4:hashAt i=h) (h5:∀k' i',n≤k'->k' < k->t.place[i']?=some (sq t.mask h k').j->hashAt i'≠h):
   Meets t hashAt h n ke (.candidate (sq t.mask h k).j i (sq t.mask h (k+1)))
 |free (h1:n≤ke) (h5:∀k' i',n≤k'->k' < ke->t.place[i']?=some (sq t.mask h k').j->hashAt i'≠h):Meets t hashAt h n ke (.empty (sq t.mask h ke).j none)
theorem KU{t:bN}{hashAt:Nat->Int}{h:Int}{ke:Nat}(hr:t.place.toList.Pairwise (· < ·))(hd:t.dummies = #[])(he:(sq t.mask h ke).j∉t.place.toList)(hl:∀k,k<ke->(sq t.mask h k).j∈t.place.toList):
  ∀(fuel n:Nat),n≤ke->ke-n<fuel->∃met,probe.go t hashAt h fuel (sq t.mask h n)=some met/\Meets t hashAt h n ke met
 |0,n,_,hf=>by lia
 |fuel+1,n,hn,hf=>by
  unfold probe.go;by_cases hlast:n=ke
  ·subst hlast;rw[T3 hd he,K3];exact⟨_,rfl,.free (Θ _) fun k' i' h1 h2=>by lia⟩
  ·have hmem:=hl n (by lia);obtain⟨i,hi⟩:=gC hmem;have hi':t.place[i]?=some (sq t.mask h n).j:=by rw[←bj];exact hi
   rw[KW hr hi'];dsimp only;by_cases hh:hashAt i=h
   ·rw[if_pos (by simpa using hh)];exact⟨_,rfl,.Cn (Θ _) (by lia) hi' hh fun k' i' h1 h2=>by lia⟩
   ·rw[if_neg (by simpa using hh)];obtain⟨met,e,m⟩:=KU (hashAt:=hashAt) hr hd he hl fuel (n+1) (by lia) (by lia);refine⟨met,e,?_⟩;have one:∀i',t.place[i']?=some (sq t.mask h n).j->hashAt i'≠h:=fun i' e'=>by
     have e1:=below_at hr hi';have e2:=below_at hr e';have:i'=i:=by lia
     rw[this];exact hh
    cases m with
    |Cn h1 h2 h3 h4 h5=>
     refine .Cn (by lia) h2 h3 h4 fun k' i' q1 q2 q3=>?_;by_cases hk:k'=n
     ·subst hk;exact one i' q3
     ·exact h5 k' i' (by lia) q2 q3
    |free h1 h5=>
     refine .free (by lia) fun k' i' q1 q2 q3=>?_;by_cases hk:k'=n
     ·subst hk;exact one i' q3
     ·exact h5 k' i' (by lia) q2 q3
theorem TZ{t:bN}{hs:List Int}(T:Tab t hs){hashAt:Nat->Int}{h:Int}{ke n:Nat}(hk:ke≤10*t.mask+130)(he:(sq t.mask h ke).j∉t.place.toList)(hl:∀k,k<ke->(sq t.mask h k).j∈t.place.toList)(hn:n≤ke):
  ∃met,t.probe hashAt h (sq t.mask h n)=some met/\Meets t hashAt h n ke met:=by
 unfold probe;exact KU T.rise T.oK he hl _ n hn (by unfold turns;lia)
theorem vF{α:Type}(xs:Array α)(p:Nat)(x:α):(insertAt xs p x).toList=xs.toList.take p++x::xs.toList.drop p:=by
 unfold insertAt;have e:(xs.extract p xs.size).toList=xs.toList.drop p:=by
  rw[sR];simp[List.extract];exact gd (by simp)
 simp[sR,List.extract];exact gd (by simp)
theorem KS{α β:Type}:∀(p:Nat) (xs:List α) (ys:List β) (x:α) (y:β),xs.length=ys.length->((xs.take p++x::xs.drop p).zip (ys.take p++y::ys.drop p)).Perm ((x,y)::xs.zip ys)
 |0,xs,ys,x,y,_=>by simp
 |p+1,[],ys,x,y,h=>by
  have:ys=[]:=gX.mp (by simpa using h.symm);subst this;simp
 |p+1,a::xs,[],x,y,h=>by simp at h
 |p+1,a::xs,b::ys,x,y,h=>by
  have ih:=KS p xs ys x y (by simpa using h);simp only[List.take_succ_cons,List.drop_succ_cons,List.cons_append,gh];exact (List.Perm.cons (a,b) ih).trans (List.Perm.swap _ _ _)
theorem xu{α:Type}(p:Nat)(xs:List α)(x:α):(xs.take p++x::xs.drop p).Perm (x::xs):=by
 have:=List.perm_middle (a:=x) (l₁:=xs.take p) (l₂:=xs.drop p);rw[lF] at this;exact this
theorem TY{t:bN}{j:Nat}(hd:t.dummies = #[]):t.put j=({ t with place:=insertAt t.place (below t.place j) j,dummies:=#[]},below t.place j):=by
 unfold put;dsimp only;have h2:has t.dummies j=false:=by
  rw[hd];rfl
 rw[h2];simp[hd]
structure um(t:bN)(hs:List Int):Prop where
 mask:ko t.mask
 size:t.place.size=hs.length
 rise:t.place.toList.Pairwise (· < ·)
 bound:∀j∈t.place.toList,j≤t.mask
 oK:t.dummies = #[]
 MD:hs.length≤t.mask
 reach:∀j h,(j,h)∈t.place.toList.zip hs->∃k,(sq t.mask h k).j=j/\∀k',k' < k->(sq t.mask h k').j∈t.place.toList
theorem KR{m:Nat}(hm:ko m)(h:Int):∀k,(sq m h k).j≤m/\(sq m h k).j+(sq m h k).more≤m:=by
 have hrun:∀i,i≤m->runEnd m i≤m:=fun i hi=>by
  unfold runEnd;split<;>lia
 have hrs:∀q:Nat×Nat,q.1≤m->(rs m q).j≤m/\(rs m q).j+(rs m q).more≤m:=fun q hq=>by
  have:=hrun q.1 hq;have h2:q.1≤runEnd m q.1:=by unfold runEnd;split<;>lia
  show q.1≤m/\q.1+(runEnd m q.1-q.1)≤m;lia
 intro k
 induction k with
 |zero=>exact hrs _ (by show bits h%(m+1)≤m;have:bits h%(m+1)<m+1:=hJ (bits h) (pV m);lia)
 |succ k ih=>
  show (uk m (sq m h k)).j≤m/\(uk m (sq m h k)).j+(uk m (sq m h k)).more≤m;unfold uk;by_cases hc:(sq m h k).more > 0
  ·rw[if_pos hc];show (sq m h k).j+1≤m/\(sq m h k).j+1+((sq m h k).more-1)≤m;lia
  ·rw[if_neg hc];have hlt:(leap m (sq m h k).i (sq m h k).perturb).1≤m:=by
    show ((sq m h k).i*5+1+(sq m h k).perturb / 32)%(m+1)≤m;have:((sq m h k).i*5+1+(sq m h k).perturb / 32)%(m+1)<m+1:=hJ _ (pV m);lia
   exact hrs (leap m (sq m h k).i (sq m h k).perturb) hlt
theorem Tab.put{t:bN}{hs:List Int}(T:Tab t hs){h:Int}{ke:Nat}(he:(sq t.mask h ke).j∉t.place.toList)(hl:∀k,k<ke->(sq t.mask h k).j∈t.place.toList):
  um { t with place:=insertAt t.place (below t.place (sq t.mask h ke).j) (sq t.mask h ke).j,dummies:=#[]} (hs.take (below t.place (sq t.mask h ke).j)++h::hs.drop (below t.place (sq t.mask h ke).j)):=by
 obtain⟨b0,b1,b2⟩:=Bi (j:=(sq t.mask h ke).j) T.rise;have hlen:t.place.toList.length=hs.length:=by simpa using T.size
 have hmem:∀x,x∈(insertAt t.place (below t.place (sq t.mask h ke).j) (sq t.mask h ke).j).toList↔x=(sq t.mask h ke).j∨x∈t.place.toList:=fun x=>by
  rw[vF,(xu _ t.place.toList _).mem_iff,Δ]
 refine⟨T.mask,?_,?_,fun j hj=>?_,rfl,?_,fun j h' hj=>?_⟩
 ·show (insertAt t.place (below t.place (sq t.mask h ke).j) (sq t.mask h ke).j).size=_;have e1:(insertAt t.place (below t.place (sq t.mask h ke).j) (sq t.mask h ke).j).size=(insertAt t.place (below t.place (sq t.mask h ke).j) (sq t.mask h ke).j).toList.length:=by simp
  rw[e1,vF,(xu _ t.place.toList _).length_eq,(xu _ hs _).length_eq];simp only[aL];lia
 ·show (insertAt t.place (below t.place (sq t.mask h ke).j) (sq t.mask h ke).j).toList.Pairwise (· < ·);rw[vF];refine mn.mpr ⟨T.rise.sublist (kL _ _),dw.mpr ⟨fun x hx=>?_,T.rise.sublist (List.drop_sublist _ _)⟩,fun a ha b hb=>?_⟩
  ·obtain⟨i,hi⟩:=gC hx;rw[uA] at hi;have q:=b2 (below t.place (sq t.mask h ke).j+i) x (by lia) (by rw[←bj];exact hi);have ne:x≠(sq t.mask h ke).j:=fun e=>he (e▸bE hi);lia
  ·obtain⟨i,hi⟩:=gC ha;have hil:i<below t.place (sq t.mask h ke).j:=by
    have:=(ak.mp hi).1;rw[bW] at this;lia
   rw[p8 hil] at hi;have qa:=b1 i a hil (by rw[←bj];exact hi);rcases Δ.mp hb with e|hb
   ·rw[e];exact qa
   ·obtain⟨i2,hi2⟩:=gC hb;rw[uA] at hi2;have q:=b2 (below t.place (sq t.mask h ke).j+i2) b (by lia) (by rw[←bj];exact hi2);lia
 ·rcases (hmem j).mp hj with e|e
  ·rw[e];exact (KR T.mask h ke).1
  ·exact T.bound j e
 ·rw[(xu _ hs _).length_eq];have:=T.room;rcases T.mask with e|e|e<;>(simp only[aL];show _≤t.mask;lia)
 ·have hp:(j,h')∈(t.place.toList.take (below t.place (sq t.mask h ke).j)++(sq t.mask h ke).j::t.place.toList.drop (below t.place (sq t.mask h ke).j)).zip
    (hs.take (below t.place (sq t.mask h ke).j)++h::hs.drop (below t.place (sq t.mask h ke).j)):=by
   rw[←vF];exact hj
  rw[(KS _ _ _ _ _ hlen).mem_iff] at hp;rcases Δ.mp hp with e|e
  ·cases e;exact⟨ke,rfl,fun k' hk'=>(hmem _).mpr (.inr (hl k' hk'))⟩
  ·obtain⟨k,e1,e2⟩:=T.reach j h' e;exact⟨k,e1,fun k' hk'=>(hmem _).mpr (.inr (e2 k' hk'))⟩
theorem um.tab{t:bN}{hs:List Int}(T:um t hs)(h:t.tooFull=false):Tab t hs:=by
 refine⟨T.mask,T.size,T.rise,T.bound,T.oK,?_,T.reach⟩;have h':¬(t.fill*5≥t.mask*3):=by simpa [tooFull] using h
 have e:t.fill=hs.length:=by
  unfold fill;rw[T.size,T.oK];rfl
 rw[e] at h';lia
end pJ
namespace pJ
open PySem PySem.SetTable
def Taken(ow:Array (Option Nat))(j:Nat):Prop:=∃k,ow[j]?=some (some k)
theorem Ey{ow:Array (Option Nat)}{j:Nat}(hj:j<ow.size):(ow.getD j (some 0)).isNone=true↔¬Taken ow j:=by
 have e:ow.getD j (some 0)=ow[j]:=by simp[mz,hj]
 rw[e];unfold Taken;rw[oY hj];cases ow[j] with
 |none=>simp
 |some k=>simp
theorem KQ{m:Nat}(hm:ko m){h:Int}{ow:Array (Option Nat)}(hs:ow.size=m+1):∀(fuel r n:Nat),sq m h n=rs m (rn m h r)->(∀k,k<n->Taken ow (sq m h k).j) ->
  (∃r',r≤r'/\r' < r+fuel/\¬Taken ow (rn m h r').1)->∃ke,layClean.free m ow fuel (rn m h r).1 (rn m h r).2=some (sq m h ke).j/\¬Taken ow (sq m h ke).j/\∀k,k<ke->Taken ow (sq m h k).j
 |0,r,n,_,_,hx=>by
  obtain⟨r',h1,h2,_⟩:=hx;lia
 |fuel+1,r,n,hn,hk,hx=>by
  have hi:=EB m h r;have hre:runEnd m (rn m h r).1≤m:=by unfold runEnd;split<;>lia
  have hre2:(rn m h r).1≤runEnd m (rn m h r).1:=by unfold runEnd;split<;>lia
  have at_d:∀d,d≤runEnd m (rn m h r).1-(rn m h r).1->(sq m h (n+d)).j=(rn m h r).1+d:=fun d hd=>by
   rw[ED m h n _ hn d hd]
  unfold layClean.free;cases hf:(ao (runEnd m (rn m h r).1+1-(rn m h r).1)).find? (fun k=>(ow.getD ((rn m h r).1+k) (some 0)).isNone) with
  |some k=>
   obtain⟨p1,p2,p3⟩:=List.find?_range_eq_some.mp hf;have hkr:=ax.mp p2;refine⟨n+k,?_,?_,fun k' hk'=>?_⟩
   ·rw[at_d k (by lia)]
   ·rw[at_d k (by lia)];exact (Ey (by lia)).mp p1
   ·by_cases hlt:k' < n
    ·exact hk k' hlt
    ·obtain⟨d,rfl⟩:∃d,k'=n+d:=⟨k' - n,by lia⟩;rw[at_d d (by lia)];have q:=p3 d (by lia);refine aK fun z=>?_;rw[(Ey (by lia)).mpr z] at q;cases q
  |none=>
   have hnone:=List.find?_eq_none.mp hf;have occ:∀d,d≤runEnd m (rn m h r).1-(rn m h r).1->Taken ow ((rn m h r).1+d):=fun d hd=>
    aK fun z=>hnone d (ax.mpr (by lia)) ((Ey (by lia)).mpr z)
   refine KQ hm hs fuel (r+1) (n+(runEnd m (rn m h r).1-(rn m h r).1)+1) (K0 m h n _ hn) (fun k hk'=>?_) ?_
   ·by_cases hlt:k<n
    ·exact hk k hlt
    ·obtain⟨d,rfl⟩:∃d,k=n+d:=⟨k-n,by lia⟩;rw[at_d d (by lia)];exact occ d (by lia)
   ·obtain⟨r',h1,h2,h3⟩:=hx;refine⟨r',?_,by lia,h3⟩;have:r'≠r:=fun e=>h3 (by
     rw[e];have:=occ 0 (ba _);simpa using this)
    lia
structure vj(m:Nat)(ow:Array (Option Nat))(l:List Int):Prop where
 size:ow.size=m+1
 all:∀(k:Nat),k<l.length->∃j:Nat,ow[j]?=some (some k)
 one:∀(j j' k:Nat),ow[j]?=some (some k)->ow[j']?=some (some k)->j=j'
 reach:∀(j k:Nat),ow[j]?=some (some k)->∃h,l[k]?=some h/\∃n,(sq m h n).j=j/\∀n',n' < n->Taken ow (sq m h n').j
theorem vj.nil(m:Nat):vj m (Array.replicate (m+1) none) []:=by
 have hno:∀(j k:Nat),¬(Array.replicate (m+1) (none:Option Nat))[j]?=some (some k):=fun j k e=>by
  rw[Array.getElem?_replicate] at e;split at e<;>simp at e
 exact⟨by simp,fun k hk=>by simp at hk,fun j j' k e=>absurd e (hno j k),fun j k e=>absurd e (hno j k)⟩
theorem vj.room{m:Nat}{ow:Array (Option Nat)}{l:List Int}(O:vj m ow l)(hl:l.length≤m):∃e,e≤m/\¬Taken ow e:=by
 refine aK fun hn=>?_;have hall:∀e,e≤m->Taken ow e:=fun e he=>aK fun q=>hn ⟨e,he,q⟩;obtain⟨g,hg⟩:∃g:Nat->Nat,∀k,k<l.length->ow[g k]?=some (some k):=by
  refine⟨fun k=>if q:k<l.length then (O.all k q).choose else 0,fun k hk=>?_⟩;dsimp only;rw[dif_pos hk];exact (O.all k hk).choose_spec
 have hlen:=Ez (m+1) ((ao l.length).map g) fun e he=>by
  obtain⟨k,hk⟩:=hall e (by lia);obtain⟨h,e1,_⟩:=O.reach e k hk;have hkl:=(ak.mp e1).1;exact aj.mpr ⟨k,ax.mpr hkl,O.one _ _ k (hg k hkl) hk⟩
 simp at hlen;lia
theorem vj.add{m:Nat}(hm:ko m){ow:Array (Option Nat)}{l:List Int}{h:Int}(O:vj m ow l)(hl:l.length≤m):
  ∃j,layClean.free m ow (turns m) (bits h%(m+1)) (bits h)=some j/\vj m (ow.setIfInBounds j (some l.length)) (l++[h]):=by
 obtain⟨e,he,ne⟩:=O.room hl;obtain⟨n0,hn0,en0⟩:=CW hm (EB m h 13) (show e<m+1 by lia);obtain⟨ke,h1,h2,h3⟩:=KQ hm (h:=h) O.size (turns m) 0 0 rfl (fun k hk=>by lia) ⟨13+n0,by lia,by unfold turns;lia,by rw[EC,en0];exact ne⟩;refine⟨(sq m h ke).j,h1,?_⟩;have hj:(sq m h ke).j<ow.size:=by
  have:=(KR hm h ke).1;rw[O.size];lia
 have hget:∀j:Nat,(ow.setIfInBounds (sq m h ke).j (some l.length))[j]?=if (sq m h ke).j=j then some (some l.length) else ow[j]?:=fun j=>by
  rw[Array.getElem?_setIfInBounds];by_cases e:(sq m h ke).j=j
  ·rw[if_pos e,if_pos e,if_pos (by lia)]
  ·rw[if_neg e,if_neg e]
 have tk:∀j,Taken ow j->Taken (ow.setIfInBounds (sq m h ke).j (some l.length)) j:=fun j ⟨k,hk⟩=>by
  unfold Taken;rw[hget];by_cases e:(sq m h ke).j=j
  ·exact⟨_,if_pos e⟩
  ·exact⟨k,by rw[if_neg e];exact hk⟩
 have lt_of:∀j k:Nat,ow[j]?=some (some k)->k<l.length:=fun j k e=>by
  obtain⟨h',e1,_⟩:=O.reach j k e;exact (ak.mp e1).1
 refine⟨by rw[Array.size_setIfInBounds];exact O.size,fun k hk=>?_,fun j j' k q q'=>?_,fun j k q=>?_⟩
 ·rw[aq,iN] at hk;by_cases hkl:k<l.length
  ·obtain⟨j,hj'⟩:=O.all k hkl;refine⟨j,?_⟩;rw[hget,if_neg (fun e=>h2 ⟨k,by rw[e];exact hj'⟩)];exact hj'
  ·have:k=l.length:=by lia
   exact⟨(sq m h ke).j,by rw[hget,if_pos rfl,this]⟩
 ·rw[hget] at q q';by_cases e:(sq m h ke).j=j
  ·rw[if_pos e] at q;by_cases e':(sq m h ke).j=j'
   ·lia
   ·rw[if_neg e'] at q';cases q;exact absurd (lt_of _ _ q') (bU _)
  ·rw[if_neg e] at q;by_cases e':(sq m h ke).j=j'
   ·rw[if_pos e'] at q';cases q';exact absurd (lt_of _ _ q) (bU _)
   ·rw[if_neg e'] at q';exact O.one j j' k q q'
 ·rw[hget] at q;by_cases e:(sq m h ke).j=j
  ·rw[if_pos e] at q;cases q;exact⟨h,by simp,ke,e,fun n' hn'=>tk _ (h3 n' hn')⟩
  ·rw[if_neg e] at q;obtain⟨h',e1,n,e2,e3⟩:=O.reach j k q;exact⟨h',by rw[fi (lt_of j k q)];exact e1,n,e2,fun n' hn'=>tk _ (e3 n' hn')⟩
theorem KP{m:Nat}(hm:ko m):∀(l' l:List Int) (ow:Array (Option Nat)),vj m ow l->l.length+l'.length≤m+1 ->
  ∃ow',(l'.foldl (fun (acc:Option (Array (Option Nat)×Nat)) h=>do
   let (owner,k) ←acc
   let j ←layClean.free m owner (turns m) (bits h%(m+1)) (bits h)
   pure (owner.setIfInBounds j (some k),k+1)) (some (ow,l.length)))=some (ow',(l++l').length)/\vj m ow' (l++l')
 |[],l,ow,O,_=>⟨ow,by simp,by simpa using O⟩
 |h::l',l,ow,O,hl=>by
  rw[aL] at hl
  obtain⟨j,e,O'⟩:=O.add hm (h:=h) (by lia)
  obtain⟨ow',e2,O2⟩:=KP hm l' (l++[h]) _ O' (by simp;lia)
  refine⟨ow',?_,by simpa using O2⟩
  rw[List.foldl_cons]
  have hs:(do
   let (owner,k) ←(some (ow,l.length):Option (Array (Option Nat)×Nat))
   let j ←layClean.free m owner (turns m) (bits h%(m+1)) (bits h)
   pure (owner.setIfInBounds j (some k),k+1))=some (ow.setIfInBounds j (some l.length),(l++[h]).length):=by
   show (do
    let j ←layClean.free m ow (turns m) (bits h%(m+1)) (bits h)
    pure (ow.setIfInBounds j (some l.length),l.length+1))=_
   rw[e]
   simp
  rw[hs,e2]
  simp
theorem Ex{α:Type}:∀l:List α,((ao l.length).filterMap fun k=>l[k]?)=l
 |[]=>rfl
 |a::l=>by
  rw[aL,qZ,p9 (b:=a) (by simp),uB];have ih:=Ex l;congr 1
theorem TX{α:Type}(xs:Array α):((ao xs.size).filterMap fun k=>xs[k]?)=xs.toList:=by
 have:=Ex xs.toList;simpa using this
theorem TV{m finger moves:Nat}{led plain:Bool}(hm:ko m)(hs:Array Int)(hl:hs.size*5<m*3):
  ∃t order,laid m finger moves led plain hs=some (t,order)/\t.mask=m/\t.led=led/\t.plain=plain/\t.finger=finger/\order.toList.Perm (ao hs.size)/\Tab t (order.toList.filterMap fun k=>hs[k]?):=by
 obtain⟨ow,e,O⟩:=KP hm hs.toList [] _ (vj.nil m) (by simp;lia);rw[cW] at e O;have hlc:layClean m hs=some ow:=by
  unfold layClean;rw[←Array.foldl_toList];have e':=congrArg (sM fun x:Array (Option Nat)×Nat=>x.1) e;exact e'
 have hmem:∀j k,(j,k)∈((ao (m+1)).filterMap fun j=>(ow.getD j none).map (j,·))↔ow[j]?=some (some k):=fun j k=>by
  rw[nG];constructor
  ·rintro⟨a,ha,q⟩;have ha':=ax.mp ha;cases ho:ow.getD a none with
   |none=>rw[ho] at q;cases q
   |some k'=>
    rw[ho] at q;cases q;have:ow.getD j none=ow[j]'(by rw[O.size];exact ha'):=by simp[mz,O.size,ha']
    rw[this] at ho;rw[oY (by rw[O.size];exact ha'),ho]
  ·intro q;have hj:=(aN.mp q).1;rw[O.size] at hj;refine⟨j,ax.mpr hj,?_⟩;have:ow.getD j none=some k:=by
    rw[Array.getD_eq_getD_getElem?,q];rfl
   rw[this];rfl
 generalize hL:((ao (m+1)).filterMap fun j=>(ow.getD j none).map (j,·))=L at hmem;have rise:L.Pairwise fun a b=>a.1<b.1:=by
  rw[←hL];refine kX.filterMap _ (fun a a' hlt b hb b' hb'=>?_) (ra (n:=m+1));cases ho:ow.getD a none with
  |none=>rw[ho] at hb;cases hb
  |some k=>
   rw[ho] at hb;cases hb;cases ho':ow.getD a' none with
   |none=>rw[ho'] at hb';cases hb'
   |some k'=>
    rw[ho'] at hb';cases hb';exact hlt
 have nd:(L.map (·.2)).Nodup:=by
  refine uZ _ (R:=fun a b=>a.2≠b.2) (fun _ _ z=>z) ?_;refine gQ (fun {a b} ha hb hab=>?_) rise;intro q;obtain⟨j,k⟩:=a;obtain⟨j',k'⟩:=b;have ea:=(hmem j k).mp ha;have eb:=(hmem j' k').mp hb;have hab':j<j':=hab;have q':k=k':=q;subst q';have:=O.one j j' k ea eb;lia
 have hperm:(L.map (·.2)).Perm (ao hs.size):=by
  refine (ji nd lq).mpr fun k=>?_;rw[aj,ax];constructor
  ·rintro⟨⟨j,k'⟩,hjk,rfl⟩;obtain⟨h,e1,_⟩:=O.reach j k' ((hmem j k').mp hjk);have:=(ak.mp e1).1;simpa using this
  ·intro hk;obtain⟨j,ej⟩:=O.all k (by simpa using hk);exact⟨(j,k),(hmem j k).mpr ej,rfl⟩
 -- the hashes in the slots' order
 have hzip:∀j h,(j,h)∈(L.map (·.1)).zip ((L.map (·.2)).filterMap fun k=>hs[k]?)->∃k,(j,k)∈L/\hs[k]?=some h:=by
  have hall:∀p∈L,∃h,hs[p.2]?=some h:=fun p hp=>by
   obtain⟨h,e1,_⟩:=O.reach p.1 p.2 ((hmem p.1 p.2).mp hp);exact⟨h,by rw[←bj];exact e1⟩
  clear hmem rise nd hperm hL
  induction L with
  |nil=>intro j h q;cases q
  |cons p L ih=>
   intro j h q;obtain⟨h0,e0⟩:=hall p χ;rw[bP,bP,p9 e0,gh] at q;rcases Δ.mp q with q|q
   ·cases q;exact⟨p.2,χ,e0⟩
   ·obtain⟨k,q1,q2⟩:=ih (fun p hp=>hall p (ψ _ hp)) j h q;exact⟨k,ψ _ q1,q2⟩
 have hlenL:((L.map (·.2)).filterMap fun k=>hs[k]?).length=L.length:=by
  have h1:=(hperm.filterMap fun k=>hs[k]?).length_eq;rw[TX] at h1;have h3:=hperm.length_eq;rw[π,fB] at h3;rw[h1,h3];simp
 refine⟨_,_,by unfold laid;rw[hlc];rfl,rfl,rfl,rfl,rfl,?_,?_⟩
 ·rw[hL];exact hperm
 ·rw[hL];have hlen:L.length=hs.size:=by
   have:=hperm.length_eq;simpa using this
  refine⟨hm,?_,?_,fun j hj=>?_,rfl,?_,fun j h hj=>?_⟩
  ·rw[hlenL];simp
  ·exact uZ _ (fun _ _ z=>z) rise
  ·obtain⟨⟨j',k⟩,hp,rfl⟩:=aj.mp hj;have:=(aN.mp ((hmem j' k).mp hp)).1;rw[O.size] at this;show j'≤m;lia
  ·rw[hlenL,hlen];exact hl
  ·obtain⟨k,q1,q2⟩:=hzip j h hj;obtain⟨h',e1,n,e2,e3⟩:=O.reach j k ((hmem j k).mp q1);have eh:h'=h:=by
    rw[bj,q2] at e1;exact (aD e1).symm
   subst eh;refine⟨n,e2,fun n' hn'=>?_⟩;obtain⟨k',hk'⟩:=e3 n' hn';exact aj.mpr ⟨(_,k'),(hmem _ k').mpr hk',rfl⟩
end pJ
namespace jX
open PySem pJ
section
variable {prog:Ω} {w:ah} {A:aE} {E:ε->η->Prop} {s:η}
abbrev hk(prog:Ω)(w:ah)(ks:List Int):Int:=tupleKeyHash (intKind prog w) ks
abbrev jd(prog:Ω)(w:ah)(h:Ψ)(ks:List Int)(a:ζ):Prop:=IsTupleKey (intKind prog w) h ks a
def ent(prog:Ω)(w:ah)(p:List Int×ζ):Int×ε:=(hk prog w p.1,.ref p.2)
structure m8(prog:Ω)(w:ah)(h:Ψ)(a:ζ)(o:aP)(es:Array (Int×ε))(ep:Nat)(t:bN)(xs:List (List Int×ζ)):Prop where
 at_:h.get? a=some o
 ex:o.ExactSet
 dat:o.data=.set es ep t
 ents:es.toList=xs.map (ent prog w)
 keys:∀p∈xs,jd prog w h p.1 p.2
 nd:(xs.map (·.1)).Nodup
 plain:t.plain=true
 led:t.led = !(w.params.followText "set-order")
structure lZ(w:ah)(h:Ψ)(a:ζ)(o:aP)(es:Array (Int×ε))(ep:Nat)(t:bN):Prop where
 at_:h.get? a=some o
 ex:o.ExactSet
 dat:o.data=.set es ep t
 plain:t.plain=true
 led:t.led = !(w.params.followText "set-order")
theorem m8.wk{prog:Ω}{w:ah}{h:Ψ}{a:ζ}{o:aP}{es:Array (Int×ε)}{ep:Nat}{t:bN}{xs:List (List Int×ζ)}(S:m8 prog w h a o es ep t xs):lZ w h a o es ep t:=⟨S.at_,S.ex,S.dat,S.plain,S.led⟩
theorem yS{es:Array (Int×ε)}:(es.toList.map (·.1)).length=es.size:=by simp
theorem vE{es:Array (Int×ε)}{t:bN}(T:um t (es.toList.map (·.1))):t.fits es.size=true:=by
 unfold bN.fits;have h1:=T.size;rw[yS] at h1;have h2:=T.MD;rw[yS] at h2;have h3:t.fill=es.size:=by
  unfold bN.fill;rw[h1,T.oK];rfl
 rw[h3,h1];simp;exact h2
theorem Tab.r{t:bN}{hs:List Int}(T:Tab t hs):um t hs:=by
 refine⟨T.mask,T.size,T.rise,T.bound,T.oK,?_,T.reach⟩;have:=T.room;lia
theorem TU{t:bN}(h:ko t.mask):t.gaveWay=false:=by
 unfold bN.gaveWay;rcases h with e|e|e<;>rw[e]<;>rfl
theorem TQ(n:Nat){v:ε}(h:carriedByValue v=true):ofAClassStatement n v=pure false:=by
 cases v with
 |ref a=>simp[carriedByValue] at h
 |_=>first|rfl|(cases n<;>rfl)
theorem KO{ks:List Int}{a:ζ}{Q:Bool->η->Prop}(hx:jd prog w s.heap ks a)(h:Q false s):ξ (model prog w) A (ofAClassStatement 8 (.ref a)) Q E s:=by
 have hT:=hx.typeIs;obtain⟨o,items,n,ho,hc,hd,hi⟩:=hx;unfold ofAClassStatement;refine δ (j4 hT ?_);dsimp only;rw[if_pos (by decide)];refine δ (μ ?_);rw[if_neg (by decide)];refine δ (bY ho hd ?_);dsimp only;refine δ ?_;rw[←uF];refine i5 _ (fun rest r s'=>r.1=none/\s'=s/\∀v∈rest,carriedByValue v=true) _ ?_ ?_ _ _ ⟨rfl,rfl,hi.byValue⟩
 ·rintro v rest r s' ⟨hr,rfl,hall⟩;rw[TQ _ (hall v χ)];refine δ (μ ?_);rw[if_neg ar];exact μ ⟨rfl,rfl,fun u hu'=>hall u (ψ _ hu')⟩
 ·rintro⟨r1,r2⟩ s' ⟨hr,rfl,_⟩;simp only at hr;subst hr;exact μ h
theorem TN{ks:List Int}{a:ζ}{Q:Bool->η->Prop}(hx:jd prog w s.heap ks a)(l:List ε)(hl:∀v∈l,∃k y,v=.ref y/\jd prog w s.heap k y)(h:Q false s):
  ξ (model prog w) A (searchCouldBeSeen (.ref a) l) Q E s:=by
 unfold searchCouldBeSeen;refine δ ?_;refine i5 _ (fun rest r s'=>r.1=none/\s'=s/\∀v∈rest,∃k y,v=.ref y/\jd prog w s.heap k y) _ ?_ ?_ _ _ ⟨rfl,rfl,hl⟩
 ·rintro v rest r s' ⟨hr,rfl,hall⟩;obtain⟨k,y,rfl,hy⟩:=hall v χ;have hrest:∀v∈rest,∃k y,v=aH y/\jd prog w s'.heap k y:=fun v hv=>hall v (ψ _ hv);dsimp only;by_cases hc:((a==y)||(carriedByValue (.ref a)&&carriedByValue (.ref y)))=true
  ·rw[if_pos hc];exact μ ⟨rfl,rfl,hrest⟩
  ·rw[if_neg hc];refine δ (wpAny_eqIsQuiet_tuple hx ?_);rw[if_neg (by decide)];refine δ (wpAny_eqIsQuiet_tuple hy ?_);rw[if_neg (by decide)];refine δ (KO hx ?_);rw[if_neg ar];refine δ (KO hy ?_);rw[if_neg ar];exact μ ⟨rfl,rfl,hrest⟩
 ·rintro⟨r1,r2⟩ s' ⟨hr,rfl,_⟩;simp only at hr;subst hr;exact μ h
theorem TM{ks:List Int}{a:ζ}{Q:Bool->η->Prop}(hx:jd prog w s.heap ks a)(h:Q true s):ξ (model prog w) A (hashByValue 8 (.ref a)) Q E s:=by
 have hT:=hx.typeIs;obtain⟨o,items,n,ho,hc,hd,hi⟩:=hx;unfold hashByValue;refine δ (qw hT F.slot_tuple_hash.lookup ?_);dsimp only;refine δ (bY ho hd ?_);refine δ ?_;show ξ _ _ (forIn items _ _) _ _ s;rw[←uF];refine i5 _ (fun rest r s'=>r.1=none/\s'=s/\∃l,ItemsAre (intKind prog w) l rest) _ ?_ ?_ _ _ ⟨rfl,rfl,ks,hi⟩
 ·rintro v rest r s' ⟨hr,rfl,l,hl⟩;cases hl with
  |@cons k v' _ _ h1 h2=>
   obtain⟨tk,rfl⟩:=iy (k:=k) h1;have e:hashByValue 7 (.int k tk)=pure true:=by rfl
   rw[e];refine δ (μ ?_);rw[if_neg (by decide)];exact μ ⟨rfl,rfl,_,h2⟩
 ·rintro⟨r1,r2⟩ s' ⟨hr,rfl,_⟩;simp only at hr;subst hr;exact μ h
theorem TL{es:Array (Int×ε)}{xs:List (List Int×ζ)}(he:es.toList=xs.map (ent prog w)){i:Nat}(hi:i<es.size):∃p,xs[i]?=some p/\es[i]?=some (ent prog w p):=by
 have hl:xs.length=es.size:=by
  have:=congrArg ij he;simpa using this.symm
 obtain⟨p,hp⟩:∃p,xs[i]?=some p:=⟨xs[i]'(by lia),aB (by lia)⟩;refine⟨p,hp,?_⟩;rw[←bj,he,aI,hp];rfl
theorem KN{a:ζ}{o:aP}{es:Array (Int×ε)}{ep:Nat}{t:bN}{xs:List (List Int×ζ)}(S:m8 prog w s.heap a o es ep t xs)(T:Tab t (es.toList.map (·.1)))(hu:A.units<cLine)
  {ks:List Int} {x:ζ} (hx:jd prog w s.heap ks x) {ke:Nat} (hke:ke≤10*t.mask+130) (hemp:(sq t.mask (hk prog w ks) ke).j∉t.place.toList) (hliv:∀k,k<ke->(sq t.mask (hk prog w ks) k).j∈t.place.toList)
  {Q:SetFound->η->Prop} (hin:ks∈xs.map (·.1)->Q (.there none) s) (hout:ks∉xs.map (·.1)->Q (.free (sq t.mask (hk prog w ks) ke).j false) s):
  ∀(fuel n:Nat) (stand:Option bN.Probe),stand.getD (t.probeStart (hk prog w ks))=sq t.mask (hk prog w ks) n->n≤ke->ke-n<fuel ->
   (∀(k' i':Nat) p,k' < n->t.place[i']?=some (sq t.mask (hk prog w ks) k').j->xs[i']?=some p->p.1≠ks) ->
   ξ (model prog w) A (setSearchFrom a (.ref x) (hk prog w ks) true fuel stand) Q E s
 |0,n,stand,_,_,hf,_=>by lia
 |fuel+1,n,stand,hst,hn,hf,hprev=>by
  have hsz:t.place.size=es.size:=by
   have:=T.size
   rw[yS] at this
   exact this
  have hfit:=vE (Tab.r T)
  have hal:∀(i:Nat) (p:List Int×ζ),xs[i]?=some p->((es[i]?).map fun z:Int×ε=>z.1).getD 0=hk prog w p.1:=fun i p hp=>by
   rw[←bj,S.ents,aI,hp]
   rfl
  unfold setSearchFrom
  refine δ (dg S.at_ S.dat hfit ?_)
  dsimp only
  rw[TU T.mask,if_neg ar,hst]
  obtain⟨met,e,m⟩:=TZ T (hashAt:=fun i=>((es[i]?).map fun z:Int×ε=>z.1).getD 0) hke hemp hliv hn
  erw [e]
  dsimp only
  cases m with
  |free h1 h5=>
   dsimp only
   refine μ (hout fun hmem=>?_)
   obtain⟨p,hp,rfl⟩:=aj.mp hmem
   obtain⟨i,hi⟩:=gC hp
   have hil:i<es.size:=by
    have h1:=(ak.mp hi).1
    have h2:=congrArg ij S.ents
    simp at h2
    lia
   have hj:∃j,t.place[i]?=some j:=⟨t.place[i]'(by lia),by simp⟩
   obtain⟨j,hj⟩:=hj
   have hz:(j,hk prog w p.1)∈t.place.toList.zip (es.toList.map (·.1)):=by
    refine bE (i:=i) ?_
    rw[List.getElem?_zip_eq_some]
    refine⟨by rw[bj];exact hj,?_⟩
    rw[S.ents,cZ,aI,hi]
    rfl
   obtain⟨k,hk1,hk2⟩:=T.reach _ _ hz
   have hkke:k<ke:=by
    refine aK fun z=>hemp ?_
    by_cases q:k=ke
    ·rw[←q,hk1]
     exact bE (by rw[bj];exact hj)
    ·exact hk2 ke (by lia)
   rw[←hk1] at hj
   by_cases hkn:k<n
   ·exact hprev k i p hkn hj hi rfl
   ·exact h5 k i (by lia) hkke hj (hal i p hi)
  |@Cn k i h1 h2 h3 h4 h5=>
   dsimp only
   have hil:i<es.size:=by
    have:=(aN.mp h3).1
    lia
   obtain⟨p,hp,hesi⟩:=TL S.ents hil
   have hyk:=S.keys p (bE hp)
   have hpk:p∈xs:=bE hp
   have go:ξ (model prog w) A (do
     let some (_,y):=es[i]? | unsupported "internal:set-entry"
     let equal ←holding [y] (eqBool y (.ref x))
     let (es',_,t') ←setState a
     if true&&equal then return .there none
     let some same:=t'.sameMemory t.moves t.mask|unsupported "set.changed-during-lookup:is-the-new-block-at-the-old-address"
     let still ←match (if same then t'.slot (sq t.mask (hk prog w ks) k).j else .empty) with
      |.live i'=>match es'[i']? with
       |some (_,y')=>do pure (if ←isSame y' y then some i' else none)
       |none=>pure none
      |_=>pure none
     match still with
     |none=>rule "set.search.anew";setSearchFrom a (.ref x) (hk prog w ks) true fuel none
     | some i'=>if equal then return .there (some i') else setSearchFrom a (.ref x) (hk prog w ks) true fuel (some (sq t.mask (hk prog w ks) (k+1)))) Q E s:=by
    rw[hesi]
    dsimp only[ent]
    refine δ (aZ (wpAny_eqBool_tuple hu hyk hx ?_))
    refine δ (dg S.at_ S.dat hfit ?_)
    dsimp only
    by_cases heq:p.1=ks
    ·rw[decide_eq_true heq,if_pos (by decide)]
     exact μ (hin (aj.mpr ⟨p,hpk,heq⟩))
    ·rw[decide_eq_false heq,if_neg (by decide)]
     have hsm:t.sameMemory t.moves t.mask=some true:=by unfold bN.sameMemory;simp
     rw[hsm]
     dsimp only
     rw[if_pos rfl,KW T.rise h3]
     dsimp only
     rw[hesi]
     dsimp only[ent]
     refine δ (wpAny_isSame_ref_self ?_)
     rw[if_pos rfl]
     refine δ (μ ?_)
     dsimp only
     rw[if_neg ar]
     refine KN S T hu hx hke hemp hliv hin hout fuel (k+1) _ rfl (by lia) (by lia) fun k' i' p' hk' hpl hp'=>?_
     by_cases hkn:k' < n
     ·exact hprev k' i' p' hkn hpl hp'
     ·by_cases hkk:k'=k
      ·subst hkk
       have e1:=below_at T.rise h3
       have e2:=below_at T.rise hpl
       have:i'=i:=by lia
       subst this
       rw[hp] at hp'
       cases hp'
       exact heq
      ·intro he
       exact h5 k' i' (by lia) (by lia) hpl (by rw[hal i' p' hp',he])
   by_cases hled:t.led=true
   ·rw[hled]
    rw[if_neg (by decide)]
    exact go
   ·have hled':t.led=false:=by simpa using hled
    rw[hled']
    rw[if_pos (by decide)]
    refine δ (TN hx _ (fun v hv=>?_) ?_)
    ·obtain⟨e0,he0,rfl⟩:=aj.mp hv
     have he1:e0∈es.toList:=by
      have:=gE.mp he0
      exact gE.mpr (Array.mem_filter.mp this).1
     rw[S.ents] at he1
     obtain⟨p0,hp0,rfl⟩:=aj.mp he1
     exact⟨p0.1,p0.2,rfl,S.keys p0 hp0⟩
    ·rw[if_neg ar]
     exact go
end
end jX
namespace jX
open PySem pJ
section
variable {prog:Ω} {w:ah} {A:aE} {E:ε->η->Prop} {s:η}
def mZ(prog:Ω)(w:ah)(h:Ψ)(a:ζ)(xs:List (List Int×ζ)):Prop:=
 ∃o es ep t,m8 prog w h a o es ep t xs/\Tab t (es.toList.map (·.1))
theorem Bh{h h':Ψ}{a y:ζ}{ks:List Int}{o:aP}{es:Array (Int×ε)}{ep:Nat}{t:bN}(ho:h.get? a=some o)(hd:o.data=.set es ep t)(sb:et a h h')(hy:jd prog w h ks y):jd prog w h' ks y:=by
 obtain⟨oy,items,n,hoy,hc,hdy,hi⟩:=hy;have ne:y≠a:=by
  intro e;subst e;rw[ho] at hoy;cases hoy;rw[hd] at hdy;cases hdy
 exact⟨oy,items,n,(sb.2 y ne).trans hoy,hc,hdy,hi⟩
theorem KL{h:Ψ}{a:ζ}{o:aP}{es es':Array (Int×ε)}{ep:Nat}{t t':bN}(ho:h.get? a=some o)(hd:o.data=.set es ep t):
  (h.update a (oV es' t')).get? a=some { o with data:=.set es' (ep+1) t' }:=by
 have q:=bu (oV es' t') ho (by rw[putSet_of es' t' hd];rfl);rw[putSet_of es' t' hd] at q;exact q
theorem TK:∀n,n<8->5≤n->nE (iK n)=32:=by decide +kernel
theorem TJ:∀n,n<32->19≤n->nE (iK n)=128:=by decide +kernel
theorem TH{t:bN}{hs:List Int}(T:um t hs)(hf:t.tooFull=true)(h64:hs.length≤64):∃m,nE (iK hs.length)=m+1/\ko m/\hs.length*5<m*3/\m+1≤128:=by
 have hfill:t.fill=hs.length:=by
  unfold bN.fill;rw[T.size,T.oK];rfl
 have h':hs.length*5≥t.mask*3:=by
  unfold bN.tooFull at hf;rw[hfill] at hf;simpa using hf
 have hfit:=T.MD;rcases T.mask with e|e|e
 ·rw[e] at h' hfit;exact⟨31,TK _ (by lia) (by lia),.inr (.inl rfl),by lia,by lia⟩
 ·rw[e] at h' hfit;exact⟨127,TJ _ (by lia) (by lia),.inr (.inr rfl),by lia,by lia⟩
 ·rw[e] at h';lia
theorem TF{α β:Type}(f:α->β)(l:List α)(o:List Nat):(o.filterMap fun k=>(l.map f)[k]?)=(o.filterMap fun k=>l[k]?).map f:=by
 rw[uz];congr 1;funext k;rw[aI]
theorem TC{a:ζ}{o:aP}{es:Array (Int×ε)}{ep:Nat}{t:bN}{xs:List (List Int×ζ)}(S:m8 prog w s.heap a o es ep t xs)(T:um t (es.toList.map (·.1)))(hf:t.tooFull=true)(h64:es.size≤64)
  {Q:Unit->η->Prop} (h:∀h' xs',et a s.heap h'->mZ prog w h' a xs'->xs'.Perm xs->Q () { s with heap:=h' }):
  ξ (model prog w) A (setRelay a (iK es.size)) Q E s:=by
 have hsz:(es.toList.map (·.1)).length=es.size:=yS
 obtain⟨m,hm1,hm2,hm3,hm4⟩:=TH T hf (by rw[hsz];exact h64)
 rw[hsz] at hm1 hm3
 unfold setRelay
 refine δ (dg S.at_ S.dat (vE T) ?_)
 dsimp only
 rw[hm1,if_neg (by rw[cH];lia)]
 obtain⟨t2,order,e2,em,el,ep2,ef,hperm,T2⟩:=TV (finger:=t.finger) (moves:=t.movedTo m) (led:=t.led) (plain:=t.plain) hm2 (es.map (·.1)) (by simpa using hm3)
 have erel:t.relaid (es.map (·.1)) (iK es.size)=some (t2,order):=by
  unfold bN.relaid
  rw[hm1,Nat.add_sub_cancel]
  exact e2
 have hosz:(es.map (·.1)).size=es.size:=by simp
 rw[hosz] at hperm
 have hes2:(order.filterMap (es[·]?)).toList=(order.toList.filterMap fun k=>xs[k]?).map (ent prog w):=by
  rw[rl,←TF,←S.ents]
  congr 1
  funext k
  rw[bj]
 have hxl:xs.length=es.size:=by
  have:=congrArg ij S.ents
  simpa using this.symm
 have hxp:(order.toList.filterMap fun k=>xs[k]?).Perm xs:=by
  have:=hperm.filterMap fun k=>xs[k]?
  rw[←hxl,Ex] at this
  exact this
 have hsz2:(order.filterMap (es[·]?)).size=es.size:=by
  have:=congrArg ij hes2
  simp only[π] at this
  rw[hxp.length_eq,hxl] at this
  rw[←fP]
  exact this
 refine δ ?_
 show ξ _ _ (do
  let some (t,order):=t.relaid (es.map (·.1)) (iK es.size)|unsupported "internal:set-table-without-room"
  let es':=order.filterMap (es[·]?)
  if es'.size != es.size then unsupported "internal:set-table-lost-an-element"
  pure (es',t)) _ _ _
 rw[erel]
 dsimp only
 rw[hsz2,if_neg (by simp)]
 refine μ ?_
 dsimp only
 refine wpAny_storeSet_of S.at_ S.dat ?_ (by rw[hsz2,cH];lia)
 have sb:=cy s.heap a (oV (order.filterMap (es[·]?)) t2)
 refine h _ _ sb ⟨_,_,_,_,⟨KL S.at_ S.dat,⟨S.ex.1,S.ex.2.1,S.ex.2.2⟩,rfl,hes2,fun p hp=>Bh S.at_ S.dat sb (S.keys p (hxp.mem_iff.mp hp)),?_,ep2.trans S.plain,el.trans S.led⟩,?_⟩ hxp
 ·exact (hxp.map _).nodup_iff.mpr S.nd
 ·have eT:(order.filterMap (es[·]?)).toList.map (·.1)=order.toList.filterMap fun k=>(es.map (·.1))[k]?:=by
   rw[rl,uz]
   congr 1
   funext k
   simp
  rw[eT]
  exact T2
theorem TB{a:ζ}{xs:List (List Int×ζ)}(S:mZ prog w s.heap a xs)(h64:xs.length<64)(hu:A.units<cLine){ks:List Int}{x:ζ}(hx:jd prog w s.heap ks x)
  {Q:Bool->η->Prop} (h:∀b h' tk xs',s.toks≤tk->et a s.heap h'->mZ prog w h' a xs'->(ks∈xs.map (·.1)->xs'.Perm xs)->(ks∉xs.map (·.1)->xs'.Perm ((ks,x)::xs))->Q b { s with heap:=h',toks:=tk }):
  ξ (model prog w) A (setAdd a (.ref x)) Q E s:=by
 obtain⟨o,es,ep,t,S,T⟩:=S;have hxl:xs.length=es.size:=by
  have:=congrArg ij S.ents;simpa using this.symm
 unfold setAdd;refine aZ (δ (wpAny_pyHash_tuple hu hx ?_));unfold setAddHashed;refine aZ ?_;have mL:∀b h' xs',et a s.heap h'->mZ prog w h' a xs'->(ks∈xs.map (·.1)->xs'.Perm xs)->(ks∉xs.map (·.1)->xs'.Perm ((ks,x)::xs))->Q b { s with heap:=h',toks:=s.toks+(ks.length+1)}:=
  fun b h' xs' q1 q2 q3 q4=>h b h' _ xs' (gP _ _) q1 q2 q3 q4
 obtain⟨ke,hke,hemp,hliv⟩:=T1 T (hk prog w ks);unfold setAddHashedIn;refine δ (dg (s:={ s with toks:=s.toks+(ks.length+1)}) S.at_ S.dat (vE (Tab.r T)) ?_);dsimp only;rw[show byScan (.ref x) es=false from rfl,if_neg ar];refine δ ?_;unfold setSearch;refine KN (s:={ s with toks:=s.toks+(ks.length+1)}) S T hu hx hke hemp hliv (fun hin=>?_) (fun hout=>?_) 100000 0 none rfl (ba _) (by rcases T.mask with e|e|e<;>rw[e] at hke<;>lia) fun k' i' p hk'=>absurd hk' (Nat.not_lt_zero _)
 ·dsimp only;exact μ (mL false s.heap xs (.refl _ _) ⟨o,es,ep,t,S,T⟩ (fun _=>.refl _) fun z=>absurd hin z)
 ·dsimp only;refine δ (dg (s:={ s with toks:=s.toks+(ks.length+1)}) S.at_ S.dat (vE (Tab.r T)) ?_);dsimp only;rw[TY T.oK];dsimp only;rw[S.plain,if_pos rfl];refine δ (TM (s:={ s with toks:=s.toks+(ks.length+1)}) hx ?_);rw[if_pos rfl];have TR:=T.put hemp hliv;generalize hp:iL t.place (sq t.mask (hk prog w ks) ke).j=p at TR ⊢;have hes1:(bR es p (hk prog w ks,aH x)).toList=(xs.take p++(ks,x)::xs.drop p).map (ent prog w):=by
   rw[vF,S.ents,cg,bP,tm,tu];rfl
  have hhs:(bR es p (hk prog w ks,aH x)).toList.map (·.1)=(es.toList.map (·.1)).take p++hk prog w ks::(es.toList.map (·.1)).drop p:=by
   rw[vF,cg,bP,tm,tu]
  have hsz1:(bR es p (hk prog w ks,aH x)).size=es.size+1:=by
   rw[←fP,vF,(xu p es.toList _).length_eq,aL,fP]
  rw[←hhs] at TR;refine δ (wpAny_storeSet_of (s:={ s with toks:=s.toks+(ks.length+1)}) S.at_ S.dat ?_ (by rw[hsz1,cH];lia));have sb:=cy s.heap a (oV (bR es p (hk prog w ks,aH x)) { t with place:=bR t.place p (sq t.mask (hk prog w ks) ke).j,dummies:=#[],plain:=true });have hpx:(xs.take p++(ks,x)::xs.drop p).Perm ((ks,x)::xs):=xu p xs _;have S1:m8 prog w (s.heap.update a (oV (bR es p (hk prog w ks,aH x)) { t with place:=bR t.place p (sq t.mask (hk prog w ks) ke).j,dummies:=#[],plain:=true })) a { o with data:=.set (bR es p (hk prog w ks,aH x)) (ep+1) { t with place:=bR t.place p (sq t.mask (hk prog w ks) ke).j,dummies:=#[],plain:=true }} (bR es p (hk prog w ks,aH x)) (ep+1)
    { t with place:=bR t.place p (sq t.mask (hk prog w ks) ke).j,dummies:=#[],plain:=true } (xs.take p++(ks,x)::xs.drop p):=by
   refine⟨KL S.at_ S.dat,⟨S.ex.1,S.ex.2.1,S.ex.2.2⟩,rfl,hes1,fun q hq=>?_,?_,rfl,S.led⟩
   ·rcases Δ.mp (hpx.mem_iff.mp hq) with e|e
    ·rw[e];exact Bh S.at_ S.dat sb hx
    ·exact Bh S.at_ S.dat sb (S.keys q e)
   ·refine (hpx.map _).nodup_iff.mpr ?_;rw[bP,dm];exact⟨hout,S.nd⟩
  have TR':um { t with place:=bR t.place p (sq t.mask (hk prog w ks) ke).j,dummies:=#[],plain:=true } ((bR es p (hk prog w ks,aH x)).toList.map (·.1)):=
   ⟨TR.mask,TR.size,TR.rise,TR.bound,TR.oK,TR.MD,TR.reach⟩
  by_cases hfull:({ t with place:=bR t.place p (sq t.mask (hk prog w ks) ke).j,dummies:=#[],plain:=true }:bN).tooFull=true
  ·rw[hfull,if_pos (by decide)];refine δ ?_;rw[←hsz1];refine TC (s:={ s with heap:=s.heap.update a _,toks:=s.toks+(ks.length+1)}) S1 TR' hfull (by rw[hsz1];lia) fun h' xs' sb' S2 pm=>?_;exact μ (mL true h' xs' (sb.trans sb') S2 (fun z=>absurd z hout) fun _=>pm.trans hpx)
  ·have hfull':({ t with place:=bR t.place p (sq t.mask (hk prog w ks) ke).j,dummies:=#[],plain:=true }:bN).tooFull=false:=by simpa using hfull
   rw[hfull',if_neg (by decide)];exact μ (mL true _ _ sb ⟨_,_,_,_,S1,TR'.tab hfull'⟩ (fun z=>absurd z hout) fun _=>hpx)
end
end jX
namespace jX
open PySem pJ
theorem gZ:Slot "set_iterator" "__next__" "set_iterator.__next__":=
 .of (owner:="set_iterator") (n:="__next__")
  (by rw[typeLookup_type,builtinLookup_eq_fast];kernel_rfl)
  (by decide +kernel) (by decide +kernel) (by decide +kernel)
  (by first|exact .inl (by decide +kernel)|exact .inr (by decide +kernel))
  (by rw[rK];kernel_rfl)
theorem KJ:Slot "set_iterator" "__iter__" "set_iterator.__iter__":=
 .of (owner:="set_iterator") (n:="__iter__")
  (by rw[typeLookup_type,builtinLookup_eq_fast];kernel_rfl)
  (by decide +kernel) (by decide +kernel) (by decide +kernel)
  (by first|exact .inl (by decide +kernel)|exact .inr (by decide +kernel))
  (by rw[rK];kernel_rfl)
theorem KI:entryFor table "set_iterator.__next__" = some cS.«set_iterator.__next__»:=entryFor_of_tree (by kernel_rfl)
theorem Tz:entryFor table "set.__iter__" = some cS.«frozenset.__iter__»:=
 entryFor_alias (id':="frozenset.__iter__") (by rw[fastTable_eq_tree];kernel_rfl) (by decide +kernel) (by decide +kernel) (by rw[fastTable_eq_tree];kernel_rfl)
theorem KH:Manifest.owners.lookup (String.ofList ['r','o','t','a','r','e','t','i','_','t','e','s'].reverse)=some Manifest.sig_set_iterator:=by kernel_rfl
theorem KG(a:ε):argsOk "set_iterator.__next__" ⟨[a],[]⟩:=by
 unfold argsOk;rw[signature?_of (id:="set_iterator.__next__") (n:=['_','_','t','x','e','n','_','_']) (o:=['r','o','t','a','r','e','t','i','_','t','e','s']) (by kernel_rfl) KH]
 kernel_rfl
theorem KE{α:Type}(next:Nat->Nat):∀(fuel k:Nat) (left:List α) (out:Array α),left.length≤fuel->(pickOrder.go next fuel k left out).toList.Perm (out.toList++left)
 |0,k,left,out,h=>by
  have:left=[]:=gX.mp (by lia);subst this;show out.toList.Perm (out.toList++[]);rw[bh]
 |fuel+1,k,left,out,h=>by
  unfold pickOrder.go;cases hl:left[next k%left.length]? with
  |none=>
   have:left=[]:=by
    cases left with
    |nil=>rfl
    |cons a l=>
     have:=hJ (next k) (show 0<(a::l).length by simp)
     rw[aB this] at hl;cases hl
   subst this;show out.toList.Perm (out.toList++[]);rw[bh]
  |some x=>
   have hlt:=(ak.mp hl).1;have ih:=KE next fuel (k+1) (left.eraseIdx (next k%left.length)) (out.push x) (by rw[List.length_eraseIdx];split<;>lia)
   refine ih.trans ?_;rw[Array.toList_push,fC];refine List.Perm.append_left _ ?_;obtain⟨_,e⟩:=ak.mp hl;rw[←e,List.eraseIdx_eq_take_drop_succ];have q:=List.perm_middle (a:=left[next k%left.length]) (l₁:=left.take (next k%left.length)) (l₂:=left.drop (next k%left.length+1))
   rw[rf,lF] at q;exact q.symm
theorem Tx{α:Type}(next:Nat->Nat)(xs:Array α):(pickOrder next xs).toList.Perm xs.toList:=by
 have:=KE next xs.size 0 xs.toList #[] (by simp)
 unfold pickOrder;simpa using this
def kP(w:ah):Bool:=w.params.followText "set-order"
def iR(w:ah)(a:ζ)(ep:Nat)(es:Array (Int×ε)):List (Int×ε):=if kP w then (pickOrder (w.params.setOrder a ep) es).toList else es.toList
theorem oI(w:ah)(a:ζ)(ep:Nat)(es:Array (Int×ε)):(iR w a ep es).Perm es.toList:=by
 unfold iR;split
 ·exact Tx _ _
 ·exact .refl _
def m9(h:Ψ)(it a:ζ)(slot i n ep:Nat):Prop:=h.get? it=some { cls:=.type "set_iterator",data:=.fields #[rawInt slot,rawInt i,.ref a,rawInt n,rawInt ep]}
def rB(w:ah)(t:bN)(slot i:Nat):Prop:=kP w=true∨iL t.place slot=i
section
variable {prog:Ω} {w:ah} {A:aE} {E:ε->η->Prop} {s:η}
theorem Ew{Q:Bool->η->Prop}(h:Q (kP w) s):ξ (model prog w) A setsByText Q E s:=by
 unfold setsByText;exact δ (pO (μ h))
theorem Tw{a:ζ}{o:aP}{es:Array (Int×ε)}{ep:Nat}{t:bN}(S:lZ w s.heap a o es ep t)(T:Tab t (es.toList.map (·.1)))
  {Q:ε->η->Prop} (h:Q (.ref s.heap.objs.size) { s with heap:=s.heap.push { cls:=.type "set_iterator",data:=.fields #[rawInt (0:Nat),rawInt (0:Nat),.ref a,rawInt es.size,rawInt ep]}}):
  ξ (model prog w) A (pyIter (.ref a)) Q E s:=by
 have hT:s.TypeIs (.ref a) "set":=⟨o,S.at_,S.ex.1⟩;have hfit:=vE (Tab.r T);refine wpAny_pyIter_slot hT F.slot_set_iter (cA F.slot_set_iter hT Tz ?_ (F.args_set_iter_1 _));unfold cS.«frozenset.__iter__»;show ξ _ _ (ql "__iter__" ⟨[.ref a],[]⟩ >>= _) _ _ s;refine δ (m:=ql "__iter__" ⟨[.ref a],[]⟩) (ib (a:=a) rfl ?_);unfold cS.Frozenset.sizeOf setEntries;refine δ (δ (δ (dg S.at_ S.dat hfit (μ (μ ?_)))));unfold setDrawn;refine δ (δ (dg S.at_ S.dat hfit ?_));refine δ (Ew (μ ?_));have hnd:(!kP w&&(!t.plain&&decide (es.size > 1)))=false:=by rw[S.plain];simp
 show ξ _ _ (if (!kP w&&(!t.plain&&decide (es.size > 1)))=true then _ else _) _ _ s;rw[hnd,if_neg ar];refine δ (μ ?_);refine δ (wpAny_setEpoch_of S.at_ S.dat hfit ?_);refine δ ?_;unfold newFields;refine bG ?_;refine μ ⟨_,rfl,"set_iterator",_,⟨_,af _ rfl,rfl⟩,gZ.lookup,h⟩
theorem KD{a:ζ}{o:aP}{es:Array (Int×ε)}{ep:Nat}{t:bN}(S:lZ w s.heap a o es ep t)(T:Tab t (es.toList.map (·.1))){slot i:Nat}(hsl:rB w t slot i)
  {Q:Option (ε×Nat)->η->Prop} (h1:∀p slot',(iR w a ep es)[i]?=some p->rB w t slot' (i+1)->Q (some (p.2,slot')) s) (h2:(iR w a ep es)[i]?=none->Q none s):
  ξ (model prog w) A (setNext a slot i ep) Q E s:=by
 have hfit:=vE (Tab.r T);have hsz:t.place.size=es.size:=by
  have:=T.size;rw[yS] at this;exact this
 unfold setNext;refine δ (dg S.at_ S.dat hfit ?_);dsimp only;refine δ (Ew ?_);unfold iR at h1 h2;cases hbt:kP w with
 |true=>
  rw[hbt] at h1 h2;rw[if_pos rfl];simp only[if_true,bj] at h1 h2;rw[if_neg (by simp)];unfold setWalk;refine δ (δ (dg S.at_ S.dat hfit ?_));dsimp only;refine δ (Ew ?_);rw[hbt,if_pos rfl];refine δ (pO (μ ?_));refine μ ?_;show Q (sM (fun e=>(e.snd,slot)) (pickOrder (w.params.setOrder a ep) es)[i]?) s;cases hp:(pickOrder (w.params.setOrder a ep) es)[i]? with
  |none=>exact h2 hp
  |some p=>exact h1 p slot hp (.inl hbt)
 |false=>
  rw[hbt] at h1 h2;rw[if_neg ar];simp only[cI,if_false,bj] at h1 h2;have hled:t.led=true:=by
   rw[S.led];show (!kP w)=true;rw[hbt];rfl
  have hb:iL t.place slot=i:=by
   rcases hsl with z|z
   ·rw[hbt] at z;cases z
   ·exact z
  have hnd:(!t.plain&&decide (es.size > 1))=false:=by rw[S.plain];simp
  show ξ _ _ (if (!t.plain&&decide (es.size > 1))=true then _ else _) _ _ s;rw[hnd,if_neg ar];refine δ ?_;show ξ _ _ (if (!t.led && !es.isEmpty)=true then _ else _) _ _ s;rw[hled,if_neg (by simp)];refine μ ?_;rw[hb];cases hp:es[i]? with
  |none=>
   refine μ ?_;have hpl:t.place[i]?=none:=by
    have:=jj.mp hp;exact jj.mpr (by lia)
   exact h2 hp
  |some p=>
   have hil:=(aN.mp hp).1;have hj:t.place[i]?=some (t.place[i]'(by lia)):=by simp[hsz,hil]
   rw[hj];obtain⟨ph,pv⟩:=p;refine μ (h1 (ph,pv) _ hp (.inr ?_))
   -- the next place
   obtain⟨b0,b1,b2⟩:=Bi (j:=t.place[i]'(by lia)+1) T.rise;refine aK fun bZ=>?_;by_cases hlt:iL t.place (t.place[i]'(by lia)+1)≤i
   ·have:=b2 i _ hlt hj;lia
   ·have hgt:i+1<iL t.place (t.place[i]'(by lia)+1):=by lia
    have hi1:i+1<t.place.size:=by lia
    have e1:t.place[i+1]?=some (t.place[i+1]):=by simp[hi1]
    have q:=b1 (i+1) _ hgt e1;have pw:=dO.mp T.rise i (i+1) (by simp;lia) (by simpa using hi1) (fS i);simp at pw;lia
theorem Eu{it a:ζ}{slot i n ep:Nat}(hit:m9 s.heap it a slot i n ep):s.TypeIs (.ref it) "set_iterator":=⟨_,hit,rfl⟩
theorem KC{a it:ζ}{o:aP}{es:Array (Int×ε)}{ep:Nat}{t:bN}(S:lZ w s.heap a o es ep t)(T:Tab t (es.toList.map (·.1))){slot i:Nat}(hit:m9 s.heap it a slot i es.size ep)
  {P:PySem.Fin->η->Prop} (h:ξ (model prog w) A (do
   match ←setNext a slot i ep with
   |some (x,next)=>
    setField (.ref it) 0 (rawInt next)
    setField (.ref it) 1 (rawInt ((i:Int)+1))
    ret x
   | none=>setField (.ref it) 2 .none;raiseNew (←newExc (.type "StopIteration") [])) P E s):
  ξ (model prog w) A (cS.«set_iterator.__next__» ⟨[.ref it],[]⟩) P E s:=by
 have hfit:=vE (Tab.r T);unfold cS.«set_iterator.__next__»;refine δ (m:=slotArgs "__next__" 0 ⟨[.ref it],[]⟩) (ib (a:=(.ref it,[])) rfl ?_);refine δ (wpAny_fieldsOf hit rfl ?_);dsimp only[rawInt];unfold setEntries;refine δ (δ (dg S.at_ S.dat hfit (μ ?_)));rw[if_neg (by simp)];exact h
theorem Tv{a it:ζ}{o:aP}{es:Array (Int×ε)}{ep:Nat}{t:bN}(S:lZ w s.heap a o es ep t)(T:Tab t (es.toList.map (·.1))){slot i:Nat}(hsl:rB w t slot i)(hit:m9 s.heap it a slot i es.size ep)
  {p:Int×ε} (hp:(iR w a ep es)[i]?=some p) {Q:Option ε->η->Prop}
  (h:∀h' slot',m9 h' it a slot' (i+1) es.size ep->rB w t slot' (i+1)->et it s.heap h'->Q (some p.2) { s with heap:=h' }):ξ (model prog w) A (pyNext (.ref it)) Q E s:=by
 have hT:=Eu hit;unfold pyNext;refine δ (gv (bS (name:=ee "__next__") hT gZ
  (cA gZ hT KI (KC S T hit (δ (KD S T hsl (fun q slot' hq hs'=>?_) fun hn=>?_))) (KG _))))
 ·rw[hp] at hq;cases hq;dsimp only;refine δ (dn hit (by simp) fun h1 e1 sb1=>?_);refine δ (dn (s:={ s with heap:=h1 }) e1 (by simp) fun h2 e2 sb2=>?_)
  refine μ ⟨_,rfl,μ (h h2 slot' ?_ hs' (sb1.trans sb2))⟩;unfold m9;rw[e2];rfl
 ·rw[hp] at hn;cases hn
theorem Tu{a it:ζ}{o:aP}{es:Array (Int×ε)}{ep:Nat}{t:bN}(hh:A.handled=none)(S:lZ w s.heap a o es ep t)(T:Tab t (es.toList.map (·.1))){slot i:Nat}(hsl:rB w t slot i)(hit:m9 s.heap it a slot i es.size ep)
  (hp:(iR w a ep es)[i]?=none) {Q:Option ε->η->Prop}
  (h:∀h',kU it s.heap h'->Q none { s with heap:=h' }):ξ (model prog w) A (pyNext (.ref it)) Q E s:=by
 have hT:=Eu hit;unfold pyNext;refine δ (gv (bS (name:=ee "__next__") hT gZ
  (cA gZ hT KI (KC S T hit (δ (KD S T hsl (fun q slot' hq hs'=>?_) fun hn=>?_))) (KG _))))
 ·rw[hp] at hq;cases hq
 ·dsimp only;refine δ (dn hit (by simp) fun h1 e1 sb1=>?_);refine δ ?_;simp only[newExc,newTuple];refine δ (bG ?_ (by size_fits));refine δ (m:=firstArgMember _ _) (ib (a:=aS) (by first|rfl|(simp only[firstArgMember];rfl)) ?_)
  refine bG ?_ (by size_fits);simp only[raiseNew];refine δ (sY ?_);rw[show A.in1.handled=none from hh];refine δ (μ (qV ?_));refine δ (i4 (T:="StopIteration") (b:=true) ⟨_,af _ rfl,rfl⟩ mT ?_);refine μ (h _ fun b ob hb e=>?_);exact ι _ (ι _ ((sb1.2 b hb).trans e))
end
end jX
namespace jX
open PySem pJ
section
variable {prog:Ω} {w:ah} {A:aE} {E:ε->η->Prop} {s:η}
theorem m8.kept{h h':Ψ}{a:ζ}{o:aP}{es:Array (Int×ε)}{ep:Nat}{t:bN}{xs:List (List Int×ζ)}(S:m8 prog w h a o es ep t xs)
  (k:∀b∈a::xs.map (·.2),∀ob,h.get? b=some ob->h'.get? b=some ob):m8 prog w h' a o es ep t xs:=by
 refine⟨k a χ _ S.at_,S.ex,S.dat,S.ents,fun p hp=>?_,S.nd,S.plain,S.led⟩;obtain⟨oy,items,n,ho,r⟩:=S.keys p hp;exact⟨oy,items,n,k _ (ψ _ (aj.mpr ⟨p,hp,rfl⟩)) _ ho,r⟩
theorem lZ.kept{h h':Ψ}{a:ζ}{o:aP}{es:Array (Int×ε)}{ep:Nat}{t:bN}(S:lZ w h a o es ep t)
  (k:∀b∈[a],∀ob,h.get? b=some ob->h'.get? b=some ob):lZ w h' a o es ep t:=⟨k a χ _ S.at_,S.ex,S.dat,S.plain,S.led⟩
theorem lZ.Mh{h:Ψ}{a it:ζ}{o:aP}{es:Array (Int×ε)}{ep ep':Nat}{t:bN}{slot i n:Nat}{b:ζ}(S:lZ w h a o es ep t)(hit:m9 h it b slot i n ep'):
  ∀c∈[a],c≠it:=fun c hc e=>by
 subst e;unfold m9 at hit;rw[aV.mp hc,S.at_] at hit;cases hit;have:=S.dat;cases this
theorem Tt(hh:A.handled=none){a it:ζ}{o:aP}{es:Array (Int×ε)}{ep:Nat}{t:bN}(T:Tab t (es.toList.map (·.1))):
  Walks prog w A it ([it,a]) [it] es.size (fun i v=>∃p,(iR w a ep es)[i]?=some p/\v=p.2)
   (fun i h=>∃slot,m9 h it a slot i es.size ep/\rB w t slot i/\lZ w h a o es ep t) where
 sub:=fun b hb=>by
  have:b=it:=by simpa using hb
  simp[this]
 frame:=fun i h h' ⟨slot,h1,h2,h3⟩ k=>⟨slot,k it χ _ h1,h2,h3.kept fun b hb ob e=>k b (ψ _ hb) ob e⟩
 item:=fun i s Q E hi ⟨slot,h1,h2,h3⟩ hQ=>by
  have hlen:(iR w a ep es).length=es.size:=by rw[(oI w a ep es).length_eq];simp
  have hp:(iR w a ep es)[i]?=some ((iR w a ep es)[i]'(by lia)):=aB (by lia);refine Tv h3 T h2 h1 hp fun h' slot' q1 q2 sb=>?_;refine hQ _ h' s.toks ⟨_,hp,rfl⟩ ⟨slot',q1,q2,h3.kept fun b hb ob e=>(sb.2 b (h3.Mh h1 b hb)).trans e⟩ fun b ob hb e=>?_;exact (sb.2 b (by simpa using hb)).trans e
 done:=fun s Q E ⟨slot,h1,h2,h3⟩ hQ=>by
  have hlen:(iR w a ep es).length=es.size:=by rw[(oI w a ep es).length_eq];simp
  refine Tu hh h3 T h2 h1 (da.mpr (by lia)) fun h' q=>?_;exact hQ h' s.toks fun b ob hb e=>q b ob (by simpa using hb) e
 self:=fun i s Q E ⟨slot,h1,h2,h3⟩ h=>by
  have hT:=Eu h1;refine wpAny_pyIter_slot hT KJ (cA KJ hT (b:=cS.«dict_keyiterator.__iter__») ?_ ?_ ?_)
  ·exact entryFor_alias (id':="dict_keyiterator.__iter__") (by kernel_rfl) (by decide +kernel) (by decide +kernel) (by kernel_rfl)
  ·show ξ _ _ (ret (.ref it)) _ _ s;exact μ ⟨_,rfl,"set_iterator",_,hT,gZ.lookup,h⟩
  ·unfold argsOk;rw[signature?_of (id:="set_iterator.__iter__") (n:=['_','_','r','e','t','i','_','_']) (o:=['r','o','t','a','r','e','t','i','_','t','e','s']) (by kernel_rfl) KH]
   kernel_rfl
theorem wZ(hh:A.handled=none){a:ζ}{o:aP}{es:Array (Int×ε)}{ep:Nat}{t:bN}(S:lZ w s.heap a o es ep t)(T:Tab t (es.toList.map (·.1)))(h64:es.size≤64)
  {Q:List ε->η->Prop} (h:∀s',dU [] (fun x y=>y=x) s s'->Q ((iR w a ep es).map (·.2)) s'):ξ (model prog w) A (collect (.ref a)) Q E s:=by
 have hT:s.TypeIs (.ref a) "set":=⟨o,S.at_,S.ex.1⟩;have hal:a<s.heap.objs.size:=Ξ S.at_;unfold collect;refine δ (rH (cJ F.entry_proto_collect ?_));rw[bX F.plain_proto_collect _];show ξ _ A.in1 (newList [] >>= fun q=>again (.builtin "list.__iadd__" ⟨[q,.ref a],[]⟩)) _ _ s;refine δ (bG ?_);refine μ ⟨dC F.plain_list_iadd _,cJ F.entry_list_iadd ?_⟩;rw[bX F.plain_list_iadd _];show ξ _ A.in1 (nL (.ref s.heap.objs.size) (.ref a) (.ref s.heap.objs.size)) _ _ _;unfold nL;have S1:lZ w (s.heap.push { cls:=.type "list",data:=.seq ([]:List ε).toArray }) a o es ep t:=S.kept fun b _ ob e=>ι _ e;have hT1:tf { s with heap:=s.heap.push { cls:=.type "list",data:=.seq ([]:List ε).toArray }} (.ref a) "set":=⟨o,S1.at_,S.ex.1⟩;refine δ (j4 hT1 ?_);have ne:s.heap.objs.size≠a:=gO hal;have e1:qc (.ref s.heap.objs.size) (.ref a)=false:=by simp[qc,ne]
 rw[if_neg (by rw[e1];decide)];refine δ (Tw (s:={ s with heap:=s.heap.push { cls:=.type "list",data:=.seq ([]:List ε).toArray }}) S1 T ?_);have S2:=S1.kept (h':=(s.heap.push { cls:=.type "list",data:=.seq ([]:List ε).toArray }).push { cls:=.type "set_iterator",data:=.fields #[rawInt (0:Nat),rawInt (0:Nat),.ref a,rawInt es.size,rawInt ep]}) fun b _ ob e=>ι _ e;have hit:m9 ((s.heap.push { cls:=.type "list",data:=.seq ([]:List ε).toArray }).push { cls:=.type "set_iterator",data:=.fields #[rawInt (0:Nat),rawInt (0:Nat),.ref a,rawInt es.size,rawInt ep]})
   (s.heap.push { cls:=.type "list",data:=.seq ([]:List ε).toArray }).objs.size a 0 0 es.size ep:=af _ rfl
 have hS0:((s.heap.push { cls:=.type "list",data:=.seq ([]:List ε).toArray }).push { cls:=.type "set_iterator",data:=.fields #[rawInt (0:Nat),rawInt (0:Nat),.ref a,rawInt es.size,rawInt ep]}).get? s.heap.objs.size
   = some { cls:=.type "list",data:=.seq ([]:List ε).toArray }:=ι _ (af _ rfl)
 have keep0:∀b ob,s.heap.get? b=some ob->((s.heap.push { cls:=.type "list",data:=.seq ([]:List ε).toArray }).push { cls:=.type "set_iterator",data:=.fields #[rawInt (0:Nat),rawInt (0:Nat),.ref a,rawInt es.size,rawInt ep]}).get? b=some ob:=
  fun b ob e=>ι _ (ι _ e)
 have hI:(s.heap.push { cls:=.type "list",data:=.seq ([]:List ε).toArray }).objs.size=s.heap.objs.size+1:=dF ..;generalize (s.heap.push { cls:=.type "list",data:=.seq ([]:List ε).toArray }).objs.size=it at hI hit ⊢;generalize ((s.heap.push { cls:=.type "list",data:=.seq ([]:List ε).toArray }).push { cls:=.type "set_iterator",data:=.fields #[rawInt (0:Nat),rawInt (0:Nat),.ref a,rawInt es.size,rawInt ep]})=hp at S2 hit hS0 keep0 ⊢;refine δ (aZ ?_);have hT2:tf { s with heap:=hp } (.ref a) "set":=⟨o,S2.at_,S.ex.1⟩;unfold cS.List.listLengthHint;refine δ (qw hT2 F.slot_set_len.lookup ?_);generalize ou:("set.__len__":String)=id0;dsimp only;rw[show splitId id0=some ("set","__len__") from by subst ou;decide +kernel];subst ou;dsimp only;refine δ (i4 (b:=true) hT2 (by rw[rK];kernel_rfl) ?_)
 rw[if_neg (by decide)];show ξ _ A.in1 (typeOf (.ref a) >>= _) _ _ _;refine δ (j4 hT2 (μ ?_));show ξ _ A.in1 (rule "list.extend.makes-room" >>= fun _=>cS.List.listTouch (.ref s.heap.objs.size) >>= fun _=>again (.builtin "list.extend.loop" ⟨[.ref s.heap.objs.size,.ref it,.ref s.heap.objs.size],[]⟩)) _ _ _;refine δ (g7 (δ ?_));show ξ _ A.in1 (updateSeq s.heap.objs.size (·.push .none) >>= fun _=>updateSeq s.heap.objs.size (·.pop)) _ _ _;refine δ (fq (s:={ s with heap:=hp }) hS0 rfl ?_);have q1:=bu (bq (·.push aS)) hS0 rfl;refine fq (s:={ s with heap:=hp.update s.heap.objs.size (bq (·.push aS))}) q1 rfl ?_;have q2:=bu (bq (·.pop)) q1 rfl;have oth:∀b ob,b≠s.heap.objs.size->hp.get? b=some ob->((hp.update s.heap.objs.size (bq (·.push aS))).update s.heap.objs.size (bq (·.pop))).get? b=some ob:=
  fun b ob hb e=>(ay _ _ (di hb)).trans ((ay _ _ (di hb)).trans e)
 have q3:∃c,((hp.update s.heap.objs.size (bq (·.push aS))).update s.heap.objs.size (bq (·.pop))).get? s.heap.objs.size=some { cls:=.type "list",dict:=none,data:=.seq #[] c,slots:=#[]}:=⟨_,q2⟩;clear q2;generalize (hp.update s.heap.objs.size (bq (·.push aS))).update s.heap.objs.size (bq (·.pop))=hp2 at q3 oth ⊢;obtain⟨c0,q2⟩:=q3;have hfp:∀b∈[it,a],b≠s.heap.objs.size:=fun b hb e=>by
  rcases Δ.mp hb with z|z
  ·lia
  ·have hlt:b<s.heap.objs.size:=by
    rw[aV.mp z];exact hal
   lia
 have W:=(Tt (prog:=prog) (w:=w) (A:=A.in1) (by simpa using hh) (it:=it) (a:=a) (o:=o) (ep:=ep) T).toS;refine μ ⟨dC F.plain_extend_loop _,codeAny_extend_loopS W (by rw[cH];lia) _ (fun hm=>hfp _ hm rfl) _ es.size 0 _ _ _ rfl (ba _) ?_ q2 (ItemsOf.nil _) fun s' acc' c' hm hS' hacc=>?_⟩
 ·refine⟨0,oth _ _ (hfp _ χ) hit,?_,S2.kept fun b hb ob e=>oth b ob (hfp b (ψ _ hb)) e⟩;by_cases hb:kP w=true
  ·exact .inl hb
  ·refine .inr ?_;obtain⟨b0,b1,b2⟩:=Bi (j:=0) T.rise;refine aK fun bZ=>?_;have hpos:0<iL t.place 0:=by lia
   have h0:0<t.place.size:=by lia
   have:=b1 0 (t.place[0]) hpos (by simp[h0]);lia
 ·show ξ _ A (load s.heap.objs.size >>= _) _ _ s';refine δ (wpAny_load hS' ?_);refine μ ?_;have hlen:(iR w a ep es).length=es.size:=by rw[(oI w a ep es).length_eq];simp
  have eacc:acc'.toList=(iR w a ep es).map (·.2):=by
   refine kM fun i=>?_;rw[aI,bj];cases ha:acc'[i]? with
   |none=>
    have h1:=jj.mp ha;rw[hacc.1] at h1;rw[da.mpr (by lia)];rfl
   |some v=>
    obtain⟨p,e1,e2⟩:=hacc.2 i v ha;rw[e1,e2];rfl
  show Q acc'.toList s';rw[eacc];refine h s' ⟨fun b ob _ e=>?_,hm.gens,hm.drawn,hm.os,?_⟩
  ·have hlt:=Ξ e;refine hm.heap b ob ?_ (oth b ob (aW hlt) (keep0 b ob e));intro z;rcases Δ.mp z with z|z
   ·rw[z] at hlt;exact bU _ hlt
   ·have:b=it:=by simpa using z
    rw[this,hI] at hlt;exact bU _ (Nat.lt_of_succ_lt hlt)
  ·exact hm.toks
end
end jX
namespace jX
open PySem pJ
section
variable {prog:Ω} {w:ah} {A:aE} {E:ε->η->Prop} {s:η}
def gK(w:ah):aP:={ cls:=.type "set",dict:=none,data:=.set #[] 0 (.fresh 0 0 (!(kP w)))}
theorem Ts(a:ε){Q₁:ε->η->Prop}(h:Q₁ (.ref s.heap.objs.size) { s with heap:=s.heap.push (gK w)}):
  fA (model prog w) A (.call (.builtin "set.__new__") ⟨[.type "set",a],[]⟩) (wants Q₁ E) s:=by
 refine qx ?_;show ξ _ A.in1 (checkBuiltinCall "set.__new__" ⟨[.type "set",a],[]⟩ >>= fun _=>again (.builtin "set.__new__" ⟨[.type "set",a],[]⟩)) _ _ s;refine δ (ib (F.newCall_set_1 a) (μ ⟨dC F.plain_set_new _,cJ F.entry_set_new ?_⟩));rw[bX F.plain_set_new _];unfold cS.«set.__new__» cS.Frozenset.newClass;have hsub:=sub_set_self;obtain⟨hp,g,d,tk,os⟩:=s;dsimp only;wp_walk;refine pO (μ ?_);dsimp only;simp only[newObj];refine δ (wpAny_alloc (μ ?_));exact μ h
theorem Tr(led:Bool):Tab (bN.fresh 0 0 led) []:=
 ⟨.inl rfl,rfl,uY,(fun j hj=>(nomatch hj)),rfl,(by show 0*5<7*3;decide),(fun j h hj=>(nomatch hj))⟩
structure wQ(ps xs:List (List Int×ζ)):Prop where
 sub:∀p∈xs,p∈ps
 all:∀p∈ps,p.1∈xs.map (·.1)
 len:xs.length≤ps.length
theorem wQ.add{ps xs xs':List (List Int×ζ)}{p:List Int×ζ}(d:wQ ps xs)(h1:p.1∈xs.map (·.1)->xs'.Perm xs)(h2:p.1∉xs.map (·.1)->xs'.Perm (p::xs)):wQ (ps++[p]) xs':=by
 by_cases hm:p.1∈xs.map (·.1)
 ·have pm:=h1 hm;refine⟨fun q hq=>cY _ (d.sub q (pm.mem_iff.mp hq)),fun q hq=>?_,?_⟩
  ·rw[(pm.map _).mem_iff];rcases bL.mp hq with hq|hq
   ·exact d.all q hq
   ·have:q=p:=by simpa using hq
    rw[this];exact hm
  ·rw[pm.length_eq,aq];have:=d.len;lia
 ·have pm:=h2 hm;refine⟨fun q hq=>?_,fun q hq=>?_,?_⟩
  ·rcases Δ.mp (pm.mem_iff.mp hq) with e|e
   ·exact aY _ (by simp[e])
   ·exact cY _ (d.sub q e)
  ·rw[(pm.map _).mem_iff,bP];rcases bL.mp hq with hq|hq
   ·exact ψ _ (d.all q hq)
   ·have:q=p:=by simpa using hq
    rw[this];exact χ
  ·rw[pm.length_eq,aq,aL,iN];have:=d.len;lia
theorem Uh{I:ζ}{fp:List ζ}{n:Nat}{P:Nat->ε->Prop}{St:Nat->Ψ->Prop}(W:Walks prog w A.in1 I fp [I] n P St)(S:ζ)(hSf:S∉fp)(ps:List (List Int×ζ))(hps:ps.length=n)(hn:n≤60)
  (hu:A.in1.units<cLine) (hval:∀(i:Nat) v,P i v->∃p,ps[i]?=some p/\v=.ref p.2) (hpf:∀p∈ps,p.2≠I/\p.2≠S) {R:Result->η->Prop}:
  ∀(k i:Nat) (s:η) (xs:List (List Int×ζ)),n-i=k->i≤n->St i s.heap->mZ prog w s.heap S xs->wQ (ps.take i) xs->(∀p∈ps,jd prog w s.heap p.1 p.2) ->
   (∀h' tk xs',(∀b ob,b≠S->b≠I->s.heap.get? b=some ob->h'.get? b=some ob)->mZ prog w h' S xs'->wQ ps xs'->R (.ok (.ret .none)) { s with heap:=h',toks:=tk }) ->
   fA (model prog w) A (.builtin "set.update.loop" ⟨[.ref S,.ref I],[]⟩) R s:=by
 have hSI:S≠I:=fun e=>hSf (W.sub _ (by rw[e];simp));have on_kept:∀{h h':Ψ} {xs:List (List Int×ζ)},mZ prog w h S xs->(∀p∈xs,p∈ps)->(∀b ob,b≠I->h.get? b=some ob->h'.get? b=some ob)->mZ prog w h' S xs:=fun {h h' xs} ⟨o,es,ep,t,q,T⟩ sub kp=>
  ⟨o,es,ep,t,q.kept fun b hb ob e=>kp b ob (by
   rcases Δ.mp hb with z|z
   ·rw[z];exact hSI
   ·obtain⟨p,hp,rfl⟩:=aj.mp z;exact (hpf p (sub p hp)).1) e,T⟩
 intro k
 induction k with
 |zero=>
  intro i s xs hk hi hst hS hd hkeys hR;have hin:i=n:=by lia
  subst hin;refine cJ ka ?_;rw[bX gg _];show ξ _ A.in1 (pyNext (.ref I) >>= _) _ _ s;refine δ (W.done s _ _ hst fun h' tk kp=>?_);show ξ _ A.in1 (ret aS) _ _ _;have hd':wQ ps xs:=by
   rw[←hps,List.take_length] at hd;exact hd
  exact μ (hR h' tk xs (fun b ob _ hb e=>kp b ob (by simpa using hb) e) (on_kept hS hd'.sub fun b ob hb e=>kp b ob (by simpa using hb) e) hd')
 |succ k ih=>
  intro i s xs hk hi hst hS hd hkeys hR;have hlt:i<n:=by lia
  refine cJ ka ?_;rw[bX gg _];show ξ _ A.in1 (pyNext (.ref I) >>= _) _ _ s;refine δ (W.item i s _ _ hlt hst fun v h1 tk1 hP hst1 kp1=>?_);obtain⟨p,hp,rfl⟩:=hval i v hP;have hpm:p∈ps:=bE hp;have kp1':∀b ob,b≠I->s.heap.get? b=some ob->h1.get? b=some ob:=fun b ob hb e=>kp1 b ob (by simpa using hb) e;have key1:∀q∈ps,jd prog w h1 q.1 q.2:=fun q hq=>by
   obtain⟨oy,items,m,ho,r⟩:=hkeys q hq;exact⟨oy,items,m,kp1' _ _ (hpf q hq).1 ho,r⟩
  have sub0:∀q∈xs,q∈ps:=fun q hq=>eF (hd.sub q hq);have hS1:=on_kept hS sub0 kp1';show ξ _ A.in1 (holding [aH p.2] (setAdd S (.ref p.2)) >>= _) _ _ _;have hlen:xs.length<64:=by
   have h1:=hd.len;rw[bW] at h1;lia
  refine δ (aZ (TB (s:={ s with heap:=h1,toks:=tk1 }) hS1 hlen hu (key1 p hpm) fun b h2 tk2 xs2 _ sb hS2 q1 q2=>?_));have hd2:wQ (ps.take (i+1)) xs2:=by
   rw[List.take_add_one,hp];exact hd.add q1 q2
  obtain⟨oS,_,_,_,SS,_⟩:=hS1;refine μ ⟨dC gg _,ih (i+1) _ xs2 (by lia) hlt (W.frame _ _ _ hst1 fun c hc ob e=>(sb.2 c (fun z=>hSf (z▸hc))).trans e) hS2 hd2 (fun q hq=>Bh SS.at_ SS.dat sb (key1 q hq)) fun h' tk xs' kp' a1 a2=>?_⟩;exact hR h' tk xs' (fun c ob c1 c2 e=>kp' c ob c1 c2 ((sb.2 c c1).trans (kp1' c ob c2 e))) a1 a2
set_option maxHeartbeats 6400000 in
theorem xX{l:ζ}{vs:List ε}{ps:List (List Int×ζ)}{Q:ε->η->Prop}(hh:A.handled=none)(hl:s.heap.IsList l vs.toArray)(hv:vs=ps.map fun p=>aH p.2)(hk:∀p∈ps,jd prog w s.heap p.1 p.2)(hn:ps.length≤60)
  (hu:A.units+4<cLine)
  (h:∀h' tk xs,(∀b ob,s.heap.get? b=some ob->h'.get? b=some ob)->mZ prog w h' s.heap.objs.size xs->wQ ps xs->Q (.ref s.heap.objs.size) { s with heap:=h',toks:=tk }):
  ξ (model prog w) A (call (.type "set") [.ref l]) Q E s:=by
 obtain⟨c,tl,hmro⟩:=F.called_set.mro;have hmade:=F.called_set.made;have hsub:=F.called_set.sub;refine fZ (qx ?_);show ξ _ _ (callAny (.type "set") _) _ _ _;refine μ ⟨nK _ (by decide +kernel),cJ F.entry_type_call ?_⟩;rw[aE.under_plain (weight_type_call_type "set" [.ref l] []) rfl];have h1:=F.called_set.notType;have h2:=F.called_set.canCreate;have hct:=F.typeCall_set_1 (.ref l)
 repeat (any_goals (first|assumption|wp_step))
 refine ed (Ts (.ref l) (E:=E) (Q₁:=fun obj s₁=>obj=.ref s.heap.objs.size/\s₁={ s with heap:=s.heap.push (gK w)}) ⟨rfl,rfl⟩) fun r s₁ hr=>?_;cases r with
 |error e=>exact hr
 |ok fl=>
  cases fl with
  |ret obj=>
   obtain⟨rfl,rfl⟩:=hr;have hS:(s.heap.push (gK w)).get? s.heap.objs.size=some (gK w):=af _ rfl;have hT:tf { s with heap:=s.heap.push (gK w)} (.ref s.heap.objs.size) "set":=⟨_,hS,rfl⟩;have hli:=F.called_set.init.lookup;have hbi:=F.called_set.init.bind (.ref s.heap.objs.size)
   repeat (any_goals (first|assumption|wp_step))
   refine ed (mf (R:=wants (fun r s₂=>r=.none/\∃h' tk xs,s₂={ s with heap:=h',toks:=tk }/\(∀b ob,s.heap.get? b=some ob->h'.get? b=some ob)/\mZ prog w h' s.heap.objs.size xs/\wQ ps xs) E)
    F.called_set.init.plain F.entry_set_init (check_set_init_1 hT ?_)) fun r₂ s₂ hr₂=>?_
   ·obtain⟨ol,hol,hcl,nl,hdl⟩:=hl;obtain⟨ocls,odict,odata,oslots⟩:=ol;simp only at hcl hdl;subst hcl;subst hdl;have hol':(s.heap.push (gK w)).get? l=some { cls:=.type "list",dict:=odict,data:=.seq vs.toArray nl,slots:=oslots }:=ι _ hol;have hsls:=F.sub_list_set;have hslf:=F.sub_list_frozenset;have bZ:(oR "list" == oR "dict")=false:=by decide
    have hl1:(s.heap.push (gK w)).IsList l vs.toArray:=⟨_,hol',rfl,nl,rfl⟩;have hS2:(s.heap.push (gK w)).get? s.heap.objs.size=some { cls:=.type "set",dict:=none,data:=.set #[] 0 (.fresh 0 0 (!(kP w)))}:=hS;unfold cS.«set.__init__» noKeywords cS.Frozenset.updateFrom;generalize hPI:pyIter=PI;wp_walk;subst hPI;refine fy hl1 ?_;refine δ (rH ?_);have hlS:l<s.heap.objs.size:=Ξ hol;have hh3:A.in1.in1.in1.handled=none:=by simp[hh]
    have hu3:A.in1.in1.in1.units<cLine:=by
     show A.units+1+1+1<cLine;lia
    have hsz:(s.heap.push (gK w)).objs.size=s.heap.objs.size+1:=dF ..;have hneI:l≠(s.heap.push (gK w)).objs.size:=by
     rw[hsz];exact aW (iz hlS)
    have hSf:s.heap.objs.size∉[(s.heap.push (gK w)).objs.size,l]:=by
     rw[hsz];intro z;rcases Δ.mp z with z|z
     ·exact absurd z (aW (fS _))
     ·have:s.heap.objs.size=l:=by simpa using z
      exact absurd this (gO hlS)
    have hlen:vs.toArray.size=ps.length:=by rw[hv];simp
    refine Uh (Walks.list hh3 _ l hneI vs.toArray) s.heap.objs.size hSf ps hlen.symm (by rw[hlen];exact hn) hu3 (fun i v e=>?_) (fun p hp=>?_) (vs.toArray.size-0) 0 _ [] rfl (ba _)
     ⟨⟨_,af _ rfl,rfl,rfl⟩,hl1.push _⟩ ?hS0 ⟨(fun p hp=>(nomatch hp)),(fun p hp=>by rw[List.take_zero] at hp;cases hp),ba _⟩ (fun p hp=>?_) ?hR
    case hS0=>
     refine⟨_,#[],0,_,⟨ι _ hS2,⟨rfl,rfl,rfl⟩,rfl,rfl,(fun p hp=>(nomatch hp)),mW,rfl,rfl⟩,Tr _⟩
    case hR=>
     intro h' tk xs q1 q2 q3;refine μ ?_;show ξ _ _ (ret aS) _ _ _;refine μ ⟨rfl,h',tk,xs,rfl,fun b ob e=>?_,q2,q3⟩;have hb:=Ξ e;refine q1 b ob (aW hb) ?_ (ι _ (ι _ e));rw[hsz];exact aW (iz hb)
    ·rw[hv,List.getElem?_toArray,aI] at e;cases hp:ps[i]? with
     |none=>rw[hp] at e;cases e
     |some p=>rw[hp] at e;exact⟨p,rfl,(aD e).symm⟩
    ·obtain⟨oy,_,_,ho,_⟩:=hk p hp;have hb:=Ξ ho;rw[hsz];exact⟨aW (iz hb),aW hb⟩
    ·obtain⟨oy,items,m,ho,r⟩:=hk p hp;exact⟨oy,items,m,ι _ (ι _ ho),r⟩
   ·cases r₂ with
    |error e=>exact hr₂
    |ok fl₂=>
     cases fl₂ with
     |ret r=>
      obtain⟨rfl,h',tk,xs,rfl,q1,q2,q3⟩:=hr₂
      repeat (any_goals (first|assumption|wp_step))
      exact h _ _ _ q1 q2 q3
     |_=>exact hr₂.elim
  |_=>exact hr.elim
end
end jX
namespace gp
open PySem PySem.W PyProof.Rows jX MO
def lx:List Int->List Int->Bool
 |[],[]=>false
 |[],_::_=>true
 |_::_,[]=>false
 |x::xs,y::ys=>if x=y then lx xs ys else decide (x<y)
theorem zm:∀{x y:List Int},lx x y=true->lx y x=false
 |[],[],h=>by cases h
 |[],_::_,_=>rfl
 |_::_,[],h=>by cases h
 |x::xs,y::ys,h=>by
  unfold lx at h ⊢;by_cases e:x=y
  ·rw[if_pos e] at h;rw[if_pos e.symm];exact zm h
  ·rw[if_neg e] at h;rw[if_neg (di e)];have:=of_decide_eq_true h;exact decide_eq_false (by lia)
theorem zl:∀{a b c:List Int},lx b a=false->lx c b=false->lx c a=false
 |[],b,[],_,_=>rfl
 |[],[],c::cs,_,h=>h
 |[],b::bs,c::cs,h,_=>rfl
 |a::as,[],c,h,_=>by cases h
 |a::as,b::bs,[],_,h=>by cases h
 |a::as,b::bs,c::cs,h1,h2=>by
  unfold lx at h1 h2 ⊢;by_cases e1:b=a
  ·rw[if_pos e1] at h1;by_cases e2:c=b
   ·rw[if_pos e2] at h2;rw[if_pos (e2.trans e1)];exact zl h1 h2
   ·rw[if_neg e2] at h2;have:=of_decide_eq_false h2;by_cases e3:c=a
    ·lia
    ·rw[if_neg e3];exact decide_eq_false (by lia)
  ·rw[if_neg e1] at h1;have:=of_decide_eq_false h1;by_cases e2:c=b
   ·rw[if_neg (by lia)];exact decide_eq_false (by lia)
   ·rw[if_neg e2] at h2;have:=of_decide_eq_false h2;by_cases e3:c=a
    ·lia
    ·rw[if_neg e3];exact decide_eq_false (by lia)
section
variable {prog:Ω} {w:ah} {A:aE} {E:ε->η->Prop} {s:η}
theorem Ug{Q:Bool->η->Prop}:∀(xs ys:List Int) (us vs:List ε) (i:Nat) (fin:Bool),ItemsAre (intKind prog w) xs us->ItemsAre (intKind prog w) ys vs ->
  (fin=decide (us.length<vs.length)∨∃n m,fin=decide (n+us.length<n+vs.length)/\m=n)->Q (lx xs ys) s->KatLex prog w A true fin Q (us.zip vs) i s:=by
 intro xs
 induction xs with
 |nil=>
  intro ys us vs i fin h1 h2 hf h;cases h1;cases h2 with
  |nil=>
   have:fin=false:=by
    rcases hf with hf|⟨n,m,hf,_⟩<;>simp at hf<;>exact hf
   rw[this];exact kat_nil h
  |cons h3 h4=>
   have:fin=true:=by
    rcases hf with hf|⟨n,m,hf,_⟩<;>rw[hf]<;>simp
   rw[this];exact kat_nil h
 |cons x xs ih=>
  intro ys us vs i fin h1 h2 hf h;cases h1 with
  |cons h1 h1'=>
  cases h2 with
  |nil=>
   have:fin=false:=by
    rcases hf with hf|⟨n,m,hf,_⟩<;>rw[hf]<;>simp
   rw[this];exact kat_nil h
  |cons h3 h4=>
   obtain⟨t,rfl⟩:=iy h1;obtain⟨t',rfl⟩:=iy h3;refine kat_cons (wpAny_eqBool_int ?_);unfold lx at h;rename_i _ y ys _;by_cases e:x=y
   ·rw[if_pos e] at h;have:(x==y)=true:=by simpa using e
    rw[this];refine kat_yes (ih ys _ _ (i+1) fin h1' h4 (.inr ?_) h);rcases hf with hf|⟨n,m,hf,_⟩
    ·exact⟨1,1,by rw[hf];simp[mm],rfl⟩
    ·exact⟨n+1,n+1,by rw[hf];congr 1;simp only[aL];apply propext;lia,rfl⟩
   ·rw[if_neg e] at h;have:(x==y)=false:=by simpa using e
    rw[this];refine kat_no ?_;by_cases hi:i=0
    ·subst hi;exact oneLt_int h
    ·have hb:(true&&i==0)=false:=by simp[hi]
     rw[hb];exact kat_one _ _ (lt_int h)
theorem Ue{Q:Bool->η->Prop}{x y:List Int}{a b:ζ}(hx:jd prog w s.heap x a)(hy:jd prog w s.heap y b)(h:Q (lx x y) s):ξ (model prog w) A (keyLt' (tuples' true) (.ref a) (.ref b)) Q E s:=by
 obtain⟨o,its,n,ho,_,hd,hi⟩:=hx;obtain⟨o',its',n',ho',_,hd',hi'⟩:=hy;exact kat_lt ho hd ho' hd' (Ug x y its.toList its'.toList 0 _ hi hi' (.inl (by simp)) h)
def wz{α:Type}(lt:α->α->Bool)(d:α)(ps:List α)(i j:Nat):Bool:=lt (ps.getD i d) (ps.getD j d)
structure Cs{α:Type}(lt:α->α->Bool):Prop where
 Ac:∀x y,lt x y=true->lt y x=false
 u9:∀x y z,lt y x=false->lt z y=false->lt z x=false
theorem Ud{α:Type}{lt:α->α->Bool}(O:Cs lt)(d:α)(ps:List α)(n:Nat):Ord n (wz lt d ps):=⟨fun a b _ _ h=>O.Ac _ _ h,fun a b c _ _ _ h1 h2=>O.u9 _ _ _ h1 h2⟩
abbrev Mo(x y:List Int×ζ):Bool:=lx x.1 y.1
abbrev fT(p:List Int×ζ):ε:=.ref p.2
theorem Z3:Cs Mo:=⟨fun _ _ h=>zm h,fun _ _ _ h1 h2=>zl h1 h2⟩
def aaA(n:Nat)(lt:Nat->Nat->Bool)(i j:Nat)(C:Bool->η->Prop)(s:η):Prop:=i<n/\j<n/\C (lt i j) s
theorem conv{α:Type}{n:Nat}{lt:Nat->Nat->Bool}{κ:pR}{vs:List ε}{Q:α->η->Prop}(ha:∀i j,i<n->j<n->∀C:Bool->η->Prop,C (lt i j) s->mS prog w A κ vs i j C s):
  ∀t:KasT α,t.kasWp (aaA n lt) Q s->t.kasWp (mS prog w A κ vs) Q s
 |.ret a,h=>h
 |.ask i j k,h=>by
  obtain⟨h1,h2,h3⟩:=h;exact ha i j h1 h2 _ (conv ha (k (lt i j)) h3)
theorem Ff{α:Type}{f:α->ε}{d:α}{ps:List α}{i:Nat}(hi:i<ps.length):(ps.map f).getD i aS=f (ps.getD i d):=by
 simp[nH,hi]
theorem getD_mem{ps:List (List Int×ζ)}{i:Nat}(hi:i<ps.length):ps.getD i ([],0)∈ps:=by
 simp[nH,hi]
theorem Uc{ps:List (List Int×ζ)}(hk:∀p∈ps,jd prog w s.heap p.1 p.2):∀i j,i<ps.length->j<ps.length->∀C:Bool->η->Prop,C (wz Mo ([],0) ps i j) s->mS prog w A (tuples' true) (ps.map fT) i j C s:=fun i j hi hj C h=>by
 unfold mS;rw[Ff (d:=([],0)) hi,Ff (d:=([],0)) hj];exact Ue (hk _ (getD_mem hi)) (hk _ (getD_mem hj)) h
theorem KA{h:Ψ}:∀{ps:List (List Int×ζ)},(∀p∈ps,jd prog w h p.1 p.2/\p.1≠[])->∃fs,KatTups h (ps.map fun p=>aH p.2) fs/\fs.length=ps.length/\∀v∈fs,∃i t,v=.int i t
 |[],_=>⟨[],.nil,rfl,fun v hv=>nomatch hv⟩
 |p::ps,hk=>by
  obtain⟨fs,h1,h2,h3⟩:=KA (ps:=ps) fun q hq=>hk q (ψ _ hq);obtain⟨⟨o,its,n,ho,hc,hd,hi⟩,bZ⟩:=hk p χ;obtain⟨ks,a⟩:=p;cases ks with
  |nil=>exact absurd rfl bZ
  |cons k ks=>
   obtain⟨its⟩:=its;cases hi with
   |cons h4 h5=>
    rename_i v vs;obtain⟨t,e⟩:=iy h4;refine⟨v::fs,KatTups.cons ho hc hd (by simp) h1,by simp[h2],fun u hu=>?_⟩;rcases Δ.mp hu with q|q
    ·exact⟨k,t,q.trans e⟩
    ·exact h3 u q
theorem Ub{ps:List (List Int×ζ)}(bZ:ps≠[])(hk:∀p∈ps,jd prog w s.heap p.1 p.2/\p.1≠[]){Q:pR->η->Prop}(h:Q (tuples' true) s):ξ (model prog w) A (keyKind' (ps.map fT).toArray) Q E s:=by
 obtain⟨fs,h1,h2,h3⟩:=KA hk;have hl:0<fs.length:=by
  rw[h2];exact List.length_pos_iff.mpr bZ
 refine kat_kind (T:=.type "int") h1 hl (fun v hv=>?_) rfl h;obtain⟨i,t,rfl⟩:=h3 v hv;exact .now
structure xI{α:Type}(lt:α->α->Bool)(ps qs:List α):Prop where
 perm:qs.Perm ps
 rise:qs.Pairwise fun x y=>lt y x=false
abbrev NW(ps qs:List (List Int×ζ)):Prop:=xI Mo ps qs
theorem Ua{α:Type}{lt:α->α->Bool}{d:α}{ps:List α}{p:Array Nat}(v:Va ps.length p)(S:So (wz lt d ps) p ps.length):xI lt ps (p.toList.map fun i=>ps.getD i d):=by
 refine⟨?_,?_⟩
 ·refine (v.perm.map _).trans ?_;have:(ao ps.length).map (fun i=>ps.getD i d)=ps:=by
   refine kM fun i=>?_;by_cases hi:i<ps.length
   ·simp[aI,gW hi,nH,hi]
   ·rw[da.mpr (by simpa using hi),da.mpr (by lia)]
  rw[this]
 ·rw[cm,dO];intro i j hi hj hij;have hs:=v.size;have h1:i<ps.length:=by rw[←hs];simpa using hi
  have h2:j<ps.length:=by rw[←hs];simpa using hj
  have e1:p.toList[i]=g p i:=by
   have:=v.get h1;simp[g,mz,hs,h1]
  have e2:p.toList[j]=g p j:=by simp[g,mz,hs,h2]
  rw[e1,e2];exact S i j (pW hij) h2
theorem T9{α:Type}{f:α->ε}{d:α}{ps:List α}{p:Array Nat}(v:Va ps.length p):(p.toList.map fun i=>(ps.map f).getD i aS)=(p.toList.map fun i=>ps.getD i d).map f:=by
 rw[cZ];refine eO fun i hi=>?_;have:i<ps.length:=by
  have:=v.perm.mem_iff.mp hi;simpa using this
 exact Ff this
theorem T6{α:Type}{lt:α->α->Bool}{f:α->ε}{d:α}{κ:pR}(O:Cs lt){a:ζ}{n:Nat}{ps:List α}{P:PySem.Fin->η->Prop}(ho:s.heap.get? a=some (seqObj "list" (ps.map f).toArray n))
  (hk:∀h',(∀b o,b≠a->s.heap.get? b=some o->h'.get? b=some o)->(∀(Q:pR->η->Prop) (E':ε->η->Prop),Q κ { s with heap:=h' }->ξ (model prog w) A (keyKind' (ps.map f).toArray) Q E' { s with heap:=h' }) ∧
   ∀i j,i<ps.length->j<ps.length->∀C:Bool->η->Prop,C (wz lt d ps i j) { s with heap:=h' }->mS prog w A κ (ps.map f) i j C { s with heap:=h' }) (h2:2≤ps.length) (h64:ps.length<64)
  (h:∀qs h' c,xI lt ps qs->h'.get? a=some (seqObj "list" (qs.map f).toArray c)->(∀b o,b≠a->s.heap.get? b=some o->h'.get? b=some o)->P (.done (.ret .none)) { s with heap:=h' }):
  ξ (model prog w) A (cS.«list.sort» ⟨[.ref a],[]⟩) P E s:=by
 have ha:a<s.heap.objs.size:=Ξ ho;have s1:=cy s.heap a (bq fun _=>(#[]:Array ε));obtain⟨e1,ho1⟩:∃e1,(s.heap.update a (bq fun _=>(#[]:Array ε))).get? a=some (seqObj "list" #[] e1):=⟨_,me ho fun _=>#[]⟩;generalize hvs:(ps.map f)=vs at ho;have hlen:vs.length=ps.length:=by rw[←hvs,π]
 have hu3:∀b o,b≠a->s.heap.get? b=some o->(((s.heap.update a (bq fun _=>(#[]:Array ε))).push (seqObj "tuple" vs.toArray 0)).push (seqObj "list" #[] 0)).get? b=some o:=fun b o hb e=>
  ι _ (ι _ ((s1.2 b hb).trans e))
 have ho3:(((s.heap.update a (bq fun _=>(#[]:Array ε))).push (seqObj "tuple" vs.toArray 0)).push (seqObj "list" #[] 0)).get? a=some (seqObj "list" #[] e1):=ι _ (ι _ ho1);rw[list_sort_plain];refine δ (listItems_at ho rfl ?_);refine δ (nT ho rfl ?_ (by rw[Γ,cH];lia) (ba _));refine δ (qX ho1 rfl ?_);refine δ (rJ ?_ (by show vs.length≤_;rw[cH];lia));refine δ (sX ?_ (ba _));refine aZ ?_;show ξ (model prog w) A _ P E { s with heap:=((s.heap.update a (bq fun _=>(#[]:Array ε))).push (seqObj "tuple" vs.toArray 0)).push (seqObj "list" #[] 0)};generalize ((s.heap.update a (bq fun _=>(#[]:Array ε))).push (seqObj "tuple" vs.toArray 0)).push (seqObj "list" #[] 0)=h3 at hu3 ho3 ⊢;obtain⟨hk1,hk2⟩:=hk h3 hu3;dsimp only;have hn2:¬vs.toArray.size<2:=by rw[Γ];lia
 rw[if_neg hn2,if_neg hn2];refine δ ?_;rw[←hvs];refine hk1 _ _ ?_;have hsort:(kas_sort vs.length).kasWp (mS prog w A κ (ps.map f)) (fun p s'=>s'={ s with heap:=h3 }/\Va ps.length p/\So (wz lt d ps) p ps.length) { s with heap:=h3 }:=by
  refine conv (lt:=wz lt d ps) (n:=ps.length) hk2 _ ?_
  rw[hlen];exact UM (Ud O d ps ps.length) (fun i j hi hj C s' hC=>⟨hi,hj,hC⟩) (by lia) fun p v S=>⟨rfl,v,S⟩
 have hsort:(kas_sort (ps.map f).length).kasWp (mS prog w A κ (ps.map f)) (fun p s'=>s'={ s with heap:=h3 }/\Va ps.length p/\So (wz lt d ps) p ps.length) { s with heap:=h3 }:=by
  rw[hlen] at hsort;rw[π];exact hsort
 refine δ (cb (kat_run (Q:=fun st' s'=>∃p:Array Nat,p.size=(ps.map f).length/\arrOf st'=p.map (kas_item ((ps.map f).toArray.zip (ps.map f).toArray))/\failedOf st'=none/\s'={ s with heap:=h3 }/\Va ps.length p/\So (wz lt d ps) p ps.length)
  rfl (by rw[π];exact h2) (by rw[π];exact h64) (fun p' st' s' a1 a2 a3 a4=>⟨p',a1,a2,a3,a4⟩) hsort) ?_ fun _ _ e=>e)
 rintro⟨⟨⟩,st'⟩ s' ⟨p,hp,har,hf,rfl,va,so⟩;dsimp only;have hout:=kat_snds rfl har;rw[T9 va] at hout;have hS:=Ua va so;generalize (p.toList.map fun i=>ps.getD i d)=qs at hout hS;have hsz:(kg (qs.map f)).size=ps.length:=by rw[Γ,π,hS.perm.length_eq]
 rw[hout];have s2:=cy h3 a (bq fun _=>kg (qs.map f));obtain⟨c2,hc2⟩:∃c2,(h3.update a (bq fun _=>kg (qs.map f))).get? a=some (seqObj "list" (kg (qs.map f)) c2):=⟨_,me ho3 fun _=>kg (qs.map f)⟩;refine δ (qX ho3 rfl ?_);refine δ (nT ho3 rfl ?_ (ba _) (aA (Nat.le_of_eq hsz) (by rw[cH];lia)));rw[hf];simp only[bne_self_eq_false,cI,if_false];exact μ (h qs _ c2 hS hc2 fun b o hb e=>(s2.2 b hb).trans (hu3 b o hb e))
theorem T5{a:ζ}{n:Nat}{vs:List ε}{P:PySem.Fin->η->Prop}(ho:s.heap.get? a=some (seqObj "list" vs.toArray n))(h2:vs.length<2)
  (h:∀h' c,h'.get? a=some (seqObj "list" vs.toArray c)->(∀b o,b≠a->s.heap.get? b=some o->h'.get? b=some o)->P (.done (.ret .none)) { s with heap:=h' }):
  ξ (model prog w) A (cS.«list.sort» ⟨[.ref a],[]⟩) P E s:=by
 have s1:=cy s.heap a (bq fun _=>(#[]:Array ε));obtain⟨e1,ho1⟩:∃e1,(s.heap.update a (bq fun _=>(#[]:Array ε))).get? a=some (seqObj "list" #[] e1):=⟨_,me ho fun _=>#[]⟩;have hu3:∀b o,b≠a->s.heap.get? b=some o->(((s.heap.update a (bq fun _=>(#[]:Array ε))).push (seqObj "tuple" vs.toArray 0)).push (seqObj "list" #[] 0)).get? b=some o:=fun b o hb e=>
  ι _ (ι _ ((s1.2 b hb).trans e))
 have ho3:(((s.heap.update a (bq fun _=>(#[]:Array ε))).push (seqObj "tuple" vs.toArray 0)).push (seqObj "list" #[] 0)).get? a=some (seqObj "list" #[] e1):=ι _ (ι _ ho1);rw[list_sort_plain];refine δ (listItems_at ho rfl ?_);refine δ (nT ho rfl ?_ (by rw[Γ,cH];lia) (ba _));refine δ (qX ho1 rfl ?_);refine δ (rJ ?_ (by show vs.length≤_;rw[cH];lia));refine δ (sX ?_ (ba _));refine aZ ?_;show ξ (model prog w) A _ P E { s with heap:=((s.heap.update a (bq fun _=>(#[]:Array ε))).push (seqObj "tuple" vs.toArray 0)).push (seqObj "list" #[] 0)};generalize ((s.heap.update a (bq fun _=>(#[]:Array ε))).push (seqObj "tuple" vs.toArray 0)).push (seqObj "list" #[] 0)=h3 at hu3 ho3 ⊢;dsimp only;have hn2:vs.toArray.size<2:=by rw[Γ];lia
 rw[if_pos hn2,if_pos hn2];refine δ (μ ?_);rw[StateT.run_pure];refine δ (μ ?_);dsimp only;have hout:(arrOf (SortSt.mk' general' (vs.toArray.zip vs.toArray) #[] 7 none)).map (·.2)=vs.toArray:=by
  show (vs.toArray.zip vs.toArray).map (·.2)=vs.toArray;refine Array.ext (by simp) fun i h1 h2=>?_;simp
 rw[hout];have s2:=cy h3 a (bq fun _=>vs.toArray);obtain⟨c2,hc2⟩:∃c2,(h3.update a (bq fun _=>vs.toArray)).get? a=some (seqObj "list" vs.toArray c2):=⟨_,me ho3 fun _=>vs.toArray⟩;refine δ (qX ho3 rfl ?_);refine δ (nT ho3 rfl ?_ (ba _) (by rw[Γ,cH];lia));simp only[bne_self_eq_false,cI,if_false];exact μ (h _ c2 hc2 fun b o hb e=>(s2.2 b hb).trans (hu3 b o hb e))
theorem Tb{h h':Ψ}{ks:List Int}{a:ζ}(keep:∀c o,h.get? c=some o->h'.get? c=some o)(hk:jd prog w h ks a):jd prog w h' ks a:=by
 obtain⟨o,it,m,ho,r⟩:=hk;exact⟨o,it,m,keep a o ho,r⟩
theorem Ta{α:Type}{lt:α->α->Bool}{f:α->ε}{d:α}{κ:pR}(O:Cs lt){l:ζ}{ps:List α}{Q:ε->η->Prop}
  (hk:∀s':η,2≤ps.length->(∀b o,s.heap.get? b=some o->s'.heap.get? b=some o)->(∀(Q:pR->η->Prop) (E':ε->η->Prop),Q κ s'->ξ (model prog w) A.in1.in1 (keyKind' (ps.map f).toArray) Q E' s') ∧
   ∀i j,i<ps.length->j<ps.length->∀C:Bool->η->Prop,C (wz lt d ps i j) s'->mS prog w A.in1.in1 κ (ps.map f) i j C s') (h64:ps.length<64)
  (Fp:∀(R:List ε->η->Prop),(∀s',dU [] (fun x y=>y=x) s s'->R (ps.map f) s')->ξ (model prog w) A.in1 (collect (.ref l)) R E s)
  (h:∀qs s' c D,xI lt ps qs->s.heap.get? D=none->s'.heap.get? D=some (seqObj "list" (qs.map f).toArray c)->dU [] (fun x y=>y=x) s s'->Q (.ref D) s'):
  ξ (model prog w) A (call (.builtin "sorted") [.ref l]) Q E s:=by
 refine oX kind_sorted plain_sorted entry_sorted (args_sorted1 _) ?_;unfold cS.«sorted»;refine δ (m:=checkCount "sorted" 1 1 _) (μ ?_);refine δ (Fp _ fun s1 hm=>?_);refine δ (sX ?_ (by rw[π,cH];lia));have hoL:(s1.heap.push (seqObj "list" (ps.map f).toArray 0)).get? s1.heap.objs.size=some (seqObj "list" (ps.map f).toArray 0):=af _ rfl;have keep0:∀b o,s.heap.get? b=some o->s1.heap.get? b=some o:=fun b o e=>hm.heap b o (fun z=>nomatch z) e;have lU:s.heap.get? s1.heap.objs.size=none:=by
  cases hz:s.heap.get? s1.heap.objs.size with
  |none=>rfl
  |some o=>exact absurd (Ξ (keep0 _ _ hz)) (bU _)
 have keep:∀b o,s.heap.get? b=some o->(s1.heap.push (seqObj "list" (ps.map f).toArray 0)).get? b=some o:=fun b o e=>ι _ (keep0 b o e);show ξ _ _ _ _ _ { s1 with heap:=s1.heap.push (seqObj "list" (ps.map f).toArray 0)};refine δ (aZ (cA slot_list_sort ⟨_,hoL,rfl⟩ entry_list_sort ?body (args_list_sort _)));have fin:∀qs h' c,xI lt ps qs->h'.get? s1.heap.objs.size=some (seqObj "list" (qs.map f).toArray c)->(∀b o,b≠s1.heap.objs.size->(s1.heap.push (seqObj "list" (ps.map f).toArray 0)).get? b=some o->h'.get? b=some o)->Q (.ref s1.heap.objs.size) { s1 with heap:=h' }:=fun qs h' c hS e kk=>
  h qs _ c _ hS lU e ⟨fun b o _ e1=>kk b o (aW (Ξ (keep0 b o e1))) (keep b o e1),hm.gens,hm.drawn,hm.os,hm.toks⟩
 case body=>
  by_cases h2:2≤ps.length
  ·refine T6 O (s:={ s1 with heap:=s1.heap.push (seqObj "list" (ps.map f).toArray 0)}) hoL (fun h' kk=>hk { s1 with heap:=h' } h2 fun b o e=>kk b o (aW (Ξ (keep0 b o e))) (keep b o e)) h2 h64 fun qs h' c hS e kk=>?_;exact⟨_,rfl,μ ⟨_,rfl,fin qs h' c hS e kk⟩⟩
  ·refine T5 (s:={ s1 with heap:=s1.heap.push (seqObj "list" (ps.map f).toArray 0)}) hoL (by rw[π];lia) fun h' c e kk=>?_;have hS:xI lt ps ps:=⟨.refl _,by
    rcases ps with _|⟨x,_|⟨y,r⟩⟩
    ·exact .nil
    ·exact fK _ _
    ·simp at h2⟩
   exact⟨_,rfl,μ ⟨_,rfl,fin ps h' c hS e kk⟩⟩
theorem xO{l:ζ}{ps:List (List Int×ζ)}{Q:ε->η->Prop}(hk:∀p∈ps,jd prog w s.heap p.1 p.2/\p.1≠[])(h64:ps.length<64)
  (Fp:∀(R:List ε->η->Prop),(∀s',dU [] (fun x y=>y=x) s s'->R (ps.map fT) s')->ξ (model prog w) A.in1 (collect (.ref l)) R E s)
  (h:∀qs s' c D,NW ps qs->s.heap.get? D=none->s'.heap.get? D=some (seqObj "list" (qs.map fT).toArray c)->dU [] (fun x y=>y=x) s s'->Q (.ref D) s'):
  ξ (model prog w) A (call (.builtin "sorted") [.ref l]) Q E s:=by
 refine Ta (κ:=tuples' true) (d:=([],0)) Z3 (fun s' h2 kk=>?_) h64 Fp h;have hk':∀p∈ps,jd prog w s'.heap p.1 p.2/\p.1≠[]:=fun p hp=>⟨Tb kk (hk p hp).1,(hk p hp).2⟩;exact⟨fun Q E q=>Ub (fun z=>by rw[z] at h2;simp at h2) hk' q,Uc fun p hp=>(hk' p hp).1⟩
end
end gp
namespace L3
open PySem PySem.Spec PyProof.Rows L2
structure zG(T:String):Prop where
 aC:∀K,aw K (.type "NoneType") (.type T)=some false
 bl:∀K,aw K (.type "bool") (.type T)=some (T=="bool" || T=="int")
 int:∀K,aw K (.type "int") (.type T)=some (T=="int")
 str:∀K,aw K (.type "str") (.type T)=some (T=="str")
 tup:∀K,aw K (.type "tuple") (.type T)=some (T=="tuple")
 lst:∀K,aw K (.type "list") (.type T)=some (T=="list")
 fE:∀K,aw K (.type "dict") (.type T)=some (T=="dict")
theorem S9:zG "int":=⟨fun _=>rfl,fun _=>rfl,fun _=>rfl,fun _=>rfl,fun _=>rfl,fun _=>rfl,fun _=>rfl⟩
theorem S8:zG "bool":=⟨fun _=>rfl,fun _=>rfl,fun _=>rfl,fun _=>rfl,fun _=>rfl,fun _=>rfl,fun _=>rfl⟩
theorem kit_tuple:zG "tuple":=⟨fun _=>rfl,fun _=>rfl,fun _=>rfl,fun _=>rfl,fun _=>rfl,fun _=>rfl,fun _=>rfl⟩
theorem S7:zG "list":=⟨fun _=>rfl,fun _=>rfl,fun _=>rfl,fun _=>rfl,fun _=>rfl,fun _=>rfl,fun _=>rfl⟩
section
variable {X:Cx} {a e:ρ} {es:List ρ} {ta:aU} {t:cM} {pos p p2:aO}
theorem S6{T:String}(k:zG T):jI X (.builtin "isinstance") (fun vs H Q=>∃d v G b,vs=[v,.ty T]/\Hv X.K H d v/\aJ X.K G H/\iV T G d=some b/\Q (.bl b) H):=by
 intro pins s σ H vs us Q I r h;obtain⟨d,v,G,b,rfl,hd,RG,hb,q⟩:=h;obtain⟨u,c,rfl,ru,rc⟩:=vals2 r;cases (show c=oR T from rc);have fin:∀tk,EP X pins σ Q (.bool b) { s with toks:=tk }:=fun tk=>⟨.bl b,H,I.tok tk,rfl,q⟩
 cases d with
 |aC=>
  unfold Hv at hd;subst hd;cases (show u=aS from ru);cases hb;exact dk PySem.W.kitx_none I.gk oU (k.aC _) (fun z=>nomatch z) fin
 |bl y=>
  rw[vK hd] at ru;cases (show u=dN y from ru);cases hb;exact dk PySem.W.kitx_bool I.gk oU (k.bl _) (fun z=>nomatch z) fin
 |int y=>
  rw[jb hd] at ru;obtain⟨t,rfl⟩:=(show ∃t,u=lE y t from ru);cases hb;exact dk PySem.W.kitx_int I.gk oU (k.int _) (fun z=>nomatch z) fin
 |str y=>
  unfold Hv at hd;subst hd;obtain⟨t,rfl⟩:=(show ∃t,u=ε.str y t from ru);cases hb;exact dk PySem.W.kitx_str I.gk oU (k.str _) (fun z=>nomatch z) fin
 |tup ds=>
  obtain⟨x,xs,rfl,e1,_⟩:=lQ hd;cases (show u=aH x from ru);cases hb;obtain⟨its,_,⟨o,h1,h2,_⟩,_⟩:=I.tuple e1;exact dk PySem.W.kitx_tuple I.gk ⟨o,h1,h2⟩ (k.tup _) (fun z=>nomatch z) fin
 |dW ds=>
  obtain⟨x,xs,rfl,e1,_⟩:=vJ hd;cases (show u=aH x from ru);cases hb;obtain⟨its,_,p1,_⟩:=I.list e1.l;obtain⟨o,h1,h2,_⟩:=p1.isList;exact dk oE I.gk ⟨o,h1,h2⟩ (k.lst _) (fun z=>nomatch z) fin
 |dc x=>
  unfold Hv at hd;obtain⟨rfl,ob,φ,e1,c⟩:=hd;cases (show u=aH x from ru);cases hb;obtain⟨h1,_⟩:=I.bF x _ e1;exact dk uW I.gk ⟨ob,h1,c⟩ (k.fE _) (fun z=>nomatch z) fin
 |obj x=>
  rw[ip hd] at ru;cases (show u=aH x from ru);unfold iV at hb;cases hG:G x with
  |none=>simp[hG] at hb
  |some o=>
   have hl:∀xs,H x=some (.lst xs)->∃o,s.heap.get? x=some o/\o.cls=.type "list":=fun xs e=>by
    obtain⟨_,_,n,_,h1⟩:=(show bV X.prog X.w H s.heap x (.lst xs) from I.bF x _ e);exact⟨_,h1,rfl⟩
   cases o with
   |lst ds=>
    simp only[hG] at hb;cases hb;obtain⟨vs,e1,_⟩:=RG x _ hG;obtain⟨o,h1,h2⟩:=hl _ e1;exact dk oE I.gk ⟨o,h1,h2⟩ (k.lst _) (fun z=>nomatch z) fin
   |ny=>
    simp only[hG] at hb;cases hb;obtain⟨_,_,_,e1,_⟩:=RG x _ hG;obtain⟨o,h1,h2⟩:=hl _ e1;exact dk oE I.gk ⟨o,h1,h2⟩ (k.lst _) (fun z=>nomatch z) fin
   |gen R=>simp[hG] at hb
   |fE=>
    simp only[hG] at hb;cases hb;have e1:H x=some (.ext fun h=>∃o,h.get? x=some o/\o.cls=.type "dict"):=RG x _ hG;obtain⟨⟨o,h1,h2⟩,_⟩:=(show bV X.prog X.w H s.heap x _ from I.bF x _ e1);exact dk uW I.gk ⟨o,h1,h2⟩ (k.fE _) (fun z=>nomatch z) fin
theorem S0{T:String}{TS:ν}(k:zG T)(hv:gM TS=some (.type T))(ha:bT X a ta)(hm:X.mg "isinstance" = none)(hm2:X.mg TS=none)(hgT:Gl X TS)(hnT:TS≠"__name__")(hdT:(TS==("__debug__":ν))=false)(hg:Gl X "isinstance":=by rfl)
  (he:notStar a=true:=by rfl):
  bT X (.Call (.Name "isinstance" p) [a,.Name TS p2] [] pos) (qo T ta):=
 jS (qJ (S6 k) hg hm rfl (pC ha (pC (L4 (v:=.ty T) hgT hm2 hv rfl hnT hdT) t9 (eB rfl)) (eB he)) (he:=eB he) (hpl:=kD rfl)) fun σ H Q ⟨τ,G,Q3,RS,RG,h,k⟩=>by
  refine⟨τ,G,_,RS,RG,h,fun v H1 d G1 h1 S1 R1 q1=>?_⟩;cases hb:iV T G1 d with
  |none=>rw[hb] at q1;exact q1.elim
  |some b=>
   rw[hb] at q1;exact⟨d,v,G1,b,rfl,h1,R1,hb,k _ H1 (.bl b) G1 pB S1 R1 q1⟩
end
def tupI(ns:List Int):D:=.tup (ns.map D.int)
section
variable {P:Ω} {w:ah} {H:Hp} {h:Ψ} {a:ζ} {o:HO}
theorem SY(x:bV P w H h a o):∃o,h.get? a=some o:=by
 cases o with
 |lst xs=>obtain⟨_,_,_,_,e⟩:=x;exact⟨_,e⟩
 |tup xs=>obtain⟨_,_,_,o,e,_⟩:=x;exact⟨_,e⟩
 |dK kvs=>obtain⟨_,_,_,_,o,_,_,e,_⟩:=x;exact⟨_,e⟩
 |dT kvs=>obtain⟨_,_,_,_,o,_,_,e,_⟩:=x;exact⟨_,e⟩
 |set S n=>obtain⟨o,_,_,_,e,_⟩:=x;exact⟨_,e⟩
 |ins C dx fs=>obtain⟨_,_,_,e,_⟩:=x;exact⟨_,e⟩
 |own y=>obtain⟨_,e⟩:=x;exact⟨_,e⟩
 |xd fs=>obtain⟨_,⟨_,_,_,e,_⟩,_⟩:=x;exact⟨_,e⟩
 |CQ lo hi=>obtain⟨_,_,_,e⟩:=x;exact⟨_,e⟩
 |cT ob u=>obtain⟨e,_⟩:=x;exact⟨_,e⟩
 |wj ps=>exact⟨_,(show h.get? a=some _ from x)⟩
 |met f y=>exact⟨_,(show h.get? a=some _ from x)⟩
 |ext φ=>obtain⟨_,⟨_,e⟩,_⟩:=x;exact⟨_,e⟩
end
section
variable {X:Cx} {pins:List (ζ×aP)} {σ:L2.St} {H:Hp} {s:η}
theorem Inv.GC(I:Inv X pins σ H s){a:ζ}(hn:s.heap.get? a=none):H a=none:=by
 cases e:H a with
 |none=>rfl
 |some o=>
  obtain⟨ob,h⟩:=SY (I.bF a o e);rw[hn] at h;cases h
theorem Inv.Nt{a:ζ}{o:HO}{t':Nat}{h':Ψ}(I:Inv X pins σ H s)(k:∀b u,s.heap.get? b=some u->h'.get? b=some u)(hn:s.heap.get? a=none)(new:bV X.prog X.w (upd H a o) h' a o):
  Inv X pins σ (upd H a o) { s with heap:=h',toks:=t' }:=by
 have hH:=Inv.GC I hn;have ne:∀b u,s.heap.get? b=some u->b≠a:=fun b u e z=>by rw[z,hn] at e;cases e
 refine I.un ⟨fun b u q _ _ _=>k b u q,fun b u q _ _ _=>⟨u.slots,k b u q⟩,fun b u q n _=>by rw[dz (ne b u q)];exact n,fun b u q _=>⟨u,k b u q⟩,fun b xs q=>by rw[dz (mJ q hH)];exact q,
  fun b u xs q=>by rw[dz (mJ q hH)];exact q,fun b ps q=>⟨#[],by rw[dz (mJ q hH),q];simp⟩⟩ fun b u e=>?_
 by_cases hb:b=a
 ·subst hb;rw[iO] at e;cases e;exact new
 ·rw[dz hb] at e;exact (I.bF b u e).lg (fun c v _ q=>k c v q) (fun c q=>by rw[dz (mJ q hH)];exact q) fun c xs q=>by rw[dz (mJ q hH)];exact q
theorem Fe{ns:List Int}:∀{us:List ε},bp (ns.map V.int) us->ItemsAre (intKind X.prog X.w) ns us:=by
 induction ns with
 |nil=>intro us r;cases r;exact .nil
 |cons n ns ih=>
  intro us r;cases r with
  |cons r1 r2=>
   obtain⟨t,rfl⟩:=(show ∃t,_=lE n t from r1);exact .cons (by show vn n (.int n t)=true;simp[vn]) (ih r2)
theorem Fd(I:Inv X pins σ H s):∀{nss:List (List Int)} {vs:List V} {us:List ε},aF X.K H (nss.map tupI) vs->bp vs us ->
  ∃ps:List (List Int×ζ),ps.map (·.1)=nss/\vs=ps.map (fun p=>.ref p.2)/\us=ps.map (fun p=>aH p.2)/\∀p∈ps,cC X.K H p.2 (p.1.map V.int)/\jX.jd X.prog X.w s.heap p.1 p.2
 |[],vs,us,h,r=>by
  cases h.hZ;cases r;exact⟨[],rfl,rfl,rfl,fun p hp=>nomatch hp⟩
 |ns::nss,vs,us,h,r=>by
  obtain⟨v,vr,rfl,q1,q2⟩:=h.inv;cases r with
  |cons r1 r2=>
   obtain⟨ps,e1,e2,e3,e4⟩:=Fd I q2 r2;obtain⟨a,ws,rfl,z1,z2⟩:=lQ q1;have hw:ws=ns.map V.int:=by
    refine vH z2 ?_;clear z2 z1 q1 h e1 e2 e3 e4 q2 r2 r1
    induction ns with
    |nil=>rfl
    |cons n ns ih=>simp[intsOf,ih]
   subst hw;cases (show _=aH a from r1);obtain⟨its,rv,⟨o,h1,h2,n,h3⟩,_⟩:=I.tuple z1;refine⟨(ns,a)::ps,by simp[e1],by simp[e2],by simp[e3],fun p hp=>?_⟩;rcases Δ.mp hp with rfl|hp
   ·exact⟨z1,o,its.toArray,n,h1,h2,h3,Fe rv⟩
   ·exact e4 p hp
theorem Fc{K:θ}{H:Hp}:∀{qs:List (List Int×ζ)},(∀p∈qs,cC K H p.2 (p.1.map V.int))->aF K H ((qs.map (·.1)).map tupI) (qs.map fun p=>.ref p.2)
 |[],_=>.nil
 |q::qs,h=>.cons (r9 (h q χ) (aF.ints _)) (Fc fun p hp=>h p (ψ _ hp))
theorem Kz:∀(qs:List (List Int×ζ)),bp (qs.map fun p=>V.ref p.2) (qs.map fun p=>aH p.2)
 |[]=>.nil
 |q::qs=>.cons rfl (Kz qs)
def kn(nss:List (List Int)):Prop:=nss.Pairwise fun x y=>gp.lx y x=false
theorem Ky{Q:VK}(I:Inv X pins σ H s){ps qs:List (List Int×ζ)}{s':η}{c:Nat}{D':ζ}(hz:ps.length<64)(hS:gp.NW ps qs)(hn:s.heap.get? D'=none)(hD:s'.heap.get? D'=some (seqObj "list" (qs.map fun p=>aH p.2).toArray c))
  (hm:dU [] (fun x y=>y=x) s s') (q:H D'=none->Q (.ref D') (upd H D' (.lst (qs.map fun p=>.ref p.2)))):EP X pins σ Q (.ref D') s':=by
 have e:s'={ s with heap:=s'.heap,toks:=s'.toks }:=by
  cases s';cases s;have h1:=hm.gens;have h2:=hm.drawn;have h3:=hm.os;simp only at h1 h2 h3;subst h1 h2 h3;rfl
 rw[e];refine⟨.ref D',_,Inv.Nt I (o:=.lst (qs.map fun p=>.ref p.2)) (fun b u z=>hm.heap b u (fun y=>nomatch y) z) hn ?_,rfl,q (Inv.GC I hn)⟩;refine⟨?_,_,c,Kz qs,hD⟩;rw[π,hS.perm.length_eq,cH];lia
theorem SX(hc:X.calm=true)(hu:X.A.units+64<cLine):jI X (.builtin "sorted") (fun vs H Q=>∃(a:ζ) (xs:List V) (nss:List (List Int)),vs=[.ref a]/\fM X.K H a xs/\aF X.K H (nss.map tupI) xs/\nss.length<64/\(∀ns∈nss,ns≠[]) ∧
  ∀(p:ζ) (mss:List (List Int)) (ys:List V),H p=none->mss.Perm nss->kn mss->aF X.K H (mss.map tupI) ys->Q (.ref p) (upd H p (.lst ys))):=by
 intro pins s σ H vs us Q I r h;obtain⟨a,xs,nss,rfl,hl,hv,hz,bZ,q⟩:=h;obtain⟨u,rfl,ru⟩:=vals1 r;cases ru;obtain⟨its,rv,pl,_⟩:=I.list hl;obtain⟨ps,e1,e2,e3,e4⟩:=Fd I hv rv;subst e3;have hlen:ps.length=nss.length:=by rw[←e1,π]
 refine gp.xO (ps:=ps) (fun p hp=>⟨(e4 p hp).2,bZ _ (by rw[←e1];exact aj.mpr ⟨p,hp,rfl⟩)⟩) (by lia) (fun R hR=>?_) fun qs s' c D' hS hn hD hm=>?_
 ·refine collect_list pl.isList (hR _ ⟨fun b o _ e=>?_,rfl,rfl,rfl,Θ _⟩) (by rw[π,cH];lia);have hlt:=Ξ e;show ((s.heap.push (seqObj "list" #[] 0)).update s.heap.objs.size _).get? b=some o;rw[ay _ _ (gO hlt)];exact ι _ e
 ·refine Ky I (by lia) hS hn hD hm fun hf=>?_;refine q _ (qs.map (·.1)) _ hf (by rw[←e1];exact hS.perm.map _) ?_ (Fc fun p hp=>(e4 p (hS.perm.mem_iff.mp hp)).1);exact cm.mpr hS.rise
end
end L3
namespace L3
open PySem PySem.Spec PyProof.Rows L2
def yu(P:Ω)(w:ah)(b:ζ)(zs:List (List Int×ζ)):Ψ->Prop:=fun h=>∃o es ep t,h.get? b=some o/\o.ExactSet/\o.data=.set es ep t/\es.toList=zs.map (jX.ent P w)/\(zs.map (·.1)).Nodup/\t.plain=true ∧
 t.led=(!(w.params.followText "set-order"))/\pJ.Tab t (es.toList.map (·.1))
theorem SW{α β:Type}{f:α->β}{l l':List β}(h:l.Perm l'):∀{zs:List α},l'=zs.map f->∃zs':List α,zs'.Perm zs/\l=zs'.map f:=by
 induction h with
 |nil=>
  intro zs e;have:zs=[]:=by simpa using e.symm
  subst this;exact⟨[],.nil,rfl⟩
 |cons x _ ih=>
  intro zs e;cases zs with
  |nil=>cases e
  |cons z zs=>
   simp only[bP,wY] at e;obtain⟨zs',h1,h2⟩:=ih e.2;exact⟨z::zs',h1.cons z,by simp[e.1,h2]⟩
 |swap x y l=>
  intro zs e;rcases zs with _|⟨z,_|⟨z2,zs⟩⟩
  ·cases e
  ·simp at e
  ·simp only[bP,wY] at e;exact⟨z2::z::zs,.swap _ _ _,by simp[e.1,e.2.1,e.2.2]⟩
 |trans _ _ ih1 ih2=>
  intro zs e;obtain⟨z2,h1,h2⟩:=ih2 e;obtain⟨z1,h3,h4⟩:=ih1 h2;exact⟨z1,h3.trans h1,h4⟩
section
variable {X:Cx}
theorem SV(hc:X.calm=true)(hu:X.A.units+64<cLine):jI X (.type "set") (fun vs H Q=>∃(a:ζ) (xs:List V) (nss:List (List Int)),vs=[.ref a]/\fM X.K H a xs/\aF X.K H (nss.map tupI) xs/\nss.length≤60 ∧
  ∀(b:ζ) (zs:List (List Int×ζ)),H b=none->(∀p∈zs,cC X.K H p.2 (p.1.map V.int))->(∀ns,ns∈zs.map (·.1)↔ns∈nss)->(zs.map (·.1)).Nodup->zs.length≤nss.length->Q (.ref b) (upd H b (.ext (yu X.prog X.w b zs)))):=by
 intro pins s σ H vs us Q I r h;obtain⟨a,xs,nss,rfl,hl,hv,hz,q⟩:=h;obtain⟨u,rfl,ru⟩:=vals1 r;cases ru;obtain⟨its,rv,pl,_⟩:=I.list hl;obtain⟨ps,e1,e2,e3,e4⟩:=Fd I hv rv;subst e3;have hlen:ps.length=nss.length:=by rw[←e1,π]
 refine jX.xX (ps:=ps) (I.ok.hd hc) pl.isList rfl (fun p hp=>(e4 p hp).2) (by lia) (by lia) fun h' tk zs kk hS hD=>?_;obtain⟨o,es,ep,t,S,T⟩:=hS;refine⟨.ref s.heap.objs.size,_,I.laid (o:=.ext (yu X.prog X.w s.heap.objs.size zs)) kk (Θ _) ?_,rfl,q _ zs (I.bF.fresh (Θ _)) (fun p hp=>(e4 p (hD.sub p hp)).1) (fun ns=>?_) S.nd ?_⟩
 ·refine⟨⟨o,es,ep,t,S.at_,S.ex,S.dat,S.ents,S.nd,S.plain,S.led,T⟩,⟨o,S.at_⟩,fun h1 h2 ⟨o',es',ep',t',y1,y⟩ kk2=>⟨o',es',ep',t',kk2 _ y1,y⟩⟩
 ·rw[←e1];constructor
  ·intro hm;obtain⟨p,hp,rfl⟩:=aj.mp hm;exact aj.mpr ⟨p,hD.sub p hp,rfl⟩
  ·intro hm;obtain⟨p,hp,rfl⟩:=aj.mp hm;exact hD.all p hp
 ·rw[←hlen];exact hD.len
theorem SU(hc:X.calm=true)(hu:X.A.units+64<cLine):jI X (.builtin "sorted") (fun vs H Q=>∃(b:ζ) (zs:List (List Int×ζ)),vs=[.ref b]/\H b=some (.ext (yu X.prog X.w b zs))/\(∀p∈zs,cC X.K H p.2 (p.1.map V.int))/\zs.length≤60/\(∀p∈zs,p.1≠[]) ∧
  ∀(p:ζ) (mss:List (List Int)) (ys:List V),H p=none->mss.Perm (zs.map (·.1))->kn mss->aF X.K H (mss.map tupI) ys->Q (.ref p) (upd H p (.lst ys))):=by
 intro pins s σ H vs us Q I r h;obtain⟨b,zs,rfl,hb,hk,hz,bZ,q⟩:=h;obtain⟨u,rfl,ru⟩:=vals1 r;cases ru;obtain⟨⟨o,es,ep,t,y1,y2,y3,y4,y5,y6,y7,T⟩,_⟩:=(show bV X.prog X.w H s.heap b _ from I.bF b _ hb);have hK:∀p∈zs,jX.jd X.prog X.w s.heap p.1 p.2:=fun p hp=>by
  obtain⟨its,rv,⟨o,h1,h2,n,h3⟩,_⟩:=I.tuple (hk p hp);exact⟨o,its.toArray,n,h1,h2,h3,Fe rv⟩
 have S:jX.m8 X.prog X.w s.heap b o es ep t zs:=⟨y1,y2,y3,y4,hK,y5,y6,y7⟩;obtain⟨zs',p1,p2⟩:=SW (jX.oI X.w b ep es) y4;have hsz:es.size=zs.length:=by
  have:es.toList.length=zs.length:=by rw[y4,π]
  simpa using this
 refine gp.xO (ps:=zs') (fun p hp=>⟨hK p (p1.mem_iff.mp hp),bZ p (p1.mem_iff.mp hp)⟩) (by rw[p1.length_eq];lia) (fun R hR=>?_) fun qs s' c D' hS hn hD hm=>?_
 ·refine jX.wZ (by have:=I.ok.hd hc;simpa using this) S.wk T (by lia) fun s' hm=>?_;have:=hR s' hm;rw[p2,cZ];exact this
 ·refine Ky I (by rw[p1.length_eq];lia) hS hn hD hm fun hf=>?_;refine q _ (qs.map (·.1)) _ hf ((hS.perm.map _).trans (p1.map _)) ?_ (Fc fun p hp=>hk p (p1.mem_iff.mp (hS.perm.mem_iff.mp hp)));exact cm.mpr hS.rise
end
section
variable {X:Cx} {K:θ} {e:ρ} {es:List ρ} {t:cM} {ta:aU} {pos p p' pos':aO}
def vD:C3:=fun ds G Q=>match ds with
 |[.obj a]=>∃nss:List (List Int),G a=some (.lst (nss.map tupI))/\nss.length<64/\(∀ns∈nss,ns≠[])/\∀(p:ζ) (mss:List (List Int)) (G':Gp),eD G p (.lst (mss.map tupI)) G'->mss.Perm nss->kn mss->Q (.obj p) G'
 |_=>False
theorem SR:sF K vD (fun vs H Q=>∃(a:ζ) (xs:List V) (nss:List (List Int)),vs=[.ref a]/\fM K H a xs/\aF K H (nss.map tupI) xs/\nss.length<64/\(∀ns∈nss,ns≠[]) ∧
  ∀(p:ζ) (mss:List (List Int)) (ys:List V),H p=none->mss.Perm nss->kn mss->aF K H (mss.map tupI) ys->Q (.ref p) (upd H p (.lst ys))):=fun ds vs G H Q3 Q h RG q k=>by
 rcases ds with _|⟨d,_|⟨d2,ds⟩⟩
 ·exact q.elim
 ·obtain⟨v,rfl,hv⟩:=sx h;cases d with
  |obj a=>
   obtain⟨nss,e1,hz,bZ,q⟩:=q;obtain⟨xs,e2,e3⟩:=RG a _ e1;rw[ip hv];exact⟨a,xs,nss,rfl,.of e2,e3,hz,bZ,fun p mss ys hp h1 h2 h3=>k _ _ (.obj p) _ vI (.jG hp) (RG.xB hp h3) (q p mss _ (.mk' (RG.free hp)) h1 h2)⟩
  |_=>exact q.elim
 ·cases d<;>exact q.elim
theorem SQ(hu:X.A.units+64<cLine)(hm:X.mg "sorted" = none)(ha:jc X (e::es) t)(hc:X.calm=true:=by rfl)(hg:Gl X "sorted":=by rfl)(he:notStar e=true:=by rfl)(hpl:es.all notStar=true:=by rfl):
  bT X (.Call (.Name "sorted" p) (e::es) [] pos) (eH vD t):=v7 SR (qJ (SX hc hu) hg hm rfl ha (he:=eB he) (hpl:=kD hpl))
def sC(ta:aU):aU:=fun τ G Q=>ta τ G fun x G1=>match x with
 |.obj a=>∃nss:List (List Int),G1 a=some (.lst (nss.map tupI))/\nss.length≤60/\(∀ns∈nss,ns≠[])/\∀(p:ζ) (mss:List (List Int)) (G':Gp),eD G1 p (.lst (mss.map tupI)) G'->(∀ns,ns∈mss↔ns∈nss)->mss.Nodup->kn mss->mss.length≤nss.length->Q (.obj p) G'
 |_=>False
theorem SO(hu:X.A.units+64<cLine)(ha:bT X e ta)(hm:X.mg "sorted" = none)(hm2:X.mg "set" = none)(hc:X.calm=true:=by rfl)(hg:Gl X "sorted":=by rfl)(hg2:Gl X "set":=by rfl)(he2:notStar e=true:=by rfl):
  bT X (.Call (.Name "sorted" p) [.Call (.Name "set" p') [e] [] pos'] [] pos) (sC ta):=
 jS (qJ (SU hc hu) hg hm rfl (pC (EU (SV hc hu) hg2 hm2 rfl (pC ha t9 (eB he2)) (he:=eB he2) (hpl:=kD rfl)) t9 (eB rfl)) (he:=eB rfl) (hpl:=kD rfl)) fun σ H Q ⟨τ,G,Q3,RS,RG,h,k⟩=>by
  refine⟨τ,G,_,RS,RG,h,fun v H1 d G1 h1 S1 R1 q1=>?_⟩;cases d with
  |obj a=>
   obtain⟨nss,e1,hz,bZ,q⟩:=q1;obtain⟨xs,e2,e3⟩:=R1 a _ e1;rw[ip h1];refine⟨a,xs,nss,rfl,.of e2,e3,hz,fun b zs hb hk hmem hnd hlen=>?_⟩;have E2:Ext H1 (upd H1 b (.ext (yu X.prog X.w b zs))):=.laid hb;refine⟨b,zs,rfl,iO,fun p hp=>cC.ext E2 (hk p hp),by lia,fun p hp=>bZ _ ((hmem _).mp (aj.mpr ⟨p,hp,rfl⟩)),fun p mss ys hp hpm hr hv=>?_⟩;have R2:aJ X.K G1 (upd H1 b (.ext (yu X.prog X.w b zs))):=R1.laid hb;refine k _ _ (.obj p) _ vI ((S1.trans (.laid hb)).trans (.jG hp)) (R2.xB hp hv) (q p mss _ (.mk' (R2.free hp)) (fun ns=>?_) ?_ hr ?_)
   ·rw[hpm.mem_iff];exact hmem ns
   ·exact hpm.nodup_iff.mpr hnd
   ·rw[hpm.length_eq,π];exact hlen
  |_=>exact q1.elim
def oO:List D->Option (List Bool)
 |[]=>some []
 |.bl b::r=>(oO r).map (b::·)
 |_::_=>none
theorem AR{H:Hp}:∀{ds:List D} {vs:List V} {bs:List Bool},aF K H ds vs->oO ds=some bs->vs=bs.map V.bl
 |[],vs,ns,h,e=>by
  cases e;exact h.hZ
 |d::ds,vs,ns,h,e=>by
  cases d with
  |bl i=>
   obtain⟨v,r,rfl,z1,z2⟩:=h.inv;unfold oO at e;cases hm:oO ds with
   |none=>rw[hm] at e;cases e
   |some ms=>
    rw[hm] at e;cases e;rw[vK z1,AR z2 hm];rfl
  |_=>cases e
theorem Kx:∀{bs:List Bool} {us:List ε},bp (bs.map V.bl) us->us=bs.map dN
 |[],_,.nil=>rfl
 |b::bs,_,.cons r rr=>by
  rw[(show _=dN b from r),Kx rr];rfl
theorem range_all(bs:List Bool):(ao bs.length).all (fun i=>bs.getD i false)=bs.all id:=by
 rw[jM];simp only[eY,ax,id_eq];constructor
 ·intro h b hb;obtain⟨i,hi,rfl⟩:=List.mem_iff_getElem.mp hb;have:=h i hi;simpa [nH,hi] using this
 ·intro h i hi;have:=h bs[i] (i8 hi);simpa [nH,hi] using this
theorem Fb(hc:X.calm=true){pins:List (ζ×aP)}{s:η}{σ:L2.St}{H:Hp}{a:ζ}{xs:List V}{E:ε->η->Prop}(I:Inv X pins σ H s)(hl:fM X.K H a xs){Q:ε->η->Prop}
  (q:∀(its:List ε) (I':ζ),bp xs its->rL X.prog X.w X.A.in1 I' [I',a] [I'] (fun x y=>y=x) its.length (fun i v=>its[i]?=some v) (fun i s=>s.heap.IsListIter I' a i/\s.heap.IsList a its.toArray) ->
   (s.heap.push { cls:=.type "list_iterator",data:=.fields #[.ref a,.int 0 0]}).IsListIter I' a 0->(s.heap.push { cls:=.type "list_iterator",data:=.fields #[.ref a,.int 0 0]}).IsList a its.toArray ->
   (∀b∈[I',a],b<(s.heap.push { cls:=.type "list_iterator",data:=.fields #[.ref a,.int 0 0]}).objs.size) ->
   (∀s',dU [I'] (fun x y=>y=x) { s with heap:=s.heap.push { cls:=.type "list_iterator",data:=.fields #[.ref a,.int 0 0]}} s'->Inv X pins σ H s')->Q (.ref I') { s with heap:=s.heap.push { cls:=.type "list_iterator",data:=.fields #[.ref a,.int 0 0]}}):
  ξ (model X.prog X.w) X.A.in1 (pyIter (.ref a)) Q E s:=by
 obtain⟨its,rv,pl,_⟩:=I.list hl;have hla:a<s.heap.objs.size:=by
  obtain⟨o,h1,_⟩:=pl.isList;exact Ξ h1
 refine fy pl.isList ?_;have hW:=(Walks.list (prog:=X.prog) (w:=X.w) (A:=X.A.in1) (by have:=I.ok.hd hc;simpa using this) s.heap.objs.size a (aW hla) its.toArray).toS;refine q its s.heap.objs.size rv (by simpa using hW) ⟨_,af _ rfl,rfl,rfl⟩ ?_ ?_ fun s' hm=>?_
 ·obtain⟨o,h1,h2⟩:=pl.isList;exact⟨o,ι _ h1,h2⟩
 ·intro b hb;rw[size_push'];rcases Δ.mp hb with e|e
  ·rw[e];exact fS _
  ·have:b=a:=by simpa using e
   rw[this];exact iz hla
 ·have e:s'={ s with heap:=s'.heap,toks:=s'.toks }:=by
   cases s';cases s;have h1:=hm.gens;have h2:=hm.drawn;have h3:=hm.os;simp only at h1 h2 h3;subst h1 h2 h3;rfl
  rw[e];exact I.kept fun b u z=>hm.heap b u (fun y=>by
   have:b=s.heap.objs.size:=by simpa using y
   exact absurd (this▸Ξ z) (bU _)) (ι _ z)
theorem SN(hc:X.calm=true):jI X (.builtin "all") (fun vs H Q=>∃(a:ζ) (bs:List Bool),vs=[.ref a]/\fM X.K H a (bs.map V.bl)/\Q (.bl (bs.all id)) H):=by
 intro pins s σ H vs us Q I r h;obtain⟨a,bs,rfl,hl,q⟩:=h;obtain⟨u,rfl,ru⟩:=vals1 r;cases ru;refine call_all_walkS (Fb hc I hl fun its I' rv W h1 h2 h3 back=>⟨I',_,_,_,_,_,_,fun i=>bs.getD i false,rfl,W,⟨h1,h2⟩,?_,fun s' hm=>?_⟩)
 ·intro i v s' Q' E' hv hq;have hx:=Kx rv;subst hx;rw[aI] at hv;cases hb:bs[i]? with
  |none=>rw[hb] at hv;cases hv
  |some b=>
   rw[hb] at hv;cases hv;have:bs.getD i false=b:=by simp[nH,hb]
   dsimp only at hq;rw[this] at hq;exact fx hq
 ·have:its.length=bs.length:=by rw[←rv.length,π]
  rw[this,range_all];exact⟨.bl (bs.all id),H,back s' hm,rfl,q⟩
def t7:C3:=fun ds G Q=>match ds with
 |[.obj a]=>∃xs bs,G a=some (.lst xs)/\oO xs=some bs/\Q (.bl (bs.all id)) G
 |_=>False
theorem SM:sF K t7 (fun vs H Q=>∃(a:ζ) (bs:List Bool),vs=[.ref a]/\fM K H a (bs.map V.bl)/\Q (.bl (bs.all id)) H):=fun ds vs G H Q3 Q h RG q k=>by
 rcases ds with _|⟨d,_|⟨d2,ds⟩⟩
 ·exact q.elim
 ·obtain⟨v,rfl,hv⟩:=sx h;cases d with
  |obj a=>
   obtain⟨xs,bs,e1,e2,q⟩:=q;obtain⟨ys,e3,e4⟩:=RG a _ e1;rw[ip hv];rw[AR e4 e2] at e3;exact⟨a,bs,rfl,.of e3,k _ H _ G pB (.refl H G) RG q⟩
  |_=>exact q.elim
 ·cases d<;>exact q.elim
theorem SK(hu:X.A.units+64<cLine)(hm:X.mg "all" = none)(ha:jc X (e::es) t)(hc:X.calm=true:=by rfl)(hg:Gl X "all":=by rfl)(he:notStar e=true:=by rfl)(hpl:es.all notStar=true:=by rfl):
  bT X (.Call (.Name "all" p) (e::es) [] pos) (eH t7 t):=v7 SM (qJ (SN hc) hg hm rfl ha (he:=eB he) (hpl:=kD hpl))
end
end L3
namespace L3
open PySem PySem.Spec PyProof.Rows L2
open Sem (wp)
def Ik(k:Bool)(h:Ψ)(jt a:ζ)(i:Nat):Prop:=match k with
 |true=>h.IsListIter jt a i
 |false=>h.IsTupleIter jt a i
def Sk(k:Bool)(h:Ψ)(a:ζ)(xs:Array ε):Prop:=match k with
 |true=>h.IsList a xs
 |false=>h.IsTuple a xs
theorem Ik.of{k:Bool}{h h':Ψ}{jt a:ζ}{i:Nat}(x:Ik k h jt a i)(f:∀o,h.get? jt=some o->h'.get? jt=some o):Ik k h' jt a i:=by
 cases k<;>(obtain⟨o,e,r⟩:=x;exact⟨o,f o e,r⟩)
theorem Sk.of{k:Bool}{h h':Ψ}{a:ζ}{xs:Array ε}(x:Sk k h a xs)(f:∀o,h.get? a=some o->h'.get? a=some o):Sk k h' a xs:=by
 cases k<;>(obtain⟨o,e,r⟩:=x;exact⟨o,f o e,r⟩)
theorem Ik.obj{k:Bool}{h:Ψ}{jt a:ζ}{i:Nat}(x:Ik k h jt a i):∃o,h.get? jt=some o/\∀v,o.data≠.cell v:=by
 cases k<;>(obtain⟨o,e,c,d⟩:=x;exact⟨o,e,fun v z=>by rw[d] at z;cases z⟩)
section
variable {P:Ω} {w:ah} {A:aE} {E:ε->η->Prop} {s:η}
theorem nextK{k:Bool}{jt a:ζ}{i:Nat}{xs:Array ε}{u:ε}{Q:ε->η->Prop}(hi:Ik k s.heap jt a i)(ha:Sk k s.heap a xs)(hx:xs[i]?=some u)
  (q:∀h',Ik k h' jt a (i+1)->et jt s.heap h'->Q u { s with heap:=h' }):ξ (model P w) A (cF (.ref jt)) Q E s:=by
 cases k with
 |true=>exact wpAny_nextOf_list_item hi ha hx q
 |false=>
  have hi:s.heap.IsTupleIter jt a i:=hi;obtain⟨o,e1,c1,d1⟩:=id hi;obtain⟨oa,e2,c2,n2,d2⟩:=(show s.heap.IsTuple a xs from ha);unfold cF;refine δ (bS (name:=ee "__next__") hi.typeIs F.slot_tuple_iterator_next (cA F.slot_tuple_iterator_next hi.typeIs F.entry_tuple_iterator_next ?_ (F.args_tuple_iterator_next_1 _)));show ξ _ _ (field (.ref jt) 0 >>= _) _ _ s;refine δ (bI e1 d1 (x:=.ref a) rfl ?_);show ξ _ _ (if (aH a==aS)=true then _ else _) _ _ s;rw[if_neg (show ¬((aH a==aS)=true) from ar)];show ξ _ _ (field (.ref jt) 1 >>= _) _ _ s;refine δ (bI e1 d1 (x:=.int i 0) rfl ?_);show ξ _ _ (seqItems? (.ref a) >>= _) _ _ s;refine δ (bY e2 d2 ?_);simp only[hx,bC];refine δ (fb e1 d1 (by simp) (μ ⟨u,rfl,μ (q _ ?_ (cy ..))⟩));exact⟨_,bu _ e1 (dR (cV d1 _)),(oF ..).trans c1,by rw[cV d1];simp[rawInt]⟩
theorem AQ{k:Bool}{jt a:ζ}{i:Nat}{xs:Array ε}{Q:ε->η->Prop}(hh:A.handled=none)(hi:Ik k s.heap jt a i)(ha:Sk k s.heap a xs)(hx:xs[i]?=none)
  (q:∀h' e,kU jt s.heap h'->(∃o,h'.get? e=some o/\o.cls=.type "StopIteration")->E (.ref e) { s with heap:=h' }):ξ (model P w) A (cF (.ref jt)) Q E s:=by
 cases k with
 |true=>exact wpAny_nextOf_list_end hh hi ha hx q
 |false=>
  have hi:s.heap.IsTupleIter jt a i:=hi;obtain⟨o,e1,c1,d1⟩:=id hi;obtain⟨oa,e2,c2,n2,d2⟩:=(show s.heap.IsTuple a xs from ha);unfold cF;refine δ (bS (name:=ee "__next__") hi.typeIs F.slot_tuple_iterator_next (cA F.slot_tuple_iterator_next hi.typeIs F.entry_tuple_iterator_next ?_ (F.args_tuple_iterator_next_1 _)));show ξ _ _ (field (.ref jt) 0 >>= _) _ _ s;refine δ (bI e1 d1 (x:=.ref a) rfl ?_);show ξ _ _ (if (aH a==aS)=true then _ else _) _ _ s;rw[if_neg (show ¬((aH a==aS)=true) from ar)];show ξ _ _ (field (.ref jt) 1 >>= _) _ _ s;refine δ (bI e1 d1 (x:=.int i 0) rfl ?_);show ξ _ _ (seqItems? (.ref a) >>= _) _ _ s;refine δ (bY e2 d2 ?_);simp only[hx,bC];refine δ (g7 (δ (fb e1 d1 (by simp) ?_)));show ξ _ _ (newExc (.type "StopIteration") [] >>= _) _ _ ({ s with heap:=_ }:η);refine δ ?_;simp only[newTuple,newExc];refine δ (bG ?_ (by size_fits));refine δ (m:=firstArgMember _ _) (ib (a:=aS) (by first|(simp only[firstArgMember];rfl)|rfl) ?_)
  refine bG ?_ (by size_fits);simp only[raiseNew];refine δ (sY ?_)
  first|rw[hh]|rw[show A.in1.handled=none from hh]
  refine δ (μ (qV ?_));exact q _ _ (((cy ..).extBut.push _).push _) ⟨_,af _ rfl,rfl⟩
theorem N3{k1 k2:Bool}{zz ti ot j1 j2 a1 a2:ζ}{m n:Nat}{xs ys:Array ε}{u v c d:ε}{Q:ε->η->Prop}(D:ZipApart zz ti ot j1 j2 a1 a2)
  (Z:kY s.heap zz ti ot .none) (Ti:gR s.heap ti (.ref j1) (.ref j2)) (To:gR s.heap ot c d) (g1:Ik k1 s.heap j1 a1 m) (g2:Ik k2 s.heap j2 a2 n) (s1:Sk k1 s.heap a1 xs) (s2:Sk k2 s.heap a2 ys) (hu:xs[m]?=some u) (hv:ys[n]?=some v)
  (q:∀h',kY h' zz ti ot (rawInt s.heap.objs.size)->gR h' ot u v->Ik k1 h' j1 a1 (m+1)->Ik k2 h' j2 a2 (n+1)->gR h' s.heap.objs.size u v ->
   (∀b o,b≠zz->b≠ot->b≠j1->b≠j2->s.heap.get? b=some o->h'.get? b=some o)->Q (.ref s.heap.objs.size) { s with heap:=h' }):
  ξ (model P w) A (cS.«zip.__next__» ⟨[.ref zz],[]⟩) (fun fin s'=>∃r,fin=.done (.ret r)/\Q r s') E s:=by
 show ξ _ _ (field (.ref zz) 2 >>= _) _ _ _;refine δ (bI Z rfl (x:=.bool false) rfl ?_);show ξ _ _ (field (.ref zz) 3 >>= _) _ _ _;refine δ (bI Z rfl (x:=.ref ti) rfl ?_);refine δ (bY Ti rfl ?_);show ξ _ _ (eG (.ref zz) >>= _) _ _ _;refine δ ?_;unfold eG;refine δ (bI Z rfl (x:=.none) rfl (μ ?_));simp only[if_true];refine δ (g7 ?_);refine δ (bI Z rfl (x:=.ref ot) rfl ?_);refine δ (dn Z (by simp) fun w1 Z1 b1=>?_)
 replace Z1:kY w1 zz ti ot .ellipsis:=Z1
 refine δ ?_
 (simp only[List.zipIdx_nil,List.zipIdx_cons,List.forIn_nil,qz])
 have k1_:∀b o,b≠zz->s.heap.get? b=some o->w1.get? b=some o:=fun b o h e=>b1.extBut b o h e;refine δ (δ (nS ?_));show ξ _ _ (cF (.ref j1) >>= _) _ _ _;refine δ (nextK (g1.of fun o e=>k1_ _ o D.i1z e) (s1.of fun o e=>k1_ _ o D.l1z e) hu fun w2 J1 b2=>μ ?_);have k2_:∀b o,b≠zz->b≠j1->s.heap.get? b=some o->w2.get? b=some o:=fun b o h h2 e=>b2.extBut b o h2 (k1_ b o h e);have To2:gR w2 ot c d:=k2_ _ _ D.TOz D.TOi1 To;refine δ (bY To2 rfl ?_);refine δ (md To2 fun w3 To3 b3=>?_)
 replace To3:gR w3 ot u d:=To3
 have k3_:∀b o,b≠zz->b≠j1->b≠ot->s.heap.get? b=some o->w3.get? b=some o:=fun b o h h2 h3 e=>b3.extBut b o h3 (k2_ b o h h2 e);refine δ (eQ (μ ?_));refine δ (δ (nS ?_));show ξ _ _ (cF (.ref j2) >>= _) _ _ _;refine δ (nextK (g2.of fun o e=>k3_ _ o D.i2z D.i12.symm D.TOi2.symm e) (s2.of fun o e=>k3_ _ o D.l2z D.l2i1 D.l2TO e) hv fun w4 J2 b4=>μ ?_);have To4:gR w4 ot u d:=b4.extBut _ _ D.TOi2 To3;refine δ (bY To4 rfl ?_);refine δ (md To4 fun w5 To5 b5=>?_)
 replace To5:gR w5 ot u v:=To5
 refine δ (eQ (μ (μ ?_)));refine δ (bY To5 rfl ?_);refine δ (rJ ?_);have sz:w5.objs.size=s.heap.objs.size:=by rw[b5.1,b4.1,b3.1,b2.1,b1.1]
 have Z5:kY w5 zz ti ot .ellipsis:=b5.extBut _ _ D.TOz.symm (b4.extBut _ _ D.i2z.symm (b3.extBut _ _ D.TOz.symm (b2.extBut _ _ D.i1z.symm Z1)));have k5_:∀b o,b≠zz->b≠ot->b≠j1->b≠j2->s.heap.get? b=some o->w5.get? b=some o:=fun b o c1 c2 c3 c4 e=>b5.extBut _ _ c2 (b4.extBut _ _ c4 (k3_ b o c1 c3 c2 e));have L1:Ik k1 w5 j1 a1 (m+1):=J1.of fun o e=>b5.extBut _ _ D.TOi1.symm (b4.extBut _ _ D.i12 (b3.extBut _ _ D.TOi1.symm e));have L2:Ik k2 w5 j2 a2 (n+1):=J2.of fun o e=>b5.extBut _ _ D.TOi2.symm e;have lz:zz<w5.objs.size:=Ξ Z5;show ξ _ _ (ki (.ref zz) (.ref w5.objs.size) >>= _) _ _ _;refine δ ?_;unfold ki;have Z6:kY (w5.push { cls:=.type "tuple",data:=.seq #[u,v]}) zz ti ot .ellipsis:=ι _ Z5;refine δ (dn Z6 (by simp) fun w7 Z7 b7=>?_)
 replace Z7:kY w7 zz ti ot (rawInt w5.objs.size):=Z7
 refine dn Z7 (by simp) fun w8 Z8 b8=>?_
 replace Z8:kY w8 zz ti ot (rawInt w5.objs.size):=Z8
 have up:∀b o,b≠zz->w5.get? b=some o->w8.get? b=some o:=fun b o c1 e=>b8.extBut _ _ c1 (b7.extBut _ _ c1 (ι _ e));have T8:gR w8 w5.objs.size u v:=b8.extBut _ _ (gO lz) (b7.extBut _ _ (gO lz) (af _ rfl));rw[sz] at Z8 T8;refine μ ⟨_,rfl,?_⟩;show Q (.ref w5.objs.size) _;rw[sz];exact q w8 Z8 (up _ _ D.TOz To5) (L1.of fun o e=>up _ o D.i1z e) (L2.of fun o e=>up _ o D.i2z e) T8 fun b o c1 c2 c3 c4 e=>up b o c1 (k5_ b o c1 c2 c3 c4 e)
theorem SJ{k1 k2:Bool}{zz ti ot j1 j2 a1 a2:ζ}{m n:Nat}{xs ys:Array ε}{c d:ε}{Q:Fin->η->Prop}(hh:A.handled=none)(D:ZipApart zz ti ot j1 j2 a1 a2)
  (Z:kY s.heap zz ti ot .none) (Ti:gR s.heap ti (.ref j1) (.ref j2)) (To:gR s.heap ot c d) (g1:Ik k1 s.heap j1 a1 m) (g2:Ik k2 s.heap j2 a2 n) (s1:Sk k1 s.heap a1 xs) (s2:Sk k2 s.heap a2 ys) (he:xs[m]?=none∨ys[n]?=none)
  (q:∀h' e,(∀b o,b≠zz->b≠ot->b≠j1->b≠j2->s.heap.get? b=some o->h'.get? b=some o)->(∃o,h'.get? e=some o/\o.cls=.type "StopIteration")->E (.ref e) { s with heap:=h' }):
  ξ (model P w) A (cS.«zip.__next__» ⟨[.ref zz],[]⟩) Q E s:=by
 show ξ _ _ (field (.ref zz) 2 >>= _) _ _ _;refine δ (bI Z rfl (x:=.bool false) rfl ?_);show ξ _ _ (field (.ref zz) 3 >>= _) _ _ _;refine δ (bI Z rfl (x:=.ref ti) rfl ?_);refine δ (bY Ti rfl ?_);show ξ _ _ (eG (.ref zz) >>= _) _ _ _;refine δ ?_;unfold eG;refine δ (bI Z rfl (x:=.none) rfl (μ ?_));simp only[if_true];refine δ (g7 ?_);refine δ (bI Z rfl (x:=.ref ot) rfl ?_);refine δ (dn Z (by simp) fun w1 Z1 b1=>?_)
 replace Z1:kY w1 zz ti ot .ellipsis:=Z1
 refine δ ?_
 (simp only[List.zipIdx_nil,List.zipIdx_cons,List.forIn_nil,qz])
 have k1_:∀b o,b≠zz->s.heap.get? b=some o->w1.get? b=some o:=fun b o h e=>b1.extBut b o h e;refine δ (δ (nS ?_));show ξ _ _ (cF (.ref j1) >>= _) _ _ _;cases hx:xs[m]? with
 |none=>
  refine δ (AQ hh (g1.of fun o e=>k1_ _ o D.i1z e) (s1.of fun o e=>k1_ _ o D.l1z e) hx fun w2 e b2 hs=>?_);obtain⟨oe,e1,e2⟩:=hs;have Z2:kY w2 zz ti ot .ellipsis:=b2 _ _ D.i1z.symm Z1;have ez:e≠zz:=fun x=>by
   subst x;rw[Z2] at e1;cases e1;simp at e2
  exact dn Z2 (by simp) fun w3 _ b3=>q w3 e (fun b o c1 _ c3 _ x=>b3.extBut _ _ c1 (b2 _ _ c3 (k1_ b o c1 x))) ⟨oe,b3.extBut _ _ ez e1,e2⟩
 |some u=>
  have hy:ys[n]?=none:=by
   rcases he with h|h
   ·rw[hx] at h;cases h
   ·exact h
  refine δ (nextK (g1.of fun o e=>k1_ _ o D.i1z e) (s1.of fun o e=>k1_ _ o D.l1z e) hx fun w2 J1 b2=>μ ?_);have k2_:∀b o,b≠zz->b≠j1->s.heap.get? b=some o->w2.get? b=some o:=fun b o h h2 e=>b2.extBut b o h2 (k1_ b o h e);have To2:gR w2 ot c d:=k2_ _ _ D.TOz D.TOi1 To;refine δ (bY To2 rfl ?_);refine δ (md To2 fun w3 To3 b3=>?_);have k3_:∀b o,b≠zz->b≠j1->b≠ot->s.heap.get? b=some o->w3.get? b=some o:=fun b o h h2 h3 e=>b3.extBut b o h3 (k2_ b o h h2 e);refine δ (eQ (μ ?_));refine δ (δ (nS ?_));show ξ _ _ (cF (.ref j2) >>= _) _ _ _;refine δ (AQ hh (g2.of fun o e=>k3_ _ o D.i2z D.i12.symm D.TOi2.symm e) (s2.of fun o e=>k3_ _ o D.l2z D.l2i1 D.l2TO e) hy fun w4 e b4 hs=>?_);obtain⟨oe,e1,e2⟩:=hs;have Z4:kY w4 zz ti ot .ellipsis:=b4 _ _ D.i2z.symm (b3.extBut _ _ D.TOz.symm (b2.extBut _ _ D.i1z.symm Z1));have ez:e≠zz:=fun x=>by
   subst x;rw[Z4] at e1;cases e1;simp at e2
  exact dn Z4 (by simp) fun w5 _ b5=>q w5 e (fun b o c1 c2 c3 c4 x=>b5.extBut _ _ c1 (b4 _ _ c4 (k3_ b o c1 c3 c2 x))) ⟨oe,b5.extBut _ _ ez e1,e2⟩
end
end L3
namespace L3
open PySem PySem.Spec PyProof.Rows L2
open Sem (wp)
section
variable {X:Cx} {pins:List (ζ×aP)} {σ:L2.St} {H:Hp} {s:η}
theorem uH{h':Ψ}{t':Nat}{fp:List ζ}(I:L2.Inv X pins σ H s)(k:∀b o,b∉fp->s.heap.get? b=some o->h'.get? b=some o)(hf:∀b∈fp,j3 X pins H b):L2.Inv X pins σ H { s with heap:=h',toks:=t' }:=by
 have nit:∀b u,H b=some u->b∉fp:=fun b u e z=>by rw[(hf b z).1] at e;cases e
 refine I.step (g':=s.gens) (d':=s.drawn) (ch:=fp) (fun b hb=>?_) (fun b o _ _ hc e _=>k b o hc e) (fun b o _ _ hc e _=>⟨o.slots,k b o hc e⟩) (fun _ _ _ _ n=>n) (fun b o hc e=>⟨o,k b o hc e⟩) (fun _ _ e=>e) (fun _ _ _ e=>e) (fun b ps e=>⟨#[],by rw[e];simp⟩) (fun m hm=>?_) (fun b u e=>?_) I.bare
 ·obtain⟨f0,f1,f2,f3,f4,f5⟩:=hf b hb;exact⟨f3,f1,f4,f5⟩
 ·obtain⟨o,es,ep,ho,r⟩:=hm;exact⟨o,es,ep,k _ o (fun z=>(hf _ z).2.1 rfl) ho,r⟩
 ·refine (I.bF b u e).lg (fun c v hc q=>k c v ?_ q) (fun _ q=>q) fun _ _ q=>q;rcases hc with z|z
  ·rw[z];exact nit b u e
  ·exact nit c _ z
def iP(K:θ)(k:Bool)(H:Hp)(a:ζ)(xs:List V):Prop:=match k with
 |true=>fM K H a xs
 |false=>cC K H a xs
theorem iP.heap{k:Bool}{a:ζ}{xs:List V}(I:L2.Inv X pins σ H s)(h:iP X.K k H a xs):∃its,bp xs its/\Sk k s.heap a its.toArray:=by
 cases k with
 |true=>
  obtain⟨its,rv,p,hz⟩:=I.list (show fM X.K H a xs from h);exact⟨its,rv,p.isList⟩
 |false=>
  obtain⟨its,rv,p,hz⟩:=I.tuple (show cC X.K H a xs from h);exact⟨its,rv,p⟩
theorem iP.inj{k:Bool}{a:ζ}{xs ys:List V}(I:L2.Inv X pins σ H s)(h:iP X.K k H a xs)(h':iP X.K k H a ys):xs=ys:=by
 cases k with
 |true=>exact I.zo (show fM X.K H a xs from h) (show fM X.K H a ys from h')
 |false=>exact I.tP (show cC X.K H a xs from h) (show cC X.K H a ys from h')
theorem iP.apart{k:Bool}{a b:ζ}{xs:List V}(I:L2.Inv X pins σ H s)(h:iP X.K k H a xs)(f:j3 X pins H b):a≠b:=by
 intro z;subst z;have hb:(∃u,H a=some u)∨∃o,X.K.lookup a=some o:=by
  cases k <;>
  ·rcases h with (h|⟨o,h⟩)|⟨o,_,_,h,_⟩
   ·exact .inl ⟨_,h⟩
   ·exact .inl ⟨_,h⟩
   ·exact .inr ⟨_,h⟩
 rcases hb with⟨u,e⟩|⟨o,e⟩
 ·rw[f.1] at e;cases e
 ·have e2:=I.mod.pH a o e;rcases f.2.2.2.1 with q|q
  ·exact I.ok.vV a o e2 q
  ·exact absurd (aX (Ξ (I.ok.bs a o e2).1) q) (bU _)
end
def NY(K:θ)(k1 k2:Bool)(a1 a2:ζ):It:=
 ⟨fun i H=>∃xs ys x y,(iP K k1 H a1 xs/\xs[i]?=some x)/\iP K k2 H a2 ys/\ys[i]?=some y,
  fun i H x H'=>∃T u v,x=.ref T/\H T=none/\H'=upd H T (.tup [u,v])/\(∀xs,iP K k1 H a1 xs->xs[i]?=some u)/\∀ys,iP K k2 H a2 ys->ys[i]?=some v,
  fun i H=>∃xs ys,iP K k1 H a1 xs/\iP K k2 H a2 ys/\(xs.length≤i∨ys.length≤i)⟩
theorem NO{zz ti ot j1 j2 a1 a2:ζ}(h:[zz,ti,ot,j1,j2].Nodup)(h1:∀b∈[zz,ti,ot,j1,j2],a1≠b)(h2:∀b∈[zz,ti,ot,j1,j2],a2≠b):ZipApart zz ti ot j1 j2 a1 a2:=by
 simp only[dm,Δ,not_or,aR,not_false_eq_true,mW,and_true] at h;obtain⟨⟨n1,n2,n3,n4⟩,⟨n5,n6,n7⟩,⟨n8,n9⟩,n10⟩:=h;exact⟨di n1,di n2,di n3,di n4,n5,n6,n7,n8,n9,n10,h1 _ (by simp),h1 _ (by simp),h1 _ (by simp),h1 _ (by simp),h2 _ (by simp),h2 _ (by simp),h2 _ (by simp),h2 _ (by simp)⟩
theorem SI{P:Ω}{w:ah}{K:θ}{es:List ρ}{n0:Nat}{ps:aO}(k1 k2:Bool)(a1 a2 zz ti ot j1 j2:ζ)(hd:[zz,ti,ot,j1,j2].Nodup):
  Turn P w K (.Tuple es n0 ps) (NY K k1 k2 a1 a2) [zz,ti,ot,j1,j2] zz (fun i h=>kY h zz ti ot .none/\gR h ti (.ref j1) (.ref j2)/\(∃c d,gR h ot c d)/\Ik k1 h j1 a1 i/\Ik k2 h j2 a2 i) where
 mem:=by simp
 obj:=fun i h st b hb=>by
  obtain⟨Z,Ti,⟨c,d,To⟩,g1,g2⟩:=st;simp only[Δ,aR,or_false] at hb;rcases hb with rfl|rfl|rfl|rfl|rfl
  ·exact⟨_,Z,fun v z=>by cases (show rk _=nJ v from z)⟩
  ·exact⟨_,Ti,fun v z=>by cases (show Data.seq _ _=nJ v from z)⟩
  ·exact⟨_,To,fun v z=>by cases (show Data.seq _ _=nJ v from z)⟩
  ·exact g1.obj
  ·exact g2.obj
 keep:=fun i h h' st k=>by
  obtain⟨Z,Ti,⟨c,d,To⟩,g1,g2⟩:=st;exact⟨k _ (by simp) _ Z,k _ (by simp) _ Ti,⟨c,d,k _ (by simp) _ To⟩,g1.of fun o e=>k _ (by simp) _ e,g2.of fun o e=>k _ (by simp) _ e⟩
 item:=by
  intro X hP hw hK hc i pins s σ H E I hf st hg;subst hP hw hK;obtain⟨Z,Ti,⟨c,d,To⟩,g1,g2⟩:=st;obtain⟨xs,ys,x,y,⟨q1,hx⟩,q2,hy⟩:=hg;obtain⟨its1,rv1,p1⟩:=q1.heap I;obtain⟨its2,rv2,p2⟩:=q2.heap I;obtain⟨u,hu,ru⟩:=rv1.get hx;obtain⟨v,hv,rv⟩:=rv2.get hy;have D:=NO hd (fun b hb=>q1.apart I (hf b hb)) (fun b hb=>q2.apart I (hf b hb));have hT:s.TypeIs (.ref zz) "zip":=⟨_,Z,rfl⟩;unfold pyNext;refine δ (gv (bS (name:=ee "__next__") hT F.slot_zip_next (cA F.slot_zip_next hT F.entry_zip_next (N3 D Z Ti To g1 g2 p1 p2 (u:=u) (v:=v) (by simpa using hu) (by simpa using hv) fun h' Z' To' g1' g2' T' kp=>?_) (F.args_zip_next_1 _))));refine μ ⟨_,rfl,?_⟩;refine wpAny_letOwnedTupleGo_zip Z' fun h2 Z2 b2=>?_;have hn:H s.heap.objs.size=none:=I.bF.fresh (Θ _);have I1:L2.Inv X pins σ (upd H s.heap.objs.size (.tup [x,y])) { s with heap:=s.heap.push { cls:=.type "tuple",data:=.seq #[u,v]}}:=I.laid (t':=s.toks) (fun b o e=>ι _ e) (Θ _) ⟨by show 2≤au;decide,[u,v],.cons ru (.cons rv .nil),⟨_,af _ rfl,rfl,⟨_,rfl⟩,rfl⟩⟩;have lt:∀b∈[zz,ti,ot,j1,j2],b<s.heap.objs.size:=fun b hb=>by
   simp only[Δ,aR,or_false] at hb;rcases hb with rfl|rfl|rfl|rfl|rfl
   ·exact Ξ Z
   ·exact Ξ Ti
   ·exact Ξ To
   ·obtain⟨o,e,_⟩:=g1.obj;exact Ξ e
   ·obtain⟨o,e,_⟩:=g2.obj;exact Ξ e
  have hf':∀b∈[zz,ti,ot,j1,j2],j3 X pins (upd H s.heap.objs.size (.tup [x,y])) b:=fun b hb=>⟨by rw[dz (aW (lt b hb))];exact (hf b hb).1,(hf b hb).2⟩;have I2:L2.Inv X pins σ (upd H s.heap.objs.size (.tup [x,y])) { s with heap:=h2 }:=uH (s:={ s with heap:=s.heap.push { cls:=.type "tuple",data:=.seq #[u,v]}}) (t':=s.toks) I1 (fun b o hb e=>by
   simp only[Δ,aR,or_false,not_or] at hb;refine b2.extBut b o hb.1 ?_;rcases sQ e with⟨rfl,rfl⟩|e
   ·exact T'
   ·exact kp b o hb.1 hb.2.2.1 hb.2.2.2.1 hb.2.2.2.2 e) hf'
  refine⟨.ref s.heap.objs.size,_,I2,rfl,⟨_,x,y,rfl,hn,rfl,fun zs hz=>by rw[hz.inj I q1];exact hx,fun zs hz=>by rw[hz.inj I q2];exact hy⟩,⟨Z2,?_,⟨u,v,?_⟩,g1'.of fun o e=>b2.extBut _ _ D.i1z e,g2'.of fun o e=>b2.extBut _ _ D.i2z e⟩,fun b hb=>(hf' b hb).1⟩
  ·exact b2.extBut _ _ D.TIz (kp _ _ D.TIz D.TITO D.TIi1 D.TIi2 Ti)
  ·exact b2.extBut _ _ D.TOz To'
 done:=by
  intro X hP hw hK hc i pins s σ H E I hf st hg;subst hP hw hK;obtain⟨Z,Ti,⟨c,d,To⟩,g1,g2⟩:=st;obtain⟨xs,ys,q1,q2,hl⟩:=hg;obtain⟨its1,rv1,p1⟩:=q1.heap I;obtain⟨its2,rv2,p2⟩:=q2.heap I;have D:=NO hd (fun b hb=>q1.apart I (hf b hb)) (fun b hb=>q2.apart I (hf b hb));have hT:s.TypeIs (.ref zz) "zip":=⟨_,Z,rfl⟩;have l1:=rv1.length;have l2:=rv2.length;unfold pyNext;refine δ (gv (bS (name:=ee "__next__") hT F.slot_zip_next (cA F.slot_zip_next hT F.entry_zip_next (SJ (I.ok.hd hc) D Z Ti To g1 g2 p1 p2 (by
   rcases hl with h|h
   ·exact .inl (by simp;omega)
   ·exact .inr (by simp;omega)) fun h' e kp hs=>?_) (F.args_zip_next_1 _))))
  obtain⟨o,ho,hcl⟩:=hs;refine δ (i4 (T:="StopIteration") (b:=true) ⟨o,ho,hcl⟩ mT ?_);refine μ ⟨rfl,uH (t':=s.toks) I (fun b o hb e=>?_) hf⟩;simp only[Δ,aR,or_false,not_or] at hb;exact kp b o hb.1 hb.2.2.1 hb.2.2.2.1 hb.2.2.2.2 e
 self:=fun _ _ _ _ _ st h=>wpAny_pyIter_zip st.1 h
def zY(k:Bool)(a:ζ):aP:=match k with
 |true=>{ cls:=.type "list_iterator",data:=.fields #[.ref a,.int 0 0]}
 |false=>{ cls:=.type "tuple_iterator",data:=.fields #[.ref a,.int 0 0]}
def CH(k1:Bool)(h:Ψ)(a1:ζ):Ψ:=h.push (zY k1 a1)
def CG(k1 k2:Bool)(h:Ψ)(a1 a2:ζ):Ψ:=(CH k1 h a1).push (zY k2 a2)
def CF(k1 k2:Bool)(h:Ψ)(a1 a2:ζ):Ψ:=(CG k1 k2 h a1 a2).push { cls:=.type "tuple",data:=.seq #[.ref h.objs.size,.ref (CH k1 h a1).objs.size]}
def zO(k1 k2:Bool)(h:Ψ)(a1 a2:ζ):Ψ:=(CF k1 k2 h a1 a2).push { cls:=.type "tuple",data:=.seq #[.none,.none]}
def lI(k1 k2:Bool)(h:Ψ)(a1 a2:ζ):Ψ:=(zO k1 k2 h a1 a2).push { cls:=.type "zip",data:=.fields #[.none,.bool false,.bool false,.ref (CG k1 k2 h a1 a2).objs.size,.ref (CF k1 k2 h a1 a2).objs.size]}
theorem NR{k:Bool}{h:Ψ}{jt a:ζ}(e:h.get? jt=some (zY k a)):Ik k h jt a 0:=by
 cases k<;>exact⟨_,e,rfl,rfl⟩
theorem Kw{k:Bool}{a:ζ}:(zY k a).isFreed=false:=by cases k<;>rfl
theorem SH(k1 k2:Bool)(a1 a2:ζ)(xs ys:Array ε):Meets (cS.«zip.__new__» ⟨[.type "zip",.ref a1,.ref a2],[]⟩) (fun _ R s=>Sk k1 s.heap a1 xs/\Sk k2 s.heap a2 ys ∧
   R (.ok (.ret (.ref (zO k1 k2 s.heap a1 a2).objs.size))) { s with heap:=lI k1 k2 s.heap a1 a2 }):=
 .of_wp fun prog w A R s h=>by
  obtain⟨hp,g,d,tk,os⟩:=s;obtain⟨h1,h2,h⟩:=h;have hsub:=sub_zip;cases k1<;>cases k2
  ·have q1:mw (gH ⟨hp,g,d,tk,os⟩) a1 xs:=h1;have q2:mw (gH ⟨hp.push { cls:=.type "tuple_iterator",data:=.fields #[.ref a1,.int 0 0]},g,d,tk,os⟩) a2 ys:=u7 h2 _;wp_walk using dq q1,dq q2;exact⟨_,rfl,h⟩
  ·have q1:mw (gH ⟨hp,g,d,tk,os⟩) a1 xs:=h1;have q2:rj (gH ⟨hp.push { cls:=.type "tuple_iterator",data:=.fields #[.ref a1,.int 0 0]},g,d,tk,os⟩) a2 ys:=wd h2 _;wp_walk using dq q1,fy q2;exact⟨_,rfl,h⟩
  ·have q1:rj (gH ⟨hp,g,d,tk,os⟩) a1 xs:=h1;have q2:mw (gH ⟨hp.push { cls:=.type "list_iterator",data:=.fields #[.ref a1,.int 0 0]},g,d,tk,os⟩) a2 ys:=u7 h2 _;wp_walk using fy q1,dq q2;exact⟨_,rfl,h⟩
  ·have q1:rj (gH ⟨hp,g,d,tk,os⟩) a1 xs:=h1;have q2:rj (gH ⟨hp.push { cls:=.type "list_iterator",data:=.fields #[.ref a1,.int 0 0]},g,d,tk,os⟩) a2 ys:=wd h2 _;wp_walk using fy q1,fy q2;exact⟨_,rfl,h⟩
theorem Kv{k1 k2:Bool}{h:Ψ}{a1 a2:ζ}:kY (lI k1 k2 h a1 a2) (h.objs.size+4) (h.objs.size+2) (h.objs.size+3) .none/\gR (lI k1 k2 h a1 a2) (h.objs.size+2) (.ref h.objs.size) (.ref (h.objs.size+1))/\gR (lI k1 k2 h a1 a2) (h.objs.size+3) .none .none ∧
  Ik k1 (lI k1 k2 h a1 a2) h.objs.size a1 0/\Ik k2 (lI k1 k2 h a1 a2) (h.objs.size+1) a2 0/\(zO k1 k2 h a1 a2).objs.size=h.objs.size+4/\∀c o,h.get? c=some o->(lI k1 k2 h a1 a2).get? c=some o:=by
 have e1:(CH k1 h a1).objs.size=h.objs.size+1:=dF ..;have e2:(CG k1 k2 h a1 a2).objs.size=h.objs.size+2:=(dF ..).trans (by rw[e1]);have e3:(CF k1 k2 h a1 a2).objs.size=h.objs.size+3:=(dF ..).trans (by rw[e2]);have e4:(zO k1 k2 h a1 a2).objs.size=h.objs.size+4:=(dF ..).trans (by rw[e3]);have u5:∀c o,(zO k1 k2 h a1 a2).get? c=some o->(lI k1 k2 h a1 a2).get? c=some o:=fun c o e=>ι _ e;have u4:∀c o,(CF k1 k2 h a1 a2).get? c=some o->(lI k1 k2 h a1 a2).get? c=some o:=fun c o e=>u5 c o (ι _ e);have u3:∀c o,(CG k1 k2 h a1 a2).get? c=some o->(lI k1 k2 h a1 a2).get? c=some o:=fun c o e=>u4 c o (ι _ e);have u2:∀c o,(CH k1 h a1).get? c=some o->(lI k1 k2 h a1 a2).get? c=some o:=fun c o e=>u3 c o (ι _ e);have u1:∀c o,h.get? c=some o->(lI k1 k2 h a1 a2).get? c=some o:=fun c o e=>u2 c o (ι _ e);have g5:(lI k1 k2 h a1 a2).get? (zO k1 k2 h a1 a2).objs.size=some _:=af _ rfl;have g4:(lI k1 k2 h a1 a2).get? (CF k1 k2 h a1 a2).objs.size=some _:=u5 _ _ (af _ rfl);have g3:(lI k1 k2 h a1 a2).get? (CG k1 k2 h a1 a2).objs.size=some _:=u4 _ _ (af _ rfl);have g2:(lI k1 k2 h a1 a2).get? (CH k1 h a1).objs.size=some (zY k2 a2):=u3 _ _ (af _ Kw);have g1:(lI k1 k2 h a1 a2).get? h.objs.size=some (zY k1 a1):=u2 _ _ (af _ Kw);rw[e2,e3,e4] at g5;rw[e1,e2] at g3;rw[e3] at g4;rw[e1] at g2;exact⟨g5,g3,g4,NR g1,NR g2,e4,u1⟩
theorem SG{P:Ω}{w:ah}{A:aE}{E:ε->η->Prop}{s:η}{k1 k2:Bool}{a1 a2:ζ}{xs ys:Array ε}{Q:ε->η->Prop}(h1:Sk k1 s.heap a1 xs)(h2:Sk k2 s.heap a2 ys)
  (q:Q (.ref (s.heap.objs.size+4)) { s with heap:=lI k1 k2 s.heap a1 a2 }):ξ (model P w) A (call (.type "zip") [.ref a1,.ref a2]) Q E s:=by
 refine callType_new F.called_zip (by decide) (F.typeCall_zip_2 _ _) (F.newCall_zip_2 _ _) (fun obj=>F.args_object_init_3 obj _ _) F.entry_zip_new (SH k1 k2 a1 a2 xs ys) ⟨h1,h2,?_⟩;obtain⟨z1,_,_,_,_,z2,_⟩:=Kv (k1:=k1) (k2:=k2) (h:=s.heap) (a1:=a1) (a2:=a2);show _/\_;rw[z2];exact⟨⟨_,z1,rfl⟩,q⟩
section
variable {X:Cx} {es:List ρ} {n0:Nat} {ps p pos:aO}
def aao(K:θ)(ta:TA):TI:=fun σ H R=>ta σ H fun vs H1=>∃k1 k2 a1 a2,vs=[.ref a1,.ref a2]/\(∃xs,iP K k1 H1 a1 xs)/\(∃ys,iP K k2 H1 a2 ys)/\R (NY K k1 k2 a1 a2) H1
theorem SE{a b:ρ}{ta:TA}(hg:Gl X "zip")(hm:X.mg "zip" = none)(ha:PA X [a,b] ta)(hs:bM [a,b] X.env=[(false,eval a X.env),(false,eval b X.env)]:=by rfl)(hs2:bM [b] X.env=[(false,eval b X.env)]:=by rfl):
  PI X (.Tuple es n0 ps) (.Call (.Name "zip" p) [a,b] [] pos) (aao X.K ta):=by
 intro pins s σ H R I h;refine Call_ (se I hg hm boot_zip (eL (bJ (ha pos pins s σ H _ I h) fun us s1 ⟨vs,H1,I1,r1,q1⟩=>?_) (by rw[hs,hs2]) (by rw[hs2];rfl)));obtain⟨k1,k2,a1,a2,e,⟨xs,q1⟩,⟨ys,q2⟩,q⟩:=q1;subst e;cases r1 with
 |cons r rr=>
  cases rr with
  |cons r' rr=>
   cases rr;cases r;cases r';obtain⟨its1,rv1,p1⟩:=q1.heap I1;obtain⟨its2,rv2,p2⟩:=q2.heap I1;refine SG p1 p2 ?_;obtain⟨z1,z2,z3,z4,z5,z6,z7⟩:=Kv (k1:=k1) (k2:=k2) (h:=s1.heap) (a1:=a1) (a2:=a2);refine wpAny_pyIter_zip (s:={ s1 with heap:=lI k1 k2 s1.heap a1 a2 }) z1 ?_
   refine⟨s1.heap.objs.size+4,[s1.heap.objs.size+4,s1.heap.objs.size+2,s1.heap.objs.size+3,s1.heap.objs.size,s1.heap.objs.size+1],_,_,H1,rfl,I1.kept (t':=s1.toks) z7,SI k1 k2 a1 a2 _ _ _ _ _ (by simp),⟨z1,z2,⟨_,_,z3⟩,z4,z5⟩,fun b hb=>?_,q⟩;have hb:s1.heap.objs.size≤b:=by
    simp only[Δ,aR,or_false] at hb;rcases hb with rfl|rfl|rfl|rfl|rfl
    ·exact gP _ _
    ·exact gP _ _
    ·exact gP _ _
    ·exact Θ _
    ·exact gP _ _
   exact I1.qR hb (I1.bF.fresh hb)
def tT(G:Gp):D->List D->Prop
 |.obj p,ds=>G p=some (.lst ds)
 |.tup es,ds=>ds=es
 |.dW es,ds=>ds=es
 |_,_=>False
def qB(xs ys:List D):List D:=List.zipWith (fun x y=>.tup [x,y]) xs ys
def Bz(ta:cM):nA:=fun τ G R=>ta τ G fun ds G1=>match ds with
 |[x,y]=>∃xs ys,tT G1 x xs/\tT G1 y ys/\R ⟨qB xs ys,fun G=>tT G x xs/\tT G y ys⟩ G1
 |_=>False
theorem E9{K:θ}{H:Hp}{x:D}{v:V}(hv:Hv K H x v):∃k,∀H' G' xs,Ext H H'->aJ K G' H'->tT G' x xs->∃a vs,v=.ref a/\iP K k H' a vs/\aF K H' xs vs:=by
 cases x with
 |obj p=>
  unfold Hv at hv;subst hv;refine⟨true,fun H' G' xs E RG h=>?_⟩;obtain⟨vs,e2,e3⟩:=RG p _ h;exact⟨p,vs,rfl,fM.of e2,e3⟩
 |tup es=>
  unfold Hv at hv;obtain⟨a,vs,rfl,e2,e3⟩:=hv;refine⟨false,fun H' G' xs E RG h=>?_⟩;cases (show xs=es from h);exact⟨a,vs,rfl,cC.ext E e2,e3.ext E⟩
 |dW es=>
  unfold Hv at hv;obtain⟨a,vs,rfl,e2,e3⟩:=hv;refine⟨true,fun H' G' xs E RG h=>?_⟩;cases (show xs=es from h);exact⟨a,vs,rfl,(lD.ext E e2).l,e3.ext E⟩
 |aC=>exact⟨true,fun _ _ _ _ _ h=>h.elim⟩
 |bl _=>exact⟨true,fun _ _ _ _ _ h=>h.elim⟩
 |int _=>exact⟨true,fun _ _ _ _ _ h=>h.elim⟩
 |str _=>exact⟨true,fun _ _ _ _ _ h=>h.elim⟩
 |dc _=>exact⟨true,fun _ _ _ _ _ h=>h.elim⟩
theorem Ld{xs ys:List D}{i:Nat}{d:D}(h:(qB xs ys)[i]?=some d):∃x y,xs[i]?=some x/\ys[i]?=some y/\d=.tup [x,y]:=by
 unfold qB at h;rw[List.getElem?_zipWith] at h;cases hx:xs[i]? with
 |none=>rw[hx] at h;cases h
 |some x=>
  cases hy:ys[i]? with
  |none=>rw[hx,hy] at h;cases h
  |some y=>
   rw[hx,hy] at h;cases h;exact⟨x,y,rfl,rfl,rfl⟩
theorem SD{a b:ρ}{ta:cM}(hm:X.mg "zip" = none)(ha:jc X [a,b] ta)(hg:Gl X "zip":=by rfl)(hs:notStar a=true:=by rfl)(hs2:notStar b=true:=by rfl):
  wK X (.Tuple es n0 ps) (.Call (.Name "zip" p) [a,b] [] pos) (Bz ta):=
 A7 (SE hg hm ha (by rw[eB hs,eB hs2];rfl) (eB hs2)) fun σ H R ⟨τ,G,R3,RS,RG,h,k⟩=>⟨τ,G,_,RS,RG,h,fun vs H1 ds G1 h1 S1 R1 q1=>by
  rcases ds with _|⟨d,_|⟨d2,_|⟨d3,ds⟩⟩⟩
  ·exact q1.elim
  ·exact q1.elim
  ·obtain⟨xs,ys,s1,s2,q⟩:=q1;obtain⟨v,r,rfl,z1,z2⟩:=h1.inv;obtain⟨v',r',rfl,z3,z4⟩:=z2.inv;cases z4.hZ;obtain⟨k1,f1⟩:=E9 z1;obtain⟨k2,f2⟩:=E9 z3;obtain⟨a1,vs1,rfl,y1,w1⟩:=f1 _ _ _ (Ext.refl _) R1 s1;obtain⟨a2,vs2,rfl,y2,w2⟩:=f2 _ _ _ (Ext.refl _) R1 s2;refine⟨k1,k2,a1,a2,rfl,⟨_,y1⟩,⟨_,y2⟩,k _ _ _ _ ⟨?_,?_⟩ S1 R1 q⟩
   ·intro i d H' G' E' RG' hg hi;obtain⟨x,y,e1,e2,rfl⟩:=Ld hi;obtain⟨b1,us1,c1,m1,n1⟩:=f1 _ _ _ E' RG' hg.1;obtain⟨b2,us2,c2,m2,n2⟩:=f2 _ _ _ E' RG' hg.2;cases c1;cases c2;obtain⟨u1,o1,o2⟩:=n1.get e1;obtain⟨u2,o3,o4⟩:=n2.get e2;refine⟨⟨_,_,_,_,⟨m1,o1⟩,m2,o3⟩,fun x' H'' hy=>?_⟩;obtain⟨T,u,v,rfl,hn,rfl,t1,t2⟩:=hy;have:=t1 _ m1;rw[o1] at this;cases this;have:=t2 _ m2;rw[o3] at this;cases this;refine⟨?_,.laid hn,RG'.laid hn⟩;unfold Hv;exact⟨T,_,rfl,.of iO,.cons (o2.ext (.laid hn)) (.cons (o4.ext (.laid hn)) .nil)⟩
   ·intro i H' G' E' RG' hg hi;obtain⟨b1,us1,c1,m1,n1⟩:=f1 _ _ _ E' RG' hg.1;obtain⟨b2,us2,c2,m2,n2⟩:=f2 _ _ _ E' RG' hg.2;cases c1;cases c2;refine⟨_,_,m1,m2,?_⟩;have hi:(qB xs ys).length≤i:=hi;unfold qB at hi;rw[tI] at hi;rw[←n1.length,←n2.length];omega
  ·exact q1.elim⟩
end
end L3
namespace L3
open PySem PySem.Spec PyProof.Rows L2
open Sem (wp)
theorem MF{P:Ω}{w:ah}{A:aE}{k:Bool}(hh:A.handled=none)(it a:ζ)(bZ:a≠it)(xs:Array ε):
  Draws P w A it [it,a] xs.size (fun i v=>xs[i]?=some v) (fun i h=>Ik k h it a i/\Sk k h a xs) where
 live:=fun _ _ st=>let ⟨o,ho,_⟩:=st.1.obj;⟨o,ho⟩
 frame:=fun _ _ _ st hk=>⟨st.1.of fun o e=>hk it (by simp) o e,st.2.of fun o e=>hk a (by simp) o e⟩
 item:=fun i s Q E hi st hQ=>by
  refine nextK st.1 st.2 (u:=xs[i]) (by simp[hi]) fun h' hit' hs'=>?_;exact hQ _ h' s.toks (by simp[hi]) ⟨hit',st.2.of fun o e=>hs'.extBut a o bZ e⟩ hs'
 done:=fun s Q E st hE=>AQ hh st.1 st.2 (by simp) hE
section
variable {P:Ω} {w:ah} {A:aE} {E:ε->η->Prop} {s:η}
theorem SA{k:Bool}{e it a:ζ}{i:Int}{j:Nat}{xs:Array ε}{old:ε}{Q:Option ε->η->Prop}(hh:A.handled=none)(he:IsEnum s.heap e it i old)(hi:Ik k s.heap it a j)(ha:Sk k s.heap a xs)(hx:xs[j]?=none)
  (hQ:∀h',kU it s.heap h'->Q none { s with heap:=h' }):ξ (model P w) A (pyNext (.ref e)) Q E s:=by
 have hT:s.TypeIs (.ref e) "enumerate":=⟨_,he,rfl⟩;unfold pyNext;refine δ (gv (bS (name:=ee "__next__") hT F.slot_enumerate_next
  (cA F.slot_enumerate_next hT F.entry_enumerate_next ?_ (F.args_enumerate_next_1 _))))
 show ξ _ _ (field (.ref e) 2 >>= _) _ _ _;refine δ (bI he rfl (x:=.ref it) rfl ?_);refine δ (AQ (by simpa using hh) hi ha hx fun h' x he' hx'=>?_);obtain⟨o,ho,hc⟩:=hx';refine δ (i4 (T:="StopIteration") (b:=true) ⟨o,ho,hc⟩ mT ?_);exact μ (hQ _ he')
open AutoSeq1 (wpAny_loadPart') in
theorem Sz(l:ζ)(items:Array ε)(n:Nat)(fE:Option ζ)(sl:Array (Option ε)):
  Meets (cS.«enumerate.__new__» ⟨[.type "enumerate",.ref l],[]⟩) (fun _ R s=>s.heap.get? l=some { cls:=.type "tuple",dict:=fE,data:=.seq items n,slots:=sl } ∧
   R (.ok (.ret (.ref (s.heap.push { cls:=.type "tuple_iterator",data:=.fields #[.ref l,.int 0 0]}).objs.size)))
    { s with heap:=(s.heap.push { cls:=.type "tuple_iterator",data:=.fields #[.ref l,.int 0 0]}).push { cls:=.type "enumerate",data:=.fields #[.none,.bool false,.ref s.heap.objs.size,rawInt 0,.none,.none]}}):=
 .of_wp fun prog w A R s h=>by
  obtain⟨hp,g,d,tk,os⟩:=s;obtain⟨hl,h⟩:=h;have hsub:=sub_enumerate;have hL:mw (gH ⟨hp,g,d,tk,os⟩) l items:=⟨_,hl,rfl,n,rfl⟩;wp_walk using wpAny_loadPart' hl;refine wpAny_stack_any fun st=>μ ?_;split
  ·rename_i c _ _ _ _ _;cases (c==oR "enumerate")
   ·wp_walk using wpAny_loadPart' hl,dq hL;exact⟨_,rfl,h⟩
   ·wp_walk using wpAny_loadPart' hl,dq hL;exact⟨_,rfl,h⟩
  ·wp_walk using wpAny_loadPart' hl,dq hL;exact⟨_,rfl,h⟩
theorem Tq{l:ζ}{items:Array ε}{Q:ε->η->Prop}(hL:s.heap.IsTuple l items)
  (h:∀h',IsEnum h' (s.heap.objs.size+1) s.heap.objs.size 0 .none->h'.IsTupleIter s.heap.objs.size l 0->h'.objs.size=s.heap.objs.size+2 ->
   (∀b o,s.heap.get? b=some o->h'.get? b=some o)->Q (.ref (s.heap.objs.size+1)) { s with heap:=h' }):
  ξ (model P w) A (call (.type "enumerate") [.ref l]) Q E s:=by
 obtain⟨⟨c,fE,dt,sl⟩,hl,hc,n,hd⟩:=hL
 replace hc:c=.type "tuple":=hc
 replace hd:dt=.seq items n:=hd
 subst hc hd;refine callType_new F.called_enumerate (by decide) (F.typeCall_enumerate_1 _) (F.newCall_enumerate_1 _) (fun obj=>F.args_object_init_2 obj _) F.entry_enumerate_new
  (Sz l items n fE sl) ⟨hl,?_⟩
 have hz:(s.heap.push { cls:=.type "tuple_iterator",data:=.fields #[.ref l,.int 0 0]}).objs.size=s.heap.objs.size+1:=dF ..;show _/\_;rw[hz];have he:IsEnum ((s.heap.push { cls:=.type "tuple_iterator",data:=.fields #[.ref l,.int 0 0]}).push
   { cls:=.type "enumerate",data:=.fields #[.none,.bool false,.ref s.heap.objs.size,rawInt 0,.none,.none]}) (s.heap.objs.size+1) s.heap.objs.size 0 .none:=by
  have:=af (s.heap.push { cls:=.type "tuple_iterator",data:=.fields #[.ref l,.int 0 0]})
   (o:={ cls:=.type "enumerate",data:=.fields #[.none,.bool false,.ref s.heap.objs.size,rawInt 0,.none,.none]}) rfl
  rw[hz] at this;exact this
 refine⟨⟨_,he,rfl⟩,h _ he ⟨_,ι _ (af _ rfl),rfl,rfl⟩ (by rw[dF,hz]) fun b o x=>ι _ (ι _ x)⟩
theorem Tp{k:Bool}{l:ζ}{items:Array ε}{Q:ε->η->Prop}(hL:Sk k s.heap l items)
  (h:∀h',IsEnum h' (s.heap.objs.size+1) s.heap.objs.size 0 .none->Ik k h' s.heap.objs.size l 0->h'.objs.size=s.heap.objs.size+2 ->
   (∀b o,s.heap.get? b=some o->h'.get? b=some o)->Q (.ref (s.heap.objs.size+1)) { s with heap:=h' }):
  ξ (model P w) A (call (.type "enumerate") [.ref l]) Q E s:=by
 cases k with
 |true=>exact call_enumerate_list hL h
 |false=>exact Tq hL h
end
def NZ(K:θ)(k:Bool)(a:ζ):It:=
 ⟨fun i H=>∃xs x,iP K k H a xs/\xs[i]?=some x,
  fun i H x H'=>∃T u,x=.ref T/\H T=none/\H'=upd H T (.tup [.int i,u])/\∀xs,iP K k H a xs->xs[i]?=some u,
  fun i H=>∃xs,iP K k H a xs/\xs.length≤i⟩
theorem Tn{P:Ω}{w:ah}{K:θ}{es:List ρ}{n0:Nat}{ps:aO}(k:Bool)(a en jt:ζ)(bZ:en≠jt):
  Turn P w K (.Tuple es n0 ps) (NZ K k a) [en,jt] en (fun i h=>(∃old,IsEnum h en jt i old)/\Ik k h jt a i) where
 mem:=by simp
 obj:=fun i h st b hb=>by
  obtain⟨⟨old,Z⟩,g⟩:=st;simp only[Δ,aR,or_false] at hb;rcases hb with rfl|rfl
  ·exact⟨_,Z,fun v z=>by cases (show rk _=nJ v from z)⟩
  ·exact g.obj
 keep:=fun i h h' st k=>⟨let ⟨old,Z⟩:=st.1;⟨old,k _ (by simp) _ Z⟩,st.2.of fun o e=>k _ (by simp) _ e⟩
 item:=by
  intro X hP hw hK hc i pins s σ H E I hf st hg;subst hP hw hK;obtain⟨⟨old,Z⟩,g⟩:=st;obtain⟨xs,x,q1,hx⟩:=hg;obtain⟨its,rv,p⟩:=iP.heap I q1;obtain⟨u,hu,ru⟩:=rv.get hx;have hi:i<its.toArray.size:=by
   have:=(ak.mp hu).1;simpa using this
  have hja:a≠jt:=iP.apart I q1 (hf jt (by simp));have hea:a≠en:=iP.apart I q1 (hf en (by simp));refine wpAny_pyNext_enum_itemD (MF (k:=k) (by have:=I.ok.hd hc;simpa using this) jt a hja its.toArray) Z ⟨g,p⟩ hi bZ (by simp[bZ,hea.symm]) fun x2 h' tk hx2 Z' g' T' sz kp=>⟨_,rfl,?_⟩;have ex:x2=u:=by
   have:its.toArray[i]?=some u:=by simpa using hu
   rw[hx2] at this;exact aD this
  subst ex;refine wpAny_letOwnedTupleGo_enum (s:={ s with heap:=h',toks:=tk+1 }) Z' fun h2 Z2 b2=>?_;have hn:H s.heap.objs.size=none:=I.bF.fresh (Θ _);have I1:L2.Inv X pins σ (upd H s.heap.objs.size (.tup [.int i,x])) { s with heap:=s.heap.push { cls:=.type "tuple",data:=.seq #[.int i tk,x2]}}:=I.laid (t':=s.toks) (fun b o e=>ι _ e) (Θ _) ⟨by show 2≤au;decide,[.int i tk,x2],.cons ⟨_,rfl⟩ (.cons ru .nil),⟨_,af _ rfl,rfl,⟨_,rfl⟩,rfl⟩⟩;have lt:∀b∈[en,jt],b<s.heap.objs.size:=fun b hb=>by
   simp only[Δ,aR,or_false] at hb;rcases hb with rfl|rfl
   ·exact Ξ Z
   ·obtain⟨o,e,_⟩:=g.obj;exact Ξ e
  have hf':∀b∈[en,jt],j3 X pins (upd H s.heap.objs.size (.tup [.int i,x])) b:=fun b hb=>⟨by rw[dz (aW (lt b hb))];exact (hf b hb).1,(hf b hb).2⟩;have I2:L2.Inv X pins σ (upd H s.heap.objs.size (.tup [.int i,x])) { s with heap:=h2,toks:=tk+1 }:=uH (s:={ s with heap:=s.heap.push { cls:=.type "tuple",data:=.seq #[.int i tk,x2]}}) (t':=tk+1) I1 (fun b o hb e=>by
   simp only[Δ,aR,or_false,not_or] at hb;refine b2.extBut b o hb.1 ?_;rcases sQ e with⟨rfl,rfl⟩|e
   ·exact T'
   ·exact kp b o hb.1 hb.2 e) hf'
  exact⟨.ref s.heap.objs.size,_,I2,rfl,⟨_,x,rfl,hn,rfl,fun zs hz=>by rw[iP.inj I hz q1];exact hx⟩,⟨⟨_,Z2⟩,g'.1.of fun o e=>b2.extBut jt o bZ.symm e⟩,fun b hb=>(hf' b hb).1⟩
 done:=by
  intro X hP hw hK hc i pins s σ H E I hf st hg;subst hP hw hK;obtain⟨⟨old,Z⟩,g⟩:=st;obtain⟨xs,q1,hl⟩:=hg;obtain⟨its,rv,p⟩:=iP.heap I q1;have l1:=rv.length;exact SA (I.ok.hd hc) Z g p (by simp;omega) fun h' kp=>⟨rfl,uH (t':=s.toks) I (fun b o hb e=>by
   simp only[Δ,aR,or_false,not_or] at hb;exact kp b o hb.2 e) hf⟩
 self:=fun _ _ _ _ _ st h=>let ⟨⟨_,Z⟩,_⟩:=st;wpAny_pyIter_enum Z h
section
variable {X:Cx} {es:List ρ} {n0:Nat} {ps p pos:aO}
def Nu(K:θ)(ta:TA):TI:=fun σ H R=>ta σ H fun vs H1=>∃k a,vs=[.ref a]/\(∃xs,iP K k H1 a xs)/\R (NZ K k a) H1
theorem Tj{a:ρ}{ta:TA}(hg:Gl X "enumerate")(hm:X.mg "enumerate" = none)(ha:PA X [a] ta)(hs:bM [a] X.env=[(false,eval a X.env)]:=by rfl):PI X (.Tuple es n0 ps) (.Call (.Name "enumerate" p) [a] [] pos) (Nu X.K ta):=by
 intro pins s σ H R I h;refine Call_ (se I hg hm boot_enumerate (eL (bJ (ha pos pins s σ H _ I h) fun us s1 ⟨vs,H1,I1,r1,q1⟩=>?_) hs rfl));obtain⟨k,a1,e,⟨xs,q1⟩,q⟩:=q1;subst e;cases r1 with
 |cons r rr=>
  cases rr;cases r;obtain⟨its,rv,p⟩:=iP.heap I1 q1;refine Tp p fun h' z1 z2 z3 z4=>?_;refine wpAny_pyIter_enum (s:={ s1 with heap:=h' }) z1 ?_
  refine⟨s1.heap.objs.size+1,[s1.heap.objs.size+1,s1.heap.objs.size],_,_,H1,rfl,I1.kept (t':=s1.toks) z4,Tn k a1 _ _ (by simp),⟨⟨_,z1⟩,z2⟩,fun b hb=>?_,q⟩;have hb:s1.heap.objs.size≤b:=by
   simp only[Δ,aR,or_false] at hb;rcases hb with rfl|rfl
   ·exact gP _ _
   ·exact Θ _
  exact I1.qR hb (I1.bF.fresh hb)
def uJ(xs:List D):List D:=qB (iF 0 xs.length) xs
def BC(ta:cM):nA:=fun τ G R=>ta τ G fun ds G1=>match ds with
 |[x]=>∃xs,tT G1 x xs/\R ⟨uJ xs,fun G=>tT G x xs⟩ G1
 |_=>False
theorem Th{a:ρ}{ta:cM}(hm:X.mg "enumerate" = none)(ha:jc X [a] ta)(hg:Gl X "enumerate":=by rfl)(hs:notStar a=true:=by rfl):
  wK X (.Tuple es n0 ps) (.Call (.Name "enumerate" p) [a] [] pos) (BC ta):=
 A7 (Tj hg hm ha (eB hs)) fun σ H R ⟨τ,G,R3,RS,RG,h,k⟩=>⟨τ,G,_,RS,RG,h,fun vs H1 ds G1 h1 S1 R1 q1=>by
  rcases ds with _|⟨d,_|⟨d2,ds⟩⟩
  ·exact q1.elim
  ·obtain⟨xs,s1,q⟩:=q1;obtain⟨v,r,rfl,z1,z2⟩:=h1.inv;cases z2.hZ;obtain⟨kk,hsq⟩:=E9 z1;obtain⟨a1,vs1,rfl,y1,w1⟩:=hsq _ _ _ (Ext.refl _) R1 s1;refine⟨kk,a1,rfl,⟨_,y1⟩,k _ _ _ _ ⟨?_,?_⟩ S1 R1 q⟩
   ·intro i d H' G' E' RG' hg hi;obtain⟨x,y,e1,e2,rfl⟩:=Ld hi;obtain⟨b1,us1,c1,m1,n1⟩:=hsq _ _ _ E' RG' hg;cases c1;obtain⟨u1,o1,o2⟩:=n1.get e2;obtain⟨_,rfl⟩:=Lf e1;refine⟨⟨_,_,m1,o1⟩,fun x' H'' hy=>?_⟩;obtain⟨T,u,rfl,hn,rfl,t1⟩:=hy;have:=t1 _ m1;rw[o1] at this;cases this;refine⟨?_,.laid hn,RG'.laid hn⟩;unfold Hv;exact⟨T,_,rfl,.of iO,.cons (by simp[Hv]) (.cons (o2.ext (.laid hn)) .nil)⟩
   ·intro i H' G' E' RG' hg hi;obtain⟨b1,us1,c1,m1,n1⟩:=hsq _ _ _ E' RG' hg;cases c1;refine⟨_,m1,?_⟩;have hi:(uJ xs).length≤i:=hi;unfold uJ qB at hi;rw[tI,vN] at hi;rw[←n1.length];omega
  ·exact q1.elim⟩
end
end L3
namespace L2
open PySem PySem.Spec PyProof.Rows
def Cu(lo c:Int)(n:Nat):It:=⟨fun i _=>i<n,fun i H x H'=>H'=H/\x=.int (lo+i*c),fun i _=>n≤i⟩
theorem Tg{P:Ω}{w:ah}{K:θ}{tg:ρ}(it:ζ)(lo c:Int)(n:Nat):Turn P w K tg (Cu lo c n) [it] it (fun i h=>rh h it (lo+(i:Nat)*c) ((n:Int)-(i:Nat)) c) where
 mem:=by simp
 obj:=fun i h st b hb=>by
  have e:b=it:=by simpa using hb
  subst e;exact⟨_,st,fun v z=>by
   have z':rk _=nJ v:=z;cases z'⟩
 keep:=fun i h h' st k=>k it (by simp) _ st
 item:=by
  intro X hP hw hK hc i pins s σ H E I hf st hg;subst hP hw hK;obtain⟨f0,f1,f2,f3,f4,f5⟩:=hf it (by simp);have W:=Walks.range (prog:=X.prog) (w:=X.w) (I.ok.hd hc) it lo c n;refine W.item i s _ _ hg st fun v h' tk hv st' kk=>?_;obtain⟨t,rfl⟩:=hv;have I1:Inv X pins σ H { s with heap:=h',toks:=tk }:=I.turned (fun b o hb e=>kk b o (by simpa using hb) e) f0 f1 f3 f4 f5;refine⟨_,rfl,yZ (s:={ s with heap:=h',toks:=tk }) (n:="range_iterator") st' rfl rfl (by decide) ⟨.int (lo+i*c),H,I1,⟨t,rfl⟩,⟨rfl,rfl⟩,st',fun b hb=>(hf b hb).1⟩⟩
 done:=by
  intro X hP hw hK hc i pins s σ H E I hf st hg;subst hP hw hK;obtain⟨f0,f1,f2,f3,f4,f5⟩:=hf it (by simp);exact wpAny_pyNext_range_end (I.ok.hd hc) st (by have:n≤i:=hg;lia) fun h' eb=>⟨rfl,I.turned (t':=s.toks) (fun b o hb e=>eb b o hb e) f0 f1 f3 f4 f5⟩
 self:=fun _ _ _ _ _ st h=>wpAny_pyIter_rangeiter st h
def lW(i j c:Int):Nat:=if i<j then ((j-i-1) / c+1).toNat else 0
theorem Tf{i j c:Int}(hc:0<c):cQ i j c=(lW i j c:Int):=by
 unfold cQ lW;rw[if_pos hc];split
 ·rename_i h;have:0≤(j-i-1) / c:=qA (by lia) (by lia);lia
 ·rfl
theorem Te{i j c:Int}(h1:-(2^61)≤i)(h2:i<2^61)(h3:-(2^61)≤j)(h4:j<2^61)(hc:0<c)(hc2:c<2^30):mF i j c=true:=by
 have hs:cQ i j c≤2^62/\0≤cQ i j c:=by
  unfold cQ;rw[if_pos hc];split
  ·rename_i h;have e1:(j-i-1) / c≤j-i-1:=Int.ediv_le_self _ (by lia);have e2:0≤(j-i-1) / c:=qA (by lia) (by lia);lia
  ·lia
 unfold mF;generalize cQ i j c=z at hs;simp only[cS.Range.rangeFitsLong,bQ,my,decide_eq_true_eq,beq_iff_eq,hc,gt_iff_lt,if_true];have:∀p q:Int,True:=fun _ _=>trivial;refine ?_;lia
section
variable {X:Cx} {tg:ρ}
theorem Td{pins:List (ζ×aP)}{σ:St}{H:Hp}{s:η}{R:It->Hp->Prop}{E:ε->η->Prop}{lo hi c:Int}{t u v:Tok}{tk:Nat}(I:Inv X pins σ H s)(hs:mF lo hi c=true)(hc:0<c)
  (q:R (Cu lo c (lW lo hi c)) H):ξ (model X.prog X.w) X.A (pyIter (.ref s.heap.objs.size)) (GR X pins σ tg R) E { s with heap:=s.heap.push { cls:=.type "range",data:=.fields #[.int lo t,.int hi u,.int c v]},toks:=tk }:=by
 refine wpAny_pyIter_range (IsRange.new ..) hs ?_;have I1:Inv X pins σ H { s with heap:=s.heap.push { cls:=.type "range",data:=.fields #[.int lo t,.int hi u,.int c v]},toks:=tk }:=I.kept fun b o e=>ι _ e;refine⟨(s.heap.push { cls:=.type "range",data:=.fields #[.int lo t,.int hi u,.int c v]}).objs.size,[(s.heap.push { cls:=.type "range",data:=.fields #[.int lo t,.int hi u,.int c v]}).objs.size],_,_,H,rfl,
  I1.kept (t':=tk) fun b o e=>ι _ e,Tg _ lo c (lW lo hi c),?_,fun b hb=>?_,q⟩
 ·have e1:lo+((0:Nat):Int)*c=lo:=by simp
  have e2:(((lW lo hi c):Nat):Int)-((0:Nat):Int)=cQ lo hi c:=by rw[Tf hc];simp
  show rh _ _ (lo+((0:Nat):Int)*c) ((((lW lo hi c):Nat):Int)-((0:Nat):Int)) c;rw[e1,e2];exact af _ rfl
 ·have e:b=(s.heap.push { cls:=.type "range",data:=.fields #[.int lo t,.int hi u,.int c v]}).objs.size:=by simpa using hb
  subst e;exact I1.qR (Θ _) (I1.bF.fresh (Θ _))
def Mv(ta:TA):TI:=fun σ H R=>ta σ H fun vs H1=>∃i j c:Int,vs=[.int i,.int j,.int c]/\(-(2^61)≤i/\i<2^61/\-(2^61)≤j/\j<2^61/\0<c/\c<2^30)/\R (Cu i c (lW i j c)) H1
theorem Tc{a b d:ρ}{ta:TA}{p pos:aO}(hg:Gl X "range")(hm:X.mg "range" = none)(ha:PA X [a,b,d] ta)(hs:bM [a,b,d] X.env=[(false,eval a X.env),(false,eval b X.env),(false,eval d X.env)])(hs2:bM [b,d] X.env=[(false,eval b X.env),(false,eval d X.env)]):
  PI X tg (.Call (.Name "range" p) [a,b,d] [] pos) (Mv ta):=by
 intro pins s σ H R I h;refine Call_ (se I hg hm boot_range (eL (bJ (ha pos pins s σ H _ I h) fun us s1 ⟨vs,H1,I1,r1,q1⟩=>?_) (by rw[hs,hs2]) (by rw[hs2];rfl)));obtain⟨i,j,c,e,⟨q1,q2,q3,q4,q5,q6⟩,q⟩:=q1;subst e;cases r1 with
 |cons r rr=>
  cases rr with
  |cons r' rr=>
   cases rr with
   |cons r'' rr=>
    cases rr;obtain⟨t,rfl⟩:=r;obtain⟨t',rfl⟩:=r';obtain⟨t'',rfl⟩:=r'';exact call_range_3 (by lia) (Td I1 (Te q1 q2 q3 q4 q5 q6) q5 q) (.inl (PyProof.noPylong_small (by lia)))
end
section
variable {X:Cx}
theorem Sl:MK X (Dq X.K):=by
 intro pins s σ H x y v u Q I rx ry h;obtain⟨p,xs,i,z,rfl,rfl,hq,he,q⟩:=h;cases rx;obtain⟨t,rfl⟩:=ry;obtain⟨its,r,pl,hz⟩:=I.list hq;obtain⟨j,h1,h2,h3,h4,h5⟩:=Be he;obtain⟨w,ew,rw'⟩:=r.get h2;have hl:=r.length;have hn:=nz;have fin:EP X pins σ Q w s:=⟨z,H,I,rw',q⟩;by_cases h0:0≤i
 ·have hj:i.toNat=j:=by
   rw[qW h0 h5] at h1;exact aD h1
  exact wpAny_getItem_list pl.isList h0 (by lia) (by rw[hj];simpa using ew) fin
 ·have hj:(i+(its.toArray.size:Int)).toNat=j:=by
   rw[seqIndex_neg (by lia) h4] at h1;rw[Γ,←hl];exact aD h1
  exact wpAny_getItem_list_neg pl.isList (by lia) (by rw[Γ]<;>lia) (by lia) (by rw[hj];simpa using ew) fin
end
end L2
namespace L3
open PySem PySem.Spec PyProof.Rows L2
section
variable {X:Cx} {tg:ρ} {p pos:aO}
def rU(lo c:Int)(n:Nat):List D:=(ao n).map fun i:Nat=>.int (lo+(i:Int)*c)
theorem Sj{lo c:Int}{n i:Nat}{d:D}(h:(rU lo c n)[i]?=some d):i<n/\d=.int (lo+(i:Int)*c):=by
 unfold rU at h;rw[aI] at h;by_cases hi:i<n
 ·rw[gW hi] at h;simp at h;exact⟨hi,h.symm⟩
 ·rw[da.mpr (by simpa using hi)] at h;cases h
theorem Si(lo c:Int)(n:Nat):(rU lo c n).length=n:=by simp[rU]
theorem Sh{K:θ}{H:Hp}(lo c:Int)(n:Nat):yk K H (Cu lo c n) ⟨rU lo c n,fun _=>True⟩:=⟨by
 intro i d H' G' _ RG _ hi;obtain⟨h1,h2⟩:=Sj hi;refine⟨h1,fun x H'' hy=>?_⟩;obtain⟨rfl,rfl⟩:=hy;exact⟨by rw[h2];simp[Hv],.refl _ _,RG⟩,by
 intro i H' G' _ RG _ hi;rw[Si] at hi;exact hi⟩
def BB(ta:cM):nA:=fun τ G R=>ta τ G fun ds G1=>match ds with
 |[.int i,.int j,.int c]=>(-(2^61)≤i/\i<2^61/\-(2^61)≤j/\j<2^61/\0<c/\c<2^30)/\R ⟨rU i c (lW i j c),fun _=>True⟩ G1
 |_=>False
theorem Sg{a b d:ρ}{ta:cM}(hm:X.mg "range" = none)(ha:jc X [a,b,d] ta)(hg:Gl X "range":=by rfl)(hs:notStar a=true:=by rfl)(hs2:notStar b=true:=by rfl)(hs3:notStar d=true:=by rfl):
  wK X tg (.Call (.Name "range" p) [a,b,d] [] pos) (BB ta):=
 A7 (Tc hg hm ha (by rw[eB hs,eB hs2,eB hs3];rfl) (by rw[eB hs2,eB hs3];rfl)) fun σ H R ⟨τ,G,R3,RS,RG,h,k⟩=>⟨τ,G,_,RS,RG,h,fun vs H1 ds G1 h1 S1 R1 q1=>by
  rcases ds with _|⟨d,_|⟨d2,_|⟨d3,_|⟨d4,ds⟩⟩⟩⟩
  ·exact q1.elim
  ·cases d<;>exact q1.elim
  ·cases d<;>(try exact q1.elim)<;>cases d2<;>exact q1.elim
  ·cases d with
   |int i=>
    cases d2 with
    |int j=>
     cases d3 with
     |int c=>
      obtain⟨v,r,rfl,z1,z2⟩:=h1.inv;obtain⟨v2,r2,rfl,z3,z4⟩:=z2.inv;obtain⟨v3,r3,rfl,z5,z6⟩:=z4.inv;cases z6.hZ;unfold Hv at z1 z3 z5;exact⟨i,j,c,by rw[z1,z3,z5],q1.1,k _ _ _ _ (Sh i c _) S1 R1 q1.2⟩
     |_=>exact q1.elim
    |_=>cases d3<;>exact q1.elim
   |_=>cases d2<;>(try exact q1.elim)<;>cases d3<;>exact q1.elim
  ·cases d<;>(try exact q1.elim)<;>cases d2<;>(try exact q1.elim)<;>cases d3<;>exact q1.elim⟩
abbrev CU:R3:=zU fun i j=>.int (i+j)
theorem Sf{K:θ}:fR K CU (NS fun i j=>i+j):=low_ints fun _ _ _=>lL
theorem Se{o i e:ρ}{to ti te:aU}{tpos:aO}(ho:bT X o to)(hi:bT X i ti)(he:bT X e te)
  (ha:∀ov iv new,augStore i ov iv new=(do holding [new,ov,iv] (setItem ov iv new);release [new,ov,iv] [];pure .next):=by intros;rfl):
  nC X (.AugAssign (.Subscript o i tpos) .Add e pos) (Al to ti te (· + ·)):=
 mI (Wn ho hi Sl he LZ set_list ha) fun D σ H ⟨τ,G,D3,RS,RG,h,k⟩=>by
  refine⟨τ,G,_,RS,RG,h,fun v1 H1 d1 G1 h1 S1 R1 q1=>⟨τ,G1,_,RS.ext (S1.ext RG),R1,q1,fun v2 H2 d2 G2 h2 S2 R2 q2=>?_⟩⟩;cases d1 with
  |obj p=>
   cases d2 with
   |int j=>
    obtain⟨ds,x,e1,e2,q⟩:=q2;obtain⟨vs,z1,z2⟩:=R2 p _ e1;obtain⟨v,z3,z4⟩:=yU z2 e2;have hv1:v1=.ref p:=ip h1;have hv2:v2=.int j:=jb h2;refine⟨p,vs,j,v,hv1,hv2,.of z1,z3,⟨τ,G2,_,(RS.ext (S1.ext RG)).ext (S2.ext R1),R2,q,fun v5 H5 d5 G5 h5 S5 R5 q5=>?_⟩⟩;cases d5 with
    |int y=>
     have hx:v=.int x:=jb z4;have hy:v5=.int y:=jb h5;refine⟨x,y,hx,hy,?_⟩;exact Lg (((h1.ext (S2.ext R1)).ext (S5.ext R2))) ((h2.ext (S5.ext R2))) lL R5 q5 fun H' G' y1 y2 y3=>k.nx _ _ G' H' ((((RS.ext (S1.ext RG)).ext (S2.ext R1)).ext (S5.ext R2)).ext (y1.ext R5)) (((S1.trans S2).trans S5).trans y1) y2 y3
    |_=>exact q5.elim
   |_=>exact q2.elim
  |_=>cases d2<;>exact q2.elim
end
end L3
namespace L3
open PySem PySem.Spec PyProof.Rows L2
structure QE(X:Cx)(e:ρ)(t:aU):Prop where
 of:bT X e t
structure QT(X:Cx)(e:ρ)(t:cN):Prop where
 of:qu X e t
structure QW(X:Cx)(e:ρ)(t:cN):Prop where
 of:xU X e t
structure QA(X:Cx)(es:List ρ)(t:cM):Prop where
 of:jc X es t
structure QS(X:Cx)(st:aQ)(t:az):Prop where
 of:nC X st t
structure oz(X:Cx)(st:List aQ)(t:az):Prop where
 of:jZ X st t
structure QG(X:Cx)(tg:ρ)(t:iu):Prop where
 of:uq X tg t
structure Dc(X:Cx)(tgs:List ρ)(t:mP):Prop where
 of:xJ X tgs t
structure QI(X:Cx)(tg iter:ρ)(t:nA):Prop where
 of:wK X tg iter t
structure QO(X:Cx)(e:Option ρ)(t:xQ):Prop where
 of:Dd X e t
structure QC(X:Cx)(ifs:List ρ)(t:cN):Prop where
 of:vh X ifs (sh X.K t)
section
variable {X:Cx} {a b e c:ρ} {ta tb te:aU} {tA tB:cN} {pos:aO} {es rest:List ρ}
theorem Φ{i:Nat}{x:ν}(h:PE X (.Name x pos) (Ag i)):QE X (.Name x pos) (υ i):=⟨V0 (h:=h)⟩
end
section
variable {X:Cx} {a b e c:ρ} {ta tb te:aU} {tA tB:cN} {pos:aO} {es rest:List ρ}
theorem bw{i:Int}{j}:QE X (.Constant (.int i) j pos) (eC (.int i)):=⟨VZ ⟩
end
section
variable {X:Cx} {a b e c:ρ} {ta tb te:aU} {tA tB:cN} {pos:aO} {es rest:List ρ}
theorem lP{i:Bool}{j}:QE X (.Constant (.bool i) j pos) (eC (.bl i)):=⟨aay ⟩
end
section
variable {X:Cx} {a b e c:ρ} {ta tb te:aU} {tA tB:cN} {pos:aO} {es rest:List ρ}
theorem Sd{j}:QE X (.Constant .none j pos) (eC .aC):=⟨VY ⟩
end
section
variable {X:Cx} {a b e c:ρ} {ta tb te:aU} {tA tB:cN} {pos:aO} {es rest:List ρ}
theorem pA{x:ν}{j}:QE X (.Constant (.str x) j pos) (eC (.str x)):=⟨VX ⟩
end
section
variable {X:Cx} {a b e c:ρ} {ta tb te:aU} {tA tB:cN} {pos:aO} {es rest:List ρ}
theorem Sb{x:ν}{i:Int}{u:Tok}(hm:X.mg x=some (.int i u))(hg:Gl X x:=by rfl)(hd:(x==("__debug__":ν))=false:=by decide):QE X (.Name x pos) (eC (.int i)):=⟨Vl (hm:=hm) (hg:=hg) (hd:=hd)⟩
end
section
variable {X:Cx} {a b e c:ρ} {ta tb te:aU} {tA tB:cN} {pos:aO} {es rest:List ρ}
theorem dX{op:lp}{r:R3}{r2:R2}(L:fR X.K r r2)(ho:fF X (binaryOp op) r2)(ha:QE X a ta)(hb:QE X b tb):QE X (.BinOp a op b pos) (bx r ta tb):=⟨aaw (L:=L) (ho:=ho) (ha:=ha.of) (hb:=hb.of)⟩
end
section
variable {X:Cx} {a b e c:ρ} {ta tb te:aU} {tA tB:cN} {pos:aO} {es rest:List ρ}
theorem yR{op:CmpOp}{r:R3}{r2:R2}(L:fR X.K r r2)(ho:fF X (compareOp op) r2)(ha:QE X a ta)(hb:QE X b tb)(hm:behindInMarks op b=false):QE X (.Compare a [op] [b] pos) (bx r ta tb):=⟨Vk (L:=L) (ho:=ho) (ha:=ha.of) (hb:=hb.of) (hm:=hm)⟩
end
section
variable {X:Cx} {a b e c:ρ} {ta tb te:aU} {tA tB:cN} {pos:aO} {es rest:List ρ}
theorem kC{op:CmpOp}{r:R3}{r2:R2}(L:fR X.K r r2)(ho:fF X (compareOp op) r2)(ha:QE X a ta)(hb:QE X b tb)(hm:behindInMarks op b=false):QT X (.Compare a [op] [b] pos) (b9 (bx r ta tb)):=⟨Vj (L:=L) (ho:=ho) (ha:=ha.of) (hb:=hb.of) (hm:=hm)⟩
end
section
variable {X:Cx} {a b e c:ρ} {ta tb te:aU} {tA tB:cN} {pos:aO} {es rest:List ρ}
theorem lO(h:QE X a ta)(he:∀whole,isTrue a X.env whole=(do let v ←whole;standAt a.pos;holding [v] (truthy v)):=by intro _;rfl):QT X a (b9 ta):=⟨Vi (h:=h.of) (he:=he)⟩
end
section
variable {X:Cx} {a b e c:ρ} {ta tb te:aU} {tA tB:cN} {pos:aO} {es rest:List ρ}
theorem E8(ha:QT X a tA):QW X (.BoolOp .And [a] pos) tA:=⟨Vh (ha:=ha.of)⟩
end
section
variable {X:Cx} {a b e c:ρ} {ta tb te:aU} {tA tB:cN} {pos:aO} {es rest:List ρ}
theorem yQ(ha:QT X a tA):QW X (.BoolOp .Or [a] pos) tA:=⟨Vg (ha:=ha.of)⟩
end
section
variable {X:Cx} {a b e c:ρ} {ta tb te:aU} {tA tB:cN} {pos:aO} {es rest:List ρ}
theorem E7(ha:QT X a tA)(hb:QW X (.BoolOp .And (b::rest) pos) tB):QW X (.BoolOp .And (a::b::rest) pos) (zB tA tB):=⟨Vf (ha:=ha.of) (hb:=hb.of)⟩
end
section
variable {X:Cx} {a b e c:ρ} {ta tb te:aU} {tA tB:cN} {pos:aO} {es rest:List ρ}
theorem vC(ha:QT X a tA)(hb:QW X (.BoolOp .Or (b::rest) pos) tB):QW X (.BoolOp .Or (a::b::rest) pos) (sU tA tB):=⟨Ve (ha:=ha.of) (hb:=hb.of)⟩
end
section
variable {X:Cx} {a b e c:ρ} {ta tb te:aU} {tA tB:cN} {pos:aO} {es rest:List ρ}
theorem t6(h:QW X a tA):QT X a tA:=⟨N4 (h:=h.of)⟩
end
section
variable {X:Cx} {a b e c:ρ} {ta tb te:aU} {tA tB:cN} {pos:aO} {es rest:List ρ}
theorem qF(ha:QT X a tA):QT X (.UnaryOp .Not a pos) (jV tA):=⟨Vd (ha:=ha.of)⟩
end
section
variable {X:Cx} {a b e c:ρ} {ta tb te:aU} {tA tB:cN} {pos:aO} {es rest:List ρ}
theorem Lc{op}(h:QE X a ta):QE X (.BoolOp op [a] pos) ta:=⟨Vc (h:=h.of)⟩
end
section
variable {X:Cx} {a b e c:ρ} {ta tb te:aU} {tA tB:cN} {pos:aO} {es rest:List ρ}
theorem E6(ha:QE X a ta)(hb:QE X (.BoolOp .And (b::rest) pos) tb):QE X (.BoolOp .And (a::b::rest) pos) (uL ta tb):=⟨Vb (ha:=ha.of) (hb:=hb.of)⟩
end
section
variable {X:Cx} {a b e c:ρ} {ta tb te:aU} {tA tB:cN} {pos:aO} {es rest:List ρ}
theorem Sa(ha:QE X a ta):QE X (.UnaryOp .Not a pos) (BZ ta):=⟨U9 (ha:=ha.of)⟩
end
section
variable {X:Cx} {a b e c:ρ} {ta tb te:aU} {tA tB:cN} {pos:aO} {es rest:List ρ}
theorem aM  : QA X [] ae:=⟨U8 ⟩
end
section
variable {X:Cx} {a b e c:ρ} {ta tb te:aU} {tA tB:cN} {pos:aO} {es rest:List ρ}
theorem aa{tr:cM}(ha:QE X a ta)(hr:QA X es tr)(hs:notStar a=true:=by rfl):QA X (a::es) (ο ta tr):=⟨U7 (ha:=ha.of) (hr:=hr.of) (hs:=hs)⟩
end
section
variable {X:Cx} {a b e c:ρ} {ta tb te:aU} {tA tB:cN} {pos:aO} {es rest:List ρ}
theorem kB{t:cM}{x1}(h:QA X es t):QE X (.Tuple es x1 pos) (fH t):=⟨U6 (h:=h.of)⟩
end
section
variable {X:Cx} {a b e c:ρ} {ta tb te:aU} {tA tB:cN} {pos:aO} {es rest:List ρ}
theorem lj{t:cM}(h:QA X es t):QE X (.List es pos) (jv t):=⟨U5 (h:=h.of)⟩
end
section
variable {X:Cx} {st:aQ} {rest:List aQ} {t u:az} {e c:ρ} {te:aU} {tc:cN} {pos:aO}
theorem nu  : oz X [] fJ:=⟨UY ⟩
end
section
variable {X:Cx} {st:aQ} {rest:List aQ} {t u:az} {e c:ρ} {te:aU} {tc:cN} {pos:aO}
theorem cw(h1:QS X st t)(h2:oz X rest u):oz X (st::rest) (bH t u):=⟨UX (h1:=h1.of) (h2:=h2.of)⟩
end
section
variable {X:Cx} {st:aQ} {rest:List aQ} {t u:az} {e c:ρ} {te:aU} {tc:cN} {pos:aO}
theorem cu(h1:QS X st t):oz X [st] t:=⟨UW (h1:=h1.of)⟩
end
section
variable {X:Cx} {st:aQ} {rest:List aQ} {t u:az} {e c:ρ} {te:aU} {tc:cN} {pos:aO}
theorem yP(he:QE X e te)(hs:swapsWith e none pos.line X.env=pure false:=by rfl):QS X (.Expr e pos) (rT te):=⟨UU (he:=he.of) (hs:=hs)⟩
end
section
variable {X:Cx} {st:aQ} {rest:List aQ} {t u:az} {e c:ρ} {te:aU} {tc:cN} {pos:aO}
theorem eK(he:QE X e te):QS X (.Return (some e) pos) (cz te):=⟨Vv (he:=he.of)⟩
end
section
variable {X:Cx} {st:aQ} {rest:List aQ} {t u:az} {e c:ρ} {te:aU} {tc:cN} {pos:aO}
theorem nt{a b:List aQ}(hc:QT X c tc)(ha:oz X a t)(hb:oz X b u):QS X (.If c a b pos) (kA tc t u):=⟨Od (hc:=hc.of) (ha:=ha.of) (hb:=hb.of)⟩
end
section
variable {X:Cx} {pos:aO} {e:ρ} {es:List ρ}
theorem fL{i:Nat}{x:ν}(hN:X.N.Nodup)(hi:X.N[i]?=some x:=by rfl)(hx:Loc X.env.scope x:=by first|exact pS rfl|exact nF rfl)(hf:X.fn x=true∨X.env.scope.names.lookup x=some .local:=by first|exact .inl rfl|exact .inr rfl|assumption):QG X (.Name x pos) (hName i):=⟨Vu (hN:=hN) (hi:=hi) (hx:=hx) (hf:=hf)⟩
end
section
variable {X:Cx} {pos:aO} {e:ρ} {es:List ρ}
theorem zh  : Dc X [] uf:=⟨Vt ⟩
end
section
variable {X:Cx} {pos:aO} {e:ρ} {es:List ρ}
theorem qE{t:iu}{u:mP}(h1:QG X e t)(h2:Dc X es u)(hs:(assignEach (e::es) X.env).map (·.2)=assign e X.env::(assignEach es X.env).map (·.2):=by rfl):Dc X (e::es) (jH t u):=⟨Vs (h1:=h1.of) (h2:=h2.of) (hs:=hs)⟩
end
section
variable {X:Cx} {pos:aO} {e:ρ} {es:List ρ}
theorem AO{k:Nat}{t:mP}{n:Nat}(hc:X.calm=true)(h:Dc X es t)(hn:(assignEach es X.env).length=n:=by rfl)(hst:(assignEach es X.env).findIdx? (·.1)=none:=by rfl):QG X (.Tuple es k pos) (qQ n t):=⟨Vr (hc:=hc) (h:=h.of) (hn:=hn) (hst:=hst)⟩
end
section
variable {X:Cx} {pos:aO} {e:ρ} {es:List ρ}
theorem zg{tg:ρ}{te:aU}{g:iu}(he:QE X e te)(hg:QG X tg g)(hs:swapsWithSole [tg] e pos.line X.env=pure false:=by rfl)(hw:swappedStores [tg] e X.env=pure none:=by rfl)(h1:(assignEach [tg] X.env).map (·.2)=[assign tg X.env]:=by rfl):QS X (.Assign [tg] e pos) (ck te g):=⟨Vq (he:=he.of) (hg:=hg.of) (hs:=hs) (hw:=hw) (h1:=h1)⟩
end
section
variable {X:Cx} {pos:aO} {e:ρ} {es:List ρ}
theorem e8{i:Nat}{x:ν}{te:aU}{pos':aO}(hN:X.N.Nodup)(he:QE X e te)(hi:X.N[i]?=some x:=by rfl)(hx:Loc X.env.scope x:=by first|exact pS rfl|exact nF rfl)(hs:swapsWith e (some (.Name x pos')) pos.line X.env=pure false:=by rfl)(hf:X.fn x=true∨X.env.scope.names.lookup x=some .local:=by first|exact .inl rfl|exact .inr rfl|assumption):QS X (.Assign [.Name x pos'] e pos) (ck te (hName i)):=⟨Vp (hN:=hN) (he:=he.of) (hi:=hi) (hx:=hx) (hs:=hs) (hf:=hf)⟩
end
section
variable {X:Cx} {pos:aO} {e:ρ} {es:List ρ}
theorem R9{i:Nat}{x:ν}{te:aU}{op:lp}{r:R3}{r2:xR}{pos':aO}(L:fR X.K r r2)(hN:X.N.Nodup)(he:QE X e te)(ho:De X op r2)(hi:X.N[i]?=some x:=by rfl)(hx:Loc X.env.scope x:=by first|exact pS rfl|exact nF rfl)(hf:X.fn x=true∨X.env.scope.names.lookup x=some .local:=by first|exact .inl rfl|exact .inr rfl|assumption):QS X (.AugAssign (.Name x pos') op e pos) (Am i te r):=⟨Vo (L:=L) (hN:=hN) (he:=he.of) (ho:=ho) (hi:=hi) (hx:=hx) (hf:=hf)⟩
end
section
variable {X:Cx} {pos:aO} {e:ρ} {es:List ρ}
theorem AN{o i:ρ}{to ti:aU}(ho:QE X o to)(hi:QE X i ti) (ha:∀v,assign (.Subscript o i pos) X.env v=(do
   let ov ←holding [v] (eval o X.env)
   let iv ←holding [v,ov] (eval i X.env)
   standAt pos
   holding [v,ov,iv] (setItem ov iv v)
   release [v,ov,iv] []):=by intro _;rfl):QG X (.Subscript o i pos) (hSub to ti):=⟨Vn (ho:=ho.of) (hi:=hi.of) (ha:=ha)⟩
end
section
variable {X:Cx} {pos:aO} {e:ρ} {es:List ρ}
theorem EZ{c:ρ}{body:List aQ}{tc:cN}{tb:az}(hp:g9 (model X.prog X.w) X.A X.env X.xe)(hc:QT X c tc)(hb:oz X body tb):QS X (.While c body [] pos) (wy tc tb):=⟨Vm (hp:=hp) (hc:=hc.of) (hb:=hb.of)⟩
end
section
variable {X:Cx} {k:Nat} {f:ζ} {fd:ag} {ps:List ν} {sp:dJ} {x:ν} {p pos:aO} {e:ρ} {es:List ρ} {t:cM}
theorem eJ(F:dS X.prog X.w X.K X.mg X.base k f fd ps sp)(hr:dH k X.A)(hm:X.mg x=some (.ref f))(hk:bD X.K (.ref f)=true)(hb:Binds X.K fd ps [])(ha:QA X (e::es) t)(hg:Gl X x:=by rfl)(hdb:(x==("__debug__":ν))=false:=by decide)(he:notStar e=true:=by rfl)(hpl:es.all notStar=true:=by rfl):QE X (.Call (.Name x p) (e::es) [] pos) (bA sp t):=⟨UJ (F:=F) (hr:=hr) (hm:=hm) (hk:=hk) (hb:=hb) (ha:=ha.of) (hg:=hg) (hdb:=hdb) (he:=he) (hpl:=hpl)⟩
end
section
variable {X:Cx} {tg iter:ρ} {pos p:aO}
theorem oh{l:ρ}{te:aU}(hl:QE X l te):QI X tg l (iW te):=⟨UI (hl:=hl.of)⟩
end
section
variable {X:Cx} {tg iter:ρ} {pos p:aO}
theorem pz{a:ρ}{ta:cM}(hm:X.mg "range" = none)(ha:QA X [a] ta)(hg:Gl X "range":=by rfl)(hs:notStar a=true:=by rfl):QI X tg (.Call (.Name "range" p) [a] [] pos) (iX ta):=⟨UG (hm:=hm) (ha:=ha.of) (hg:=hg) (hs:=hs)⟩
end
section
variable {X:Cx} {tg iter:ρ} {pos p:aO}
theorem og{body:List aQ}{ti:nA}{g:iu}{tb:az}(hp:g9 (model X.prog X.w) X.A X.env X.xe)(hc:X.calm=true)(hi:QI X tg iter ti)(hg:QG X tg g)(hb:oz X body tb)(hs:∀x,foldedSetIterable iter X.env x=pure x:=by intro _;rfl):QS X (.For tg iter body [] pos) (hX ti g tb):=⟨UE (hp:=hp) (hc:=hc) (hi:=hi.of) (hg:=hg.of) (hb:=hb.of) (hs:=hs)⟩
end
section
variable {X:Cx} {tg iter:ρ} {pos p:aO}
theorem r0  : QC X [] (eI):=⟨UD ⟩
end
section
variable {X:Cx} {tg iter:ρ} {pos p:aO}
theorem zf{c:ρ}{t:cN}(h:QT X c t):QC X [c] (t):=⟨UC (h:=h.of)⟩
end
section
variable {X:Cx} {K:θ}
theorem lK{a b:ρ}{ta tb:aU}{pos:aO}(ha:QE X a ta)(hb:QE X b tb)(hs:rC b:=by intro _ _;rfl):QE X (.Subscript a b pos) (bx fG ta tb):=⟨aax (ha:=ha.of) (hb:=hb.of) (hs:=hs)⟩
end
section
variable {X:Cx} {K:θ}
theorem AM{es:List ρ}{b:ρ}{ta:cM}{tb:aU}{pos pos':aO}(ha:QA X es ta)(hb:QE X b tb)(hs:rC b:=by intro _ _;rfl):QE X (.Subscript (.List es pos') b pos) (rz ta tb):=⟨Ut (ha:=ha.of) (hb:=hb.of) (hs:=hs)⟩
end
section
variable {X:Cx} {a b e:ρ} {ta tb:aU} {pos:aO}
theorem vB  : QO X none lR:=⟨Us ⟩
end
section
variable {X:Cx} {a b e:ρ} {ta tb:aU} {pos:aO}
theorem rZ(h:QE X e ta):QO X (some e) (kl ta):=⟨Ur (h:=h.of)⟩
end
section
variable {X:Cx} {a b e:ρ} {ta tb:aU} {pos:aO}
theorem t5{lo hi:Option ρ}{tl th:xQ}{p2:aO}(ha:QE X a ta)(hl:QO X lo tl)(hh:QO X hi th):QE X (.Subscript a (.Slice lo hi none p2) pos) (sT ta tl th):=⟨aav (ha:=ha.of) (hl:=hl.of) (hh:=hh.of)⟩
end
section
variable {X:Cx} {K:θ} {e:ρ} {es:List ρ} {t:cM} {ta:aU} {pos p:aO}
theorem nP(hu:X.A.units+64<cLine)(hm:X.mg "len" = none)(ha:QA X (e::es) t)(hg:Gl X "len":=by rfl)(he:notStar e=true:=by rfl)(hpl:es.all notStar=true:=by rfl):QE X (.Call (.Name "len" p) (e::es) [] pos) (eH oj t):=⟨Um (hu:=hu) (hm:=hm) (ha:=ha.of) (hg:=hg) (he:=he) (hpl:=hpl)⟩
end
section
variable {X:Cx} {K:θ} {e:ρ} {es:List ρ} {t:cM} {ta:aU} {pos p:aO}
theorem R8(hu:X.A.units+64<cLine)(hm:X.mg "int" = none)(ha:QA X (e::es) t)(hg:Gl X "int":=by rfl)(he:notStar e=true:=by rfl)(hpl:es.all notStar=true:=by rfl):QE X (.Call (.Name "int" p) (e::es) [] pos) (eH Bn t):=⟨Uk (hu:=hu) (hm:=hm) (ha:=ha.of) (hg:=hg) (he:=he) (hpl:=hpl)⟩
end
section
variable {X:Cx} {K:θ} {e:ρ} {es:List ρ} {t:cM} {ta:aU} {pos p:aO}
theorem R7(hu:X.A.units+64<cLine)(hm:X.mg "max" = none)(ha:QA X (e::es) t)(hc:X.calm=true:=by rfl)(hg:Gl X "max":=by rfl)(he:notStar e=true:=by rfl)(hpl:es.all notStar=true:=by rfl):QE X (.Call (.Name "max" p) (e::es) [] pos) (eH EJ t):=⟨Ui (hu:=hu) (hm:=hm) (ha:=ha.of) (hc:=hc) (hg:=hg) (he:=he) (hpl:=hpl)⟩
end
section
variable {X:Cx} {K:θ} {e:ρ} {es:List ρ} {t:cM} {ta:aU} {pos p:aO}
theorem AL(hu:X.A.units+64<cLine)(hm:X.mg "tuple" = none)(ha:QA X (e::es) t)(hg:Gl X "tuple":=by rfl)(he:notStar e=true:=by rfl)(hpl:es.all notStar=true:=by rfl):QE X (.Call (.Name "tuple" p) (e::es) [] pos) (eH t8 t):=⟨US (hu:=hu) (hm:=hm) (ha:=ha.of) (hg:=hg) (he:=he) (hpl:=hpl)⟩
end
section
variable {X:Cx} {a e:ρ} {es:List ρ} {ta:aU} {t:cM} {pos p p2:aO}
theorem AK{T:String}{TS:ν}(k:zG T)(hv:gM TS=some (.type T))(ha:QE X a ta)(hm:X.mg "isinstance" = none)(hm2:X.mg TS=none)(hgT:Gl X TS)(hnT:TS≠"__name__")(hdT:(TS==("__debug__":ν))=false)(hg:Gl X "isinstance":=by rfl)(he:notStar a=true:=by rfl):QE X (.Call (.Name "isinstance" p) [a,.Name TS p2] [] pos) (qo T ta):=⟨S0 (k:=k) (hv:=hv) (ha:=ha.of) (hm:=hm) (hm2:=hm2) (hgT:=hgT) (hnT:=hnT) (hdT:=hdT) (hg:=hg) (he:=he)⟩
end
section
variable {X:Cx} {K:θ} {e:ρ} {es:List ρ} {t:cM} {ta:aU} {pos p p' pos':aO}
theorem Ei(hu:X.A.units+64<cLine)(hm:X.mg "sorted" = none)(ha:QA X (e::es) t)(hc:X.calm=true:=by rfl)(hg:Gl X "sorted":=by rfl)(he:notStar e=true:=by rfl)(hpl:es.all notStar=true:=by rfl):QE X (.Call (.Name "sorted" p) (e::es) [] pos) (eH vD t):=⟨SQ (hu:=hu) (hm:=hm) (ha:=ha.of) (hc:=hc) (hg:=hg) (he:=he) (hpl:=hpl)⟩
end
section
variable {X:Cx} {K:θ} {e:ρ} {es:List ρ} {t:cM} {ta:aU} {pos p p' pos':aO}
theorem Lb(hu:X.A.units+64<cLine)(ha:QE X e ta)(hm:X.mg "sorted" = none)(hm2:X.mg "set" = none)(hc:X.calm=true:=by rfl)(hg:Gl X "sorted":=by rfl)(hg2:Gl X "set":=by rfl)(he2:notStar e=true:=by rfl):QE X (.Call (.Name "sorted" p) [.Call (.Name "set" p') [e] [] pos'] [] pos) (sC ta):=⟨SO (hu:=hu) (ha:=ha.of) (hm:=hm) (hm2:=hm2) (hc:=hc) (hg:=hg) (hg2:=hg2) (he2:=he2)⟩
end
section
variable {X:Cx} {K:θ} {e:ρ} {es:List ρ} {t:cM} {ta:aU} {pos p p' pos':aO}
theorem Eh(hu:X.A.units+64<cLine)(hm:X.mg "all" = none)(ha:QA X (e::es) t)(hc:X.calm=true:=by rfl)(hg:Gl X "all":=by rfl)(he:notStar e=true:=by rfl)(hpl:es.all notStar=true:=by rfl):QE X (.Call (.Name "all" p) (e::es) [] pos) (eH t7 t):=⟨SK (hu:=hu) (hm:=hm) (ha:=ha.of) (hc:=hc) (hg:=hg) (he:=he) (hpl:=hpl)⟩
end
section
variable {X:Cx} {es:List ρ} {n0:Nat} {ps p pos:aO}
theorem R6{a b:ρ}{ta:cM}(hm:X.mg "zip" = none)(ha:QA X [a,b] ta)(hg:Gl X "zip":=by rfl)(hs:notStar a=true:=by rfl)(hs2:notStar b=true:=by rfl):QI X (.Tuple es n0 ps) (.Call (.Name "zip" p) [a,b] [] pos) (Bz ta):=⟨SD (hm:=hm) (ha:=ha.of) (hg:=hg) (hs:=hs) (hs2:=hs2)⟩
end
section
variable {X:Cx} {es:List ρ} {n0:Nat} {ps p pos:aO}
theorem R4{a:ρ}{ta:cM}(hm:X.mg "enumerate" = none)(ha:QA X [a] ta)(hg:Gl X "enumerate":=by rfl)(hs:notStar a=true:=by rfl):QI X (.Tuple es n0 ps) (.Call (.Name "enumerate" p) [a] [] pos) (BC ta):=⟨Th (hm:=hm) (ha:=ha.of) (hg:=hg) (hs:=hs)⟩
end
section
variable {X:Cx} {tg:ρ} {p pos:aO}
theorem R0{a b d:ρ}{ta:cM}(hm:X.mg "range" = none)(ha:QA X [a,b,d] ta)(hg:Gl X "range":=by rfl)(hs:notStar a=true:=by rfl)(hs2:notStar b=true:=by rfl)(hs3:notStar d=true:=by rfl):QI X tg (.Call (.Name "range" p) [a,b,d] [] pos) (BB ta):=⟨Sg (hm:=hm) (ha:=ha.of) (hg:=hg) (hs:=hs) (hs2:=hs2) (hs3:=hs3)⟩
end
section
variable {X:Cx} {tg:ρ} {p pos:aO}
theorem RZ{o i e:ρ}{to ti te:aU}{tpos:aO}(ho:QE X o to)(hi:QE X i ti)(he:QE X e te)(ha:∀ov iv new,augStore i ov iv new=(do holding [new,ov,iv] (setItem ov iv new);release [new,ov,iv] [];pure .next):=by intros;rfl):QS X (.AugAssign (.Subscript o i tpos) .Add e pos) (Al to ti te (· + ·)):=⟨Se (ho:=ho.of) (hi:=hi.of) (he:=he.of) (ha:=ha)⟩
end
section
variable {X:Cx} {a b c e o:ρ} {es:List ρ} {ta tb tc te to:aU} {t:cM} {pos apos cpos p:aO}
theorem xt{name:ν}{id:String}{r:D->List D->Gp->V3->Prop}{r2:V->List V->Hp->VK->Prop}(L:v8 X.K r r2)(slot:Slot "list" name id)(hty:typeOf (.builtin id)=pure (.type "method_descriptor"))(hm:Dh X id r2)(ho:QE X o to)(ha:QA X (e::es) t)
  (sA:attributeBase o name X.env (eval o X.env)=eval o X.env:=by rfl)
  (Fo:((backTo cpos (bM (e::es) X.env)).all (fun x=>!x.1)&&(backToKw cpos (keywordEach [] X.env)).all (fun x=>x.1.isSome)
   && decide ((e::es).length+([]:List Keyword).length+(if ([]:List Keyword).isEmpty then 0 else 1)<30))=true:=by rfl)
  (BE:(apos.endLine==cpos.line)=true:=by rfl) (he:notStar e=true:=by rfl) (hpl:es.all notStar=true:=by rfl):
  QE X (.Call (.Attribute o name apos) (e::es) [] cpos) (eM r to t):=⟨UQ L (VA PySem.F.plainAttrs_list slot hty hm ho.of ha.of sA Fo BE (eB he) (kD hpl))⟩
theorem RY{i j:Nat}{x y:ν}{px py pt:aO}{kt k2 pt2}(hc:X.calm=true)(hN:X.N.Nodup)(hi:X.N[i]?=some x)(hj:X.N[j]?=some y)(hij:i≠j)(hx:X.env.scope.names.lookup x=some .local)(hy:X.env.scope.names.lookup y=some .local)(ha:QA X [a,b] t)
  (hw:swappedStores [.Tuple [.Name x px,.Name y py] kt pt] (.Tuple [a,b] k2 pt2) X.env=pure (some [x,y])) (hs:swapsWithSole [.Tuple [.Name x px,.Name y py] kt pt] (.Tuple [a,b] k2 pt2) pos.line X.env=pure false:=by rfl):
  QS X (.Assign [.Tuple [.Name x px,.Name y py] kt pt] (.Tuple [a,b] k2 pt2) pos) (Aj i j t):=⟨Lh (Wp hc hN hi hj hij hx hy ha.of hw hs)⟩
end
section
variable {X:Cx} {tg iter elt:ρ} {ifs:List ρ} {scope:eS} {own:List ν} {js:List Nat} {ti:nA} {g:iu} {tc:cN} {te:aU} {pos:aO}
theorem nO(hc:X.calm=true)(C:dM X.N X.env.scope scope own js)(hi:QI X tg iter ti)
  (hb:∀s H fp,QG (X.cmp scope own js s H fp) tg g/\QC (X.cmp scope own js s H fp) ifs tc/\QE (X.cmp scope own js s H fp) elt te)
  (hs:∀x,foldedSetIterable iter X.env x=pure x:=by intro _;rfl):QE X (.ListComp elt [⟨tg,iter,ifs,0⟩] scope pos) (fX own js ti g tc te):=
 ⟨UB hc C hi.of (fun s H fp=>⟨(hb s H fp).1.of,(hb s H fp).2.1.of,(hb s H fp).2.2.of⟩) hs⟩
theorem La{i:Nat}{y:ν}{py spos:aO}(hc:X.calm=true)(hN:X.N.Nodup)(C:dM X.N X.env.scope scope own js)(hi:QI X tg iter ti)
  (hb:∀s H fp,QG (X.cmp scope own js s H fp) tg g/\QC (X.cmp scope own js s H fp) ifs tc/\QE (X.cmp scope own js s H fp) elt te) (hy:X.N[i]?=some y:=by rfl) (hyl:X.env.scope.names.lookup y=some .local:=by rfl)
  (C5:swapsWith (.ListComp elt [⟨tg,iter,ifs,0⟩] scope pos) (some (.Name y py)) spos.line X.env=pure true:=by rfl)
  (hs:∀x,foldedSetIterable iter X.env x=pure x:=by intro _;rfl):QS X (.Assign [.Name y py] (.ListComp elt [⟨tg,iter,ifs,0⟩] scope pos) spos) (ck (fX own js ti g tc te) (hName i)):=
 ⟨UA hc hN C hi.of (fun s H fp=>⟨(hb s H fp).1.of,(hb s H fp).2.1.of,(hb s H fp).2.2.of⟩) hy hyl C5 hs⟩
end
theorem gJ{P:Ω}{w:ah}{K:θ}{mg:ν->Option ε}{base:Ψ}{x qual:ν}{st:aQ}{f:ζ}{fd:ag}{N ps:List ν}{k:Nat}{sp:dJ}(F:dQ K x qual st f fd)(S:bz N ps (ω st))(hN:ps.length≤N.length)(len:∀ds G Q,sp ds G Q->ds.length=ps.length)(tb:az)
  (fk:∀(cdv:ε) (A:aE) (outer:List cK) (s:η) (H:Hp) (E:XK),dH k (A.deeper (envOfC qual (ω st) s.heap.objs.size f cdv)) ->
   oz (ia oA P w K mg base N qual (ω st) f cdv A outer s H E).lB (eE st) tb)
  (oq:∀ds G Q,sp ds G Q->tb (bf Q) (bc N ds) G):dS P w K mg base (k+1) f fd ps sp:=fn3 F S hN len tb (fun cdv A outer s H E hr=>(fk cdv A outer s H E hr).of) oq
end L3
namespace L2
open PySem
open Sem (wp)
section
variable {prog:Ω} {w:ah} {A:aE} {E:ε->η->Prop} {h:Ψ} {g:Array ly} {d:Drawn} {t:Nat} {os:OsState}
variable {nm q:ν} {C N:ζ} {bs bm bmB:List ε} {hdct:Bool} {sn:List ν} {sub:List ε} {ab:Bool} {col:Option Bool} {dd:Option ζ} {k0 k1 k2 k3 k5:Option ε} {B newId initId:String}
def gm(h:Ψ)(C:ζ)(rest:List ε):Ψ:=(h.push { cls:=.type "tuple",data:=.seq rest.toArray }).push { cls:=.ref C,data:=.fields #[.ref h.objs.size,.none,.none,.none,.bool false,.none]}
theorem RX(F:ExcBaseFacts B newId initId bmB)(T:OwnTail h bmB bm){mN:ν->Option ε}{rest:List ε}{f:ζ}{of:aP}{Q:Fin->η->Prop}
  (hC:h.get? C=some (excClassObj nm q C N bs bm hdct sn sub ab col dd k0 k1 k2 k3 k5 newId)) (hn:h.Ns N mN) (hni:mN "__init__" = some (.ref f)) (hf:h.get? f=some of) (hfc:of.cls=.type "function")
  (hq:fA (model prog w) A (.call (.ref f) ⟨.ref (h.objs.size+1)::rest,[]⟩) (fun r s'=>match r with
   |.ok (.ret v)=>v=.none/\Q (.done (.ret (.ref (h.objs.size+1)))) s'
   |.ok _=>False
   | .error e=>E e s') ⟨gm h C rest,g,d,t,os⟩) (hrest:rest.length≤au:=by size_fits):
  ξ (model prog w) A (cS.«type.__call__» ⟨.ref C::rest,[]⟩) Q E ⟨h,g,d,t,os⟩:=by
 repeat (first|with_reducible refine fz hC ?_|with_reducible refine wpAny_madeBy_exc hC ?_|wp_step)
 refine codeAny_call_builtin_code (nK _ F.quiet) (wpAny_check_new_subT F T hC ?_);refine codeAny_exc_new_subT F T hC ?_ hrest;show ξ _ _ _ _ _ _;have hC₁:=ι { cls:=.ref C,data:=.fields #[.ref h.objs.size,.none,.none,.none,.bool false,.none]}
  (ι { cls:=.type "tuple",data:=.seq rest.toArray } hC)
 have hf₁:=ι { cls:=.ref C,data:=.fields #[.ref h.objs.size,.none,.none,.none,.bool false,.none]}
  (ι { cls:=.type "tuple",data:=.seq rest.toArray } hf)
 have hn₁:((h.push { cls:=.type "tuple",data:=.seq rest.toArray }).push { cls:=.ref C,data:=.fields #[.ref h.objs.size,.none,.none,.none,.bool false,.none]}).Ns N mN:=
  let ⟨o,es,ep,e,r⟩:=hn;⟨o,es,ep,ι _ (ι _ e),r⟩
 have hget:((h.push { cls:=.type "tuple",data:=.seq rest.toArray }).push
   { cls:=.ref C,data:=.fields #[.ref h.objs.size,.none,.none,.none,.bool false,.none]}).get? (h.objs.size+1)=some
   { cls:=.ref C,data:=.fields #[.ref h.objs.size,.none,.none,.none,.bool false,.none]}:=by heap_get
 have hcC:(aH C::bm).contains (.ref C)=true:=by simp
 have T₁:=T.keeps (h':=(h.push { cls:=.type "tuple",data:=.seq rest.toArray }).push { cls:=.ref C,data:=.fields #[.ref h.objs.size,.none,.none,.none,.bool false,.none]})
  fun b o e=>ι _ (ι _ e)
 unfold isInstance
 repeat (first|with_reducible refine fz hget ?_|(with_reducible refine jy hC₁ ?_;rw[hcC])|wp_step)
 show ξ _ _ (typeLookup (.ref C) _) _ _ _;refine wpAny_typeLookup_tail hC₁ hn₁ T₁ F.mroIs F.init.lookup ?_;rw[hni];refine aZ (δ (wpAny_bindSpecial_def hf₁ hfc ?_));refine δ (fZ (ed hq fun r s' hr=>?_));cases r with
 |error e=>exact hr
 |ok fl=>
  cases fl with
  |ret v=>
   obtain⟨rfl,hr⟩:=hr;refine μ ?_;show ξ _ _ (ret (aH (h.objs.size+1))) _ _ _;exact μ hr
  |next=>exact hr.elim
  |brk=>exact hr.elim
  |cont=>exact hr.elim
theorem RW(F:ExcBaseFacts B newId initId bmB)(T:OwnTail h bmB bm){mN:ν->Option ε}{rest:List ε}{f:ζ}{of:aP}{Q:ε->η->Prop}
  (hC:h.get? C=some (excClassObj nm q C N bs bm hdct sn sub ab col dd k0 k1 k2 k3 k5 newId)) (hn:h.Ns N mN) (hni:mN "__init__" = some (.ref f)) (hf:h.get? f=some of) (hfc:of.cls=.type "function")
  (hq:fA (model prog w) (A.under (.builtin "type.__call__" ⟨.ref C::rest,[]⟩)) (.call (.ref f) ⟨.ref (h.objs.size+1)::rest,[]⟩) (fun r s'=>match r with
   |.ok (.ret v)=>v=.none/\Q (.ref (h.objs.size+1)) s'
   |.ok _=>False
   | .error e=>E e s') ⟨gm h C rest,g,d,t,os⟩) (hrest:rest.length≤au:=by size_fits):
  ξ (model prog w) A (call (.ref C) rest) Q E ⟨h,g,d,t,os⟩:=by
 have f1:=tc_lookup;have f2:=tc_bind (.ref C);have hT:(⟨h,g,d,t,os⟩:η).TypeIs (.ref C) "type":=⟨_,hC,rfl⟩;refine fZ (qx ?_);show ξ _ _ (callAny (.ref C) _) _ _ _
 repeat (any_goals (first|assumption|with_reducible refine fz hC ?_|wp_step))
 refine⟨rfl,?_⟩;refine codeAny_call_builtin_at (nK _ (by decide +kernel)) entry_typeCall (wpAny_check_type_call_sub hC ?_);refine RX F T hC hn hni hf hfc (ed hq fun r s' hr=>?_) hrest;cases r with
 |error e=>exact hr
 |ok fl=>
  cases fl with
  |ret v=>exact hr
  |next=>exact hr.elim
  |brk=>exact hr.elim
  |cont=>exact hr.elim
end
end L2
namespace L2
open PySem
open Sem (wp)
structure pd(base h:Ψ)(e T:ζ)(cls:ε)(dx:Option ζ):Prop where
 obj:∃oe vs,h.get? e=some oe/\oe.cls=cls/\oe.dict=dx/\oe.data=.fields vs/\vs[1]?=some (.ref T)/\vs[2]?=some .none
 fresh:base.get? T=none
 ne:T≠e
 ent:∃oT ts,h.get? T=some oT/\oT.data=.fields ts/\ts[3]?=some .none
structure sG(base:Ψ)(l:List cK)(e T₀:ζ)(cls:ε)(dx:Option ζ)(h h':Ψ):Prop where
 stays:base.StaysIn h'
 ll:h'.FunFrames base l
 yq:∃T,pd base h' e T cls dx/\h.get? T=none
 keep:∀b o,b≠e->b≠T₀->b∉fD l->h.get? b=some o->h'.get? b=some o
 slot:∀b o,b∈fD l->h.get? b=some o->∃sl,h'.get? b=some { o with slots:=sl }
section
variable {M:Model} {A:aE} {E:ε->η->Prop} {s:η}
theorem ub{base:Ψ}{env:cK}{outer:List cK}{L e:ζ}{oe:aP}{vs:Array ε}{head:ε}{hadNext:Bool}{Q:Unit->η->Prop}
  (lU:A.frames=some (env::outer)) (hl:s.heap.FunFrames base (env::outer)) (hf:env.frame=some L)
  (he:s.heap.get? e=some oe) (hkb:base.StaysIn s.heap) (hen:base.get? e=none) (hd:oe.data=.fields vs) (hsz:1<vs.size) (h2:vs[2]?=some .none)
  (h:∀h',sG base (env::outer) e e oe.cls oe.dict s.heap h'->Q () { s with heap:=h' }):
  ξ M A (do let a ←frameOf env;let pl ←entryPlaceOf L hadNext;let b ←tM head a .none (rawInt L) .none pl;setField (.ref e) 1 b) (fun _ s'=>ξ M A (setFlight (.ref e) none) Q E s') E s:=by
 have hene:e∉(env::outer).filterMap (·.frame):=fun hm=>by
  obtain⟨_,o,ho,hnf⟩:=hl.mem hm;rw[he] at ho;injection ho with ho;subst ho;exact hnf vs hd
 refine δ (wpAny_frameOf_fun lU hl hf fun h₁ hs₁=>?_);refine δ (wpAny_entryPlaceOf fun pl hpl=>?_);unfold tM newFields;refine δ (bG ?_ (hpl.sizeOk5 _ _ _ _ _));have he₁:h₁.get? e=some oe:=(hs₁.2.1 e hene).trans he;have kb₁:base.StaysIn h₁:=fun b o hbo=>(hs₁.2.1 b fun hm=>by rw[(hl.mem hm).1] at hbo;cases hbo).trans (hkb b o hbo);have he₂:=ι (h:=h₁) { cls:=.type "traceback",dict:=none,data:=.fields ([head,.ref L,.none,rawInt L,.none]++(if pl.isEmpty then bo 6 aS else pl)).toArray } he₁;refine fb he₂ hd hsz ?_;have hTe:h₁.objs.size≠e:=gO (Ξ he₁);have hd₃:=cV hd (·.setIfInBounds 1 (aH h₁.objs.size));have he₃:=bu (gw (·.setIfInBounds 1 (aH h₁.objs.size))) he₂ (dR hd₃);have hT₃:=(ay (h₁.push { cls:=.type "traceback",dict:=none,data:=.fields ([head,.ref L,.none,rawInt L,.none]++(if pl.isEmpty then bo 6 aS else pl)).toArray })
  (gw (·.setIfInBounds 1 (aH h₁.objs.size))) (di hTe)).trans (af h₁ rfl)
 unfold setFlight;refine δ (bI he₃ hd₃ (x:=.ref h₁.objs.size) (by simp[hsz]) ?_);rw[if_pos (show (aH h₁.objs.size != aS)=true from by simp)];refine fb hT₃ rfl (by simp only[Γ,aq,aL,hU]<;>omega) (h _ ?_)
 have keep:∀b o,b≠e->h₁.get? b=some o ->
   (((h₁.push { cls:=.type "traceback",dict:=none,data:=.fields ([head,.ref L,.none,rawInt L,.none]++(if pl.isEmpty then bo 6 aS else pl)).toArray }).update e (gw (·.setIfInBounds 1 (aH h₁.objs.size)))).update h₁.objs.size
    (gw (·.setIfInBounds 3 ((none:Option ζ).elim aS fun f=>rawInt f)))).get? b=some o:=fun b o hbe hb=>by
  have hbT:h₁.objs.size≠b:=gO (Ξ hb);rw[ay _ _ hbT,ay _ _ (di hbe)];exact ι _ hb
 have noRecord:∀b o,s.heap.get? b=some o->(∀vs,o.data≠.fields vs)->b≠e:=fun b o hb hnf q=>by
  rw[q,he] at hb;injection hb with hb;subst hb;exact hnf vs hd
 refine⟨fun b o hbo=>keep b o (fun q=>by rw[q,hen] at hbo;cases hbo) (kb₁ b o hbo),hl.of_keeps fun b o hb hnf=>?_,⟨h₁.objs.size,⟨⟨_,_,?_,oF _ _,?_,hd₃,by simp[hsz],by rw[Array.getElem?_setIfInBounds_ne (by decide)];exact h2⟩,kb₁.fresh,hTe,_,_,bu _ hT₃ (dR (cV rfl _)),cV rfl _,by first|(simp;done)|(rcases hpl with rfl|⟨_,_,_,_,_,_,_,rfl⟩<;>simp)⟩,?_⟩,fun b o hbe _ hbf hb=>?_,fun b o hbf hb=>?_⟩
 ·obtain⟨sl,hs⟩:=hs₁.2.2 b o hb;exact⟨_,keep b _ (noRecord b o hb hnf) hs,rfl⟩
 ·rw[ay _ _ hTe];exact he₃
 ·obtain⟨c0,d0,dt0,s0⟩:=oe;cases dt0<;>rfl
 ·exact fv (by rw[hs₁.1];exact Θ _)
 ·exact keep b o hbe ((hs₁.2.1 b hbf).trans hb)
 ·obtain⟨sl,hs⟩:=hs₁.2.2 b o hb;refine⟨sl,keep b _ (fun q=>?_) hs⟩;rw[q] at hbf;exact hene hbf
theorem RV{base:Ψ}{env:cK}{outer:List cK}{L e:ζ}{oe:aP}{vs:Array ε}{Q:Unit->η->Prop}
  (lU:A.frames=some (env::outer)) (hl:s.heap.FunFrames base (env::outer)) (hf:env.frame=some L)
  (he:s.heap.get? e=some oe) (hkb:base.StaysIn s.heap) (hen:base.get? e=none) (hd:oe.data=.fields vs) (h1:vs[1]?=some .none) (h2:vs[2]?=some .none)
  (h:∀h',sG base (env::outer) e e oe.cls oe.dict s.heap h'->Q () { s with heap:=h' }):ξ M A (leaving env (.ref e)) Q E s:=by
 unfold leaving noteFrame;simp only[hf];refine δ (δ (bI he hd h1 ?_));rw[if_neg (by decide)];exact ub lU hl hf he hkb hen hd (aN.mp h1).1 h2 h
theorem RU{base:Ψ}{env:cK}{outer:List cK}{L e T:ζ}{cls:ε}{dx:Option ζ}{Q:Unit->η->Prop}
  (lU:A.frames=some (env::outer)) (hl:s.heap.FunFrames base (env::outer)) (hf:env.frame=some L) (ht:pd base s.heap e T cls dx) (hkb:base.StaysIn s.heap) (hen:base.get? e=none)
  (h:∀h',sG base (env::outer) e T cls dx s.heap h'->Q () { s with heap:=h' }):ξ M A (leaving env (.ref e)) Q E s:=by
 obtain⟨⟨oe,vs,he,hcls,hdx,hd,h1,h2⟩,hnT,hTe,oT,ts,hT,hdT,h3⟩:=ht;subst hcls hdx;unfold leaving noteFrame;simp only[hf];refine δ (δ (bI he hd h1 ?_));rw[if_pos (show (aH T != aS)=true from by simp)];refine δ (bI hT hdT h3 ?_);rw[if_neg (show ¬((aS==rawInt L)=true) from by simp[rawInt])];refine δ (fb hT hdT (aN.mp h3).1 ?_);have other:∀b,b≠T->(s.heap.update T (gw (·.setIfInBounds 3 aS))).get? b=s.heap.get? b:=fun b hb=>ay _ _ (di hb);have noRecord:∀b o,s.heap.get? b=some o->(∀vs,o.data≠.fields vs)->b≠T:=fun b o hb hnf q=>by
  rw[q,hT] at hb;injection hb with hb;subst hb;exact hnf ts hdT
 have hTf:T∉fD (env::outer):=fun hm=>by
  obtain⟨_,o,ho,hnf⟩:=hl.mem hm;rw[hT] at ho;injection ho with ho;subst ho;exact hnf ts hdT
 refine ub lU (hl.of_keeps fun b o hb hnf=>⟨o,(other b (noRecord b o hb hnf)).trans hb,rfl⟩) hf ((other e (di hTe)).trans he)
  (fun b o hbo=>(other b fun q=>by rw[q,hnT] at hbo;cases hbo).trans (hkb b o hbo)) hen hd (aN.mp h1).1 h2
  fun h' ⟨x1,x2,⟨T',x3,x3'⟩,x4,x5⟩=>h h' ⟨x1,x2,⟨T',x3,?_⟩,fun b o hbe hbT hbf hb=>x4 b o hbe hbe hbf ((other b hbT).trans hb),fun b o hbf hb=>x5 b o hbf ((other b fun q=>hTf (q▸hbf)).trans hb)⟩
 by_cases hq:T'=T
 ·subst hq;obtain⟨o2,e2⟩:∃o2,(s.heap.update T' (gw (·.setIfInBounds 3 aS))).get? T'=some o2:=⟨_,bu _ hT (dR (cV hdT _))⟩;rw[e2] at x3';cases x3'
 ·rw[←other T' hq];exact x3'
end
end L2
namespace L2
open PySem PySem.Spec PyProof.Rows
def fo(P:Ω)(w:ah)(base:Ψ):rF:=fun outer H s E ev s'=>∃(e T C:ζ) (dx:Option ζ) (H':Hp),ev=.ref e/\s'.os=s.os/\ky s'.gens/\Un (fD outer) [] H H' s.heap s'.heap/\dZ P w H' s'.heap ∧
 pd base s'.heap e T (.ref C) dx/\(H' e=none/\H' T=none)/\base.get? e=none/\(s.heap.get? e=none/\s.heap.get? T=none)/\E (.ref C) dx H'
theorem bV.there{P:Ω}{w:ah}{H:Hp}{h:Ψ}{a:ζ}{o:HO}(x:bV P w H h a o):∃ob,h.get? a=some ob:=by
 cases o with
 |lst xs=>obtain⟨_,_,_,_,e⟩:=x;exact⟨_,e⟩
 |tup xs=>obtain⟨_,_,_,ob,e,_⟩:=x;exact⟨_,e⟩
 |dK kvs=>obtain⟨_,_,_,_,o,_,_,e,_⟩:=x;exact⟨_,e⟩
 |dT kvs=>obtain⟨_,_,_,_,o,_,_,e,_⟩:=x;exact⟨_,e⟩
 |set S n=>obtain⟨o,_,_,_,e,_⟩:=x;exact⟨_,e⟩
 |ins C dx fs=>obtain⟨_,_,_,e,_⟩:=x;exact⟨_,e⟩
 |own y=>exact x
 |xd fs=>obtain⟨_,⟨_,_,_,e,_⟩,_⟩:=x;exact⟨_,e⟩
 |CQ lo hi=>obtain⟨_,_,_,e⟩:=x;exact⟨_,e⟩
 |cT ob u=>obtain⟨e,_⟩:=x;exact⟨_,e⟩
 |wj ps=>exact⟨_,(show h.get? a=some _ from x)⟩
 |met f y=>exact⟨_,(show h.get? a=some _ from x)⟩
 |ext φ=>exact x.2.1
section
variable {X:Cx} {pins:List (ζ×aP)} {σ:St} {H:Hp} {s:η}
theorem Inv.left(I:Inv X pins σ H s)(hex:X.ex=[])(hst:X.stack=X.env::X.outer)(lU:X.env.frame=some X.env.locals){e T₀:ζ}{cls:ε}{dx:Option ζ}{h':Ψ}(L:sG X.base X.stack e T₀ cls dx s.heap h')
  (he:X.s₀.heap.get? e=none) (hT:X.s₀.heap.get? T₀=none) (hHe:H e=none) (hHT:H T₀=none):
  Un (fD X.outer) [] X.H₀ H X.s₀.heap h'/\dZ X.prog X.w H h':=by
 have hloc:X.s₀.heap.get? X.env.locals=none:=fv I.ok.above;have sub:∀b,b∈fD X.stack->b=X.env.locals∨b∈fD X.outer:=fun b hb=>Δ.mp (I.tR b hb);have ne:∀{b c:ζ} {o:aP},X.s₀.heap.get? b=some o->X.s₀.heap.get? c=none->b≠c:=fun h1 h2 z=>by
  rw[z,h2] at h1;cases h1
 have lB:∀b:ζ,b∉X.ex:=fun b z=>by
  rw[hex] at z;cases z
 have supF:∀b,b∈fD X.outer->b∈fD X.stack:=fun b hb=>by
  rw[hst];unfold fD;rw[eP,lU];exact ψ _ hb
 refine⟨⟨fun b o h1 h2 h3 _=>?_,fun b o h1 h2 h3 _=>?_,fun b o h1 h2 _=>I.base.free b o h1 h2 (lB b),fun b o h1 _=>?_,I.base.iD,I.base.iH,I.base.nN⟩,fun a o ha=>?_⟩
 ·have k1:=I.base.keep b o h1 h2 h3 (lB b);refine L.keep b o (ne h1 he) (ne h1 hT) (fun z=>?_) k1;rcases sub b z with z|z
  ·exact ne h1 hloc z
  ·exact h3 z
 ·obtain⟨sl,k1⟩:=I.base.slot b o h1 h2 h3 (lB b);obtain⟨sl',k2⟩:=L.slot b _ (supF b h3) k1;exact⟨sl',k2⟩
 ·obtain⟨o',k1⟩:=I.base.there b o h1 (lB b);by_cases hb:b∈fD X.stack
  ·obtain⟨sl,k2⟩:=L.slot b o' hb k1;exact⟨_,k2⟩
  ·exact⟨o',L.keep b o' (ne h1 he) (ne h1 hT) hb k1⟩
 ·refine (I.bF a o ha).lg (fun b u hb q=>?_) (fun _ q=>q) fun _ _ q=>q;have hHb:H b≠none:=by
   rcases hb with rfl|hb
   ·rw[ha];simp
   ·rw[hb];simp
  exact L.keep b u (fun z=>hHb (z▸hHe)) (fun z=>hHb (z▸hHT)) (fun z=>hHb (I.fw b z)) q
theorem Inv.fly(I:Inv X pins σ H s)(hex:X.ex=[])(hst:X.stack=X.env::X.outer)(lU:X.env.frame=some X.env.locals){e C:ζ}{oe:aP}{vs:Array ε}{E:XK}(he:s.heap.get? e=some oe)(hc:oe.cls=.ref C)(hd:oe.data=.fields vs)(h1:vs[1]?=some .none)(h2:vs[2]?=some .none)
  (h0:X.s₀.heap.get? e=none) (hHe:H e=none) (q:E (.ref C) oe.dict H) {R:ε->η->Prop}:
  ξ (model X.prog X.w) X.A (leaving X.env (.ref e)) (fun _ s'=>fo X.prog X.w X.base X.outer X.H₀ X.s₀ E (.ref e) s') R s:=by
 have hen:X.base.get? e=none:=by
  cases hq:X.base.get? e with
  |none=>rfl
  |some o=>
   have:=(I.ok.bs e o hq).1;rw[h0] at this;cases this
 refine RV (base:=X.base) (by rw[I.ok.frames,hst]) (by rw[←hst];exact I.stack) lU he I.bk hen hd h1 h2 fun h' L=>?_;rw[←hst,hc] at L;obtain⟨u,ok⟩:=I.left hex hst lU L h0 h0 hHe hHe;obtain⟨T,tr,hT⟩:=L.yq;have hTs:X.s₀.heap.get? T=none:=by
  cases hq:X.s₀.heap.get? T with
  |none=>rfl
  |some o=>
   obtain⟨o',e'⟩:=I.base.there T o hq (by rw[hex];simp);rw[hT] at e';cases e'
 have hHT:H T=none:=by
  cases hq:H T with
  |none=>rfl
  |some o=>
   obtain⟨ob,e'⟩:=bV.there (I.bF T o hq);rw[hT] at e';cases e'
 exact⟨e,T,C,oe.dict,H,rfl,I.os,I.bare,u,ok,tr,⟨hHe,hHT⟩,hen,⟨h0,hTs⟩,q⟩
theorem RT{E:XK}(hex:X.ex=[])(hst:X.stack=X.env::X.outer)(lU:X.env.frame=some X.env.locals)
  (hxe:∀e s',ξ (model X.prog X.w) X.A (leaving X.env e) (fun _ s''=>fo X.prog X.w X.base X.outer X.H₀ X.s₀ E e s'') (fun e' s''=>fo X.prog X.w X.base X.outer X.H₀ X.s₀ E e' s'') s'->X.xe e s'):jY (fo X.prog X.w X.base) X E:=by
 intro pins σ H s ev s' I h;obtain⟨e,T,C,dx,H',rfl,os,bare,u,ok,tr,⟨hHe,hHT⟩,hen,⟨he0,hT0⟩,q⟩:=h;have I':Inv X pins σ H' s':=I.Co (ch:=[]) os u ok bare (fun b z=>absurd z (by simp));have s0:∀{b:ζ},s.heap.get? b=none->X.s₀.heap.get? b=none:=fun {b} hb=>by
  cases hq:X.s₀.heap.get? b with
  |none=>rfl
  |some o=>
   obtain⟨o',e'⟩:=I.base.there b o hq (by rw[hex];simp);rw[hb] at e';cases e'
 refine hxe _ _ (RU (base:=X.base) (by rw[I.ok.frames,hst]) (by rw[←hst];exact I'.stack) lU tr I'.bk hen fun h' L=>?_);rw[←hst] at L;obtain⟨u',ok'⟩:=I'.left hex hst lU L (s0 he0) (s0 hT0) hHe hHT;obtain⟨T',tr',hT'⟩:=L.yq;have hTs:X.s₀.heap.get? T'=none:=by
  cases hq:X.s₀.heap.get? T' with
  |none=>rfl
  |some o=>
   obtain⟨o',e'⟩:=I'.base.there T' o hq (by rw[hex];simp);rw[hT'] at e';cases e'
 have hHT':H' T'=none:=by
  cases hq:H' T' with
  |none=>rfl
  |some o=>
   obtain⟨ob,e'⟩:=bV.there (I'.bF T' o hq);rw[hT'] at e';cases e'
 exact⟨e,T',C,dx,H',rfl,I'.os,I'.bare,u',ok',tr',⟨hHe,hHT'⟩,hen,⟨s0 he0,hTs⟩,q⟩
theorem RQ{P:Ω}{w:ah}{K:θ}{mg:ν->Option ε}{base:Ψ}{N:List ν}{qual:ν}{scope:eS}{f:ζ}{cd:ε}{A:aE}{outer:List cK}{s:η}{H:Hp}{E:XK}:
  jY (fo P w base) (ia (fo P w base) P w K mg base N qual scope f cd A outer s H E) E:=RT rfl rfl rfl fun e s' h=>h
theorem ze{P:Ω}{w:ah}{K:θ}{mg:ν->Option ε}{base:Ψ}{N:List ν}{qual:ν}{scope:eS}{f:ζ}{cd:ε}{A:aE}{outer:List cK}{s:η}{H:Hp}{E:XK}:
  g9 (model P w) (ia (fo P w base) P w K mg base N qual scope f cd A outer s H E).A (ia (fo P w base) P w K mg base N qual scope f cd A outer s H E).env (ia (fo P w base) P w K mg base N qual scope f cd A outer s H E).xe:=g9.leaving
end
end L2
namespace L2
open PySem PySem.Spec PyProof.Rows
structure Body(X:Cx)(E:XK):Prop where
 ex:X.ex=[]
 st:X.stack=X.env::X.outer
 fr:X.env.frame=some X.env.locals
 xe:∀e s',ξ (model X.prog X.w) X.A (leaving X.env e) (fun _ s''=>fo X.prog X.w X.base X.outer X.H₀ X.s₀ E e s'') (fun e' s''=>fo X.prog X.w X.base X.outer X.H₀ X.s₀ E e' s'') s'->X.xe e s'
theorem RP{P:Ω}{w:ah}{K:θ}{mg:ν->Option ε}{base:Ψ}{N:List ν}{qual:ν}{scope:eS}{f:ζ}{cd:ε}{A:aE}{outer:List cK}{s:η}{H:Hp}{E:XK}:
  Body (ia (fo P w base) P w K mg base N qual scope f cd A outer s H E) E:=⟨rfl,rfl,rfl,fun _ _ h=>h⟩
section
variable {X:Cx} {E:XK}
theorem Body.throw(B:Body X E){pins:List (ζ×aP)}{σ:St}{H:Hp}{s:η}{e C:ζ}{oe:aP}{vs:Array ε}(I:Inv X pins σ H s)(he:s.heap.get? e=some oe)(hc:oe.cls=.ref C)(hd:oe.data=.fields vs)(h1:vs[1]?=some .none)(h2:vs[2]?=some .none)
  (h0:X.s₀.heap.get? e=none) (hHe:H e=none) (q:E (.ref C) oe.dict H):X.xe (.ref e) s:=B.xe _ _ (I.fly B.ex B.st B.fr he hc hd h1 h2 h0 hHe q)
theorem K9{pins:List (ζ×aP)}{σ:St}{H:Hp}{s:η}(I:Inv X pins σ H s){e:ζ}(h:s.heap.get? e=none):H e=none:=by
 cases hq:H e with
 |none=>rfl
 |some o=>
  obtain⟨ob,e'⟩:=bV.there (I.bF e o hq);rw[h] at e';cases e'
theorem K8{pins:List (ζ×aP)}{σ:St}{H:Hp}{s:η}(B:Body X E)(I:Inv X pins σ H s){e:ζ}(h:s.heap.get? e=none):X.s₀.heap.get? e=none:=by
 cases hq:X.s₀.heap.get? e with
 |none=>rfl
 |some o=>
  obtain⟨o',e'⟩:=I.base.there e o hq (by rw[B.ex];simp);rw[h] at e';cases e'
end
end L2
namespace L3
open PySem PySem.Spec PyProof.Rows L2
def eZ:HO->Bool
 |.tup _=>true
 |.cT _ (.lst _)=>true
 |.cT _ (.tup _)=>true
 |.cT _ (.xd _)=>true
 |.cT _ (.ext _)=>true
 |_=>false
def hide(H:Hp):Hp:=fun a=>match H a with
 |some o=>if eZ o then some o else none
 |none=>none
def joined(H H':Hp):Hp:=fun a=>match H a with
 |some o=>if eZ o then H' a else some o
 |none=>H' a
section
variable {P:Ω} {w:ah} {H H':Hp} {h h':Ψ} {a b:ζ} {o:HO} {fs:List ζ}
theorem vA(e:H a=none):hide H a=none:=by simp[hide,e]
theorem qO(e:H a=some o)(v:eZ o=true):hide H a=some o:=by simp[hide,e,v]
theorem Eg(e:H a=some o)(v:eZ o=false):hide H a=none:=by simp[hide,e,v]
theorem Ef(e:hide H a=some o):H a=some o/\eZ o=true:=by
 unfold hide at e;cases q:H a with
 |none=>simp[q] at e
 |some u=>
  simp only[q] at e;cases v:eZ u with
  |true=>
   rw[v,if_pos rfl] at e;cases e;exact⟨rfl,v⟩
  |false=>
   rw[v] at e;simp at e
theorem qN(e:H a=none):joined H H' a=H' a:=by simp[joined,e]
theorem rY(e:H a=some o)(v:eZ o=true):joined H H' a=H' a:=by simp[joined,e,v]
theorem lN(e:H a=some o)(v:eZ o=false):joined H H' a=some o:=by simp[joined,e,v]
theorem K7{H2:Hp}(v:eZ o=true)(x:bV P w H h a o):bV P w H2 h a o:=by
 cases o with
 |tup xs=>obtain⟨z,its,r,p⟩:=x;exact⟨z,its,r,p⟩
 |cT ob u=>
  cases u with
  |lst xs=>obtain⟨e,z,its,n,r,p⟩:=x;exact⟨e,z,its,n,r,p⟩
  |tup xs=>obtain⟨e,z,its,r,p⟩:=x;exact⟨e,z,its,r,p⟩
  |xd fs=>obtain⟨e,mA,r,p⟩:=x;exact⟨e,mA,r,p⟩
  |ext φ=>exact x
  |_=>cases v
 |_=>cases v
theorem K6(ok:dZ P w H h):dZ P w (hide H) h:=fun a o e=>by
 obtain⟨e1,v⟩:=Ef e;exact K7 v (ok a o e1)
variable (ok:dZ P w H h) (hfs:∀b∈fs,H b=none) (u:Un fs [] (hide H) H' h h') (ok':dZ P w H' h')
include ok u
theorem K5(e:H b=some o)(v:eZ o=false):H' b=none:=by
 obtain⟨ob,q⟩:=bV.there (ok b o e);exact u.free b ob q (Eg e v) (by simp)
theorem t4(e:H' b=some o):joined H H' b=some o:=by
 cases q:H b with
 |none=>rw[qN q];exact e
 |some x=>
  cases v:eZ x with
  |true=>rw[rY q v];exact e
  |false=>
   rw[K5 ok u q v] at e;cases e
include hfs ok'
theorem AJ:Un fs [] H (joined H H') h h'/\dZ P w (joined H H') h':=by
 have kept:∀b x ob,H b=some x->eZ x=false->h.get? b=some ob->h'.get? b=some ob:=fun b x ob e v q=>
  u.keep b ob q (Eg e v) (fun z=>by rw[hfs b z] at e;cases e) (by simp)
 refine⟨⟨fun b ob q n h3 h4=>u.keep b ob q (vA n) h3 h4,fun b ob q n h3 h4=>u.slot b ob q (vA n) h3 h4,fun b ob q n h3=>by rw[qN n];exact u.free b ob q (vA n) h3,
  fun b ob q h3=>u.there b ob q h3,fun b xs e=>t4 ok u (u.iD b xs (qO e rfl)),fun b ob x e=>?_,fun b ps e=>⟨#[],by rw[uG];exact lN e rfl⟩⟩,fun b x e=>?_⟩
 ·cases v:eZ (.cT ob x) with
  |true=>exact t4 ok u (u.iH b ob x (qO e v))
  |false=>exact lN e v
 ·have mono:H' b=some x->bV P w (joined H H') h' b x:=fun z=>(ok' b x z).lg (fun _ _ _ q=>q) (fun c q=>t4 ok u q) (fun c xs q=>t4 ok u q);cases q:H b with
  |none=>
   rw[qN q] at e;exact mono e
  |some y=>
   cases v:eZ y with
   |true=>
    rw[rY q v] at e;exact mono e
   |false=>
    rw[lN q v] at e;obtain rfl:=aD e;refine (ok b _ q).lg (fun c ob hc z=>?_) (fun c z=>lN z rfl) (fun c xs z=>t4 ok u (u.iD c xs (qO z rfl)));rcases hc with rfl|hc
    ·exact kept _ _ _ q v z
    ·exact kept _ _ _ hc rfl z
end
section
variable {K:θ} {H:Hp}
theorem cC.ou{a:ζ}{xs:List V}(h:cC K H a xs):cC K (hide H) a xs:=by
 rcases h with (h|⟨o,h⟩)|h
 ·exact .inl (.inl (qO h rfl))
 ·exact .inl (.inr ⟨o,qO h rfl⟩)
 ·exact .inr h
theorem lD.ou{a:ζ}{xs:List V}(h:lD K H a xs):lD K (hide H) a xs:=by
 rcases h with⟨o,h⟩|h
 ·exact .inl ⟨o,qO h rfl⟩
 ·exact .inr h
mutual
theorem Hv.ou:∀{d:D} {v:V},Hv K H d v->Hv K (hide H) d v
 |.aC,_,h=>by simpa [Hv] using h
 |.bl _,_,h=>by simpa [Hv] using h
 |.int _,_,h=>by simpa [Hv] using h
 |.str _,_,h=>by simpa [Hv] using h
 |.obj _,_,h=>by simpa [Hv] using h
 |.dc a,v,h=>by
  unfold Hv at h ⊢;obtain⟨e,ob,φ,q,c⟩:=h;exact⟨e,ob,φ,qO q rfl,c⟩
 |.tup ds,v,h=>by
  unfold Hv at h ⊢;obtain⟨a,vs,e,q,r⟩:=h;exact⟨a,vs,e,cC.ou q,aF.ou r⟩
 |.dW ds,v,h=>by
  unfold Hv at h ⊢;obtain⟨a,vs,e,q,r⟩:=h;exact⟨a,vs,e,lD.ou q,aF.ou r⟩
theorem aF.ou:∀{ds:List D} {vs:List V},aF K H ds vs->aF K (hide H) ds vs
 |[],_,h=>by simpa [aF] using h
 |d::ds,vs,h=>by
  unfold aF at h ⊢;obtain⟨v,r,e,q,z⟩:=h;exact⟨v,r,e,Hv.ou q,aF.ou z⟩
end
end
abbrev eW:Gp:=fun _=>none
def both(G1 G':Gp):Gp:=fun a=>match G1 a with
 |some o=>some o
 |none=>G' a
abbrev E3:=ν->List (ν×Int)->Prop
def dI(K:θ)(x:ν)(C:ζ):Prop:=bB K aT x=some (some (.ref C))
def uv(H:Hp)(dx:Option ζ)(fs:List (ν×Int)):Prop:=(dx=none/\fs=[])∨∃d o,dx=some d/\H d=some (.cT o (.xd (fs.map fun p=>(p.1,V.int p.2))))
def iU(K:θ)(E:E3):XK:=fun cls dx H=>∃x C fs,cls=.ref C/\dI K x C/\E x fs/\uv H dx fs
abbrev nB:=List D->V3->E3->Prop
def Fk(K:θ)(sp:nB):Sp:=fun vs H Q E=>∃ds Q3 E',aF K H ds vs/\(∀a o,H a=some o->eZ o=true)/\sp ds Q3 E'/\(∀v H' d G',Hv K H' d v->Step H eW H' G'->aJ K G' H'->Q3 d G'->Q v H')/\∀cls dx H',iU K E' cls dx H'->E cls dx H'
abbrev pK(P:Ω)(w:ah)(K:θ)(mg:ν->Option ε)(base:Ψ)(k:Nat)(f:ζ)(fd:ag)(ps:List ν)(sp:nB):Prop:=jx P w K mg base (fo P w base) k f fd ps (Fk K sp)
structure Joins(G1 G' G2:Gp):Prop where
 old:Sub G1 G2
 new:Sub G' G2
 out:∀a,G' a≠none->G1 a=none
theorem Joins.eD{G1 G' G2:Gp}(j:Joins G1 G' G2){p:ζ}{o:GO}(h:G' p=some o):eD G1 p o G2:=⟨j.out p (by rw[h];simp),j.old,j.new p o h⟩
def rA(sp:nB)(E:E3)(t:cM):aU:=fun τ G Q=>t τ G fun ds G1=>sp ds (fun d G'=>∀G2,Joins G1 G' G2->Q d G2) E
section
variable {X:Cx} {k:Nat} {f:ζ} {fd:ag} {ps:List ν} {sp:nB} {E:E3} {x:ν} {p pos:aO} {e:ρ} {es:List ρ} {t:cM}
theorem Ee{K:θ}{P:Ω}{w:ah}{fs:List ζ}{H H':Hp}{h h':Ψ}{G1 G':Gp}{d:D}{v:V}(ok:dZ P w H h)(hfs:∀b∈fs,H b=none)(u:Un fs [] (hide H) H' h h')(ok':dZ P w H' h')
  (R1:aJ K G1 H) (hv:Hv K H' d v) (S:Step (hide H) eW H' G') (R':aJ K G' H'):
  Hv K (joined H H') d v/\Step H G1 (joined H H') (both G1 G')/\aJ K (both G1 G') (joined H H')/\Joins G1 G' (both G1 G'):=by
 have E2:Ext H' (joined H H'):=⟨fun b xs e=>t4 ok u e,fun b o x e=>t4 ok u e⟩;have E1:Ext H (joined H H'):=by
  obtain⟨u2,_⟩:=AJ ok hfs u ok';exact⟨u2.iD,u2.iH⟩
 have outG:∀a,G' a≠none->H a=none:=fun a n=>by
  have z:hide H a=none:=S.new a rfl n;cases q:H a with
  |none=>rfl
  |some o=>
   cases v:eZ o with
   |true=>rw[qO q v] at z;cases z
   |false=>
    have:=K5 ok u q v;cases q':G' a with
    |none=>exact absurd q' n
    |some g=>
     obtain⟨o',z',_⟩:=(R' a g q').mut;rw[this] at z';cases z'
 have out1:∀a,G' a≠none->G1 a=none:=fun a n=>R1.free (outG a n);refine⟨hv.ext E2,⟨fun a o e n=>?_,fun a n=>?_,fun a n q=>?_⟩,fun a g e=>?_,⟨fun a o e=>by simp[both,e],fun a o e=>by simp[both,out1 a (by rw[e];simp),e],out1⟩⟩
 ·cases v:eZ o with
  |true=>
   rw[rY e v];exact S.fr a o (qO e v) rfl
  |false=>exact lN e v
 ·cases q:H a with
  |none=>exact absurd q n
  |some o=>
   cases v:eZ o with
   |true=>
    rw[rY q v];exact S.nZ a (by rw[qO q v];simp)
   |false=>rw[lN q v];simp
 ·simp only[both,n] at q;exact outG a q
 ·cases q:G1 a with
  |some o=>
   simp only[both,q] at e;cases e;obtain⟨o',z,h1,h2⟩:=(R1 a g q).mut;have hv:eZ o'=false:=by
    cases o' with
    |tup xs=>exact absurd rfl (h1 xs)
    |cT ob y=>exact absurd rfl (h2 ob y)
    |_=>rfl
   exact (R1 a g q).ext E1 (by rw[lN z hv,z])
  |none=>
   simp only[both,q] at e;have hn:=outG a (by rw[e];simp);exact (R' a g e).ext E2 (by rw[qN hn])
theorem K4(G1:Gp):both G1 eW=G1:=by
 funext a;unfold both;cases G1 a<;>rfl
theorem RO{H H':Hp}{fs:List ζ}{h h':Ψ}(u:Un fs [] (hide H) H' h h'):Step (hide H) eW H' eW:=by
 have fr:∀a o,hide H a=some o->H' a=some o:=fun a o e=>by
  obtain⟨_,v⟩:=Ef e;cases o with
  |tup xs=>exact u.iD a xs e
  |cT ob y=>exact u.iH a ob y e
  |_=>cases v
 refine⟨fun a o e _=>fr a o e,fun a n=>?_,fun a _ q=>absurd rfl q⟩;cases q:hide H a with
 |none=>exact absurd q n
 |some o=>rw[fr a o q];simp
def wD(K:θ)(E:E3)(H:Hp)(G:Gp):XK:=fun cls dx H'=>iU K E cls dx H'/\aJ K G H'/\Step H G H' G
theorem fo.mono{P:Ω}{w:ah}{base:Ψ}{outer:List cK}{H:Hp}{s s':η}{E E':XK}{ev:ε}(h:fo P w base outer H s E ev s')(m:∀cls dx H',E cls dx H'->E' cls dx H'):fo P w base outer H s E' ev s':=by
 obtain⟨e,T,C,dx,H',a1,a2,a3,a4,a5,a6,a7,a8,a9,q⟩:=h;exact⟨e,T,C,dx,H',a1,a2,a3,a4,a5,a6,a7,a8,a9,m _ _ _ q⟩
theorem fo.ou{P:Ω}{w:ah}{K:θ}{base:Ψ}{outer:List cK}{H:Hp}{s s':η}{G1:Gp}{ev:ε}(ok:dZ P w H s.heap)(hfs:∀b∈fD outer,H b=none)(R1:aJ K G1 H)(h:fo P w base outer (hide H) s (iU K E) ev s'):
  fo P w base outer H s (wD K E H G1) ev s':=by
 obtain⟨e,T,C,dx,H',rfl,os,bare,u,ok',tr,⟨hHe,hHT⟩,hen,⟨he0,hT0⟩,x,C',fs,ec,cn,q,dd⟩:=h;obtain⟨u2,ok2⟩:=AJ ok hfs u ok';obtain⟨_,z2,z3,_⟩:=Ee (G':=eW) (d:=.aC) (v:=.aC) ok hfs u ok' R1 (by simp[Hv]) (RO u) (fun _ _ e=>nomatch e);rw[K4] at z2 z3;have out:∀b,s.heap.get? b=none->H' b=none->joined H H' b=none:=fun b hb hn=>by
  cases hq:H b with
  |none=>rw[qN hq];exact hn
  |some o=>
   obtain⟨ob,e'⟩:=bV.there (ok b o hq);rw[hb] at e';cases e'
 refine⟨e,T,C,dx,joined H H',rfl,os,bare,u2,ok2,tr,⟨out _ he0 hHe,out _ hT0 hHT⟩,hen,⟨he0,hT0⟩,⟨x,C',fs,ec,cn,q,?_⟩,z3,z2⟩;rcases dd with⟨d1,d2⟩|⟨d,o,d1,d2⟩
 ·exact .inl ⟨d1,d2⟩
 ·exact .inr ⟨d,o,d1,t4 ok u d2⟩
theorem Kj{pins:List (ζ×aP)}{σ:L2.St}{H:Hp}{s:η}{Q:VK}{G1:Gp}{Q3:V3}{ds:List D}{us:List ε}{vs:List V}{XE:ε->η->Prop}(F:pK X.prog X.w X.K X.mg X.base k f fd ps sp)(hr:dH k X.A)(hb:Binds X.K fd ps [])
  (hx:∀ev s',fo X.prog X.w X.base X.stack H s (wD X.K E H G1) ev s'->XE ev s')
  (I:Inv X pins σ H s) (r:bp vs us) (hd:aF X.K H ds vs) (R1:aJ X.K G1 H) (h:sp ds (fun d G'=>∀G2,Joins G1 G' G2->Q3 d G2) E) (kk:∀v H' d G',Hv X.K H' d v->Step H G1 H' G'->aJ X.K G' H'->Q3 d G'->Q v H'):
  ξ (model X.prog X.w) X.A (call (.ref f) us) (EP X pins σ Q) XE s:=by
 have hq:Fk X.K sp vs (hide H) (fun v H'=>∃d G',Hv X.K H' d v/\Step (hide H) eW H' G'/\aJ X.K G' H'/\∀G2,Joins G1 G' G2->Q3 d G2) (iU X.K E):=
  ⟨ds,_,E,hd.ou,fun a o e=>(Ef e).2,h,fun v H' d G' a b c q=>⟨d,G',a,b,c,q⟩,fun _ _ _ z=>z⟩
 have hl:(us++[]).length=ps.length:=by rw[bh,←r.length];exact F.len _ _ _ _ hq
 have e0:pM X.prog X.w X.K X.mg X.base X.A X.stack s (hide H):=⟨I.ok.frames,I.ok.mod,fun b o e=>⟨(I.bs b o e).1,vA (I.bs b o e).2⟩,aA I.ok.qt I.sz,I.stack,fun b hb=>vA (I.fw b hb),K6 I.bF,I.bare⟩;have hb':=hb s us I.gk hl;rw[bh] at hb';refine fZ (ed (F.run X.A X.stack s (hide H) ⟨us,[]⟩ us vs _ (iU X.K E) hr e0 hb' r hq) fun r s' hq'=>?_);cases r with
 |error e=>exact hx e s' (fo.ou I.bF I.fw R1 hq')
 |ok fl=>
  cases fl with
  |ret u=>
   obtain⟨v,H',os,bare,un,bF,rv,d,G',a,b,c,q⟩:=hq';obtain⟨un2,ok2⟩:=AJ I.bF I.fw un bF;obtain⟨z1,z2,z3,z4⟩:=Ee I.bF I.fw un bF R1 a b c;exact I.after ⟨v,joined H H',os,bare,un2,ok2,rv,kk v _ d _ z1 z2 z3 (q _ z4)⟩
  |next=>exact br hq'
  |brk=>exact br hq'
  |cont=>exact br hq'
theorem Sy(F:pK X.prog X.w X.K X.mg X.base k f fd ps sp)(hr:dH k X.A)(hx:jY (fo X.prog X.w X.base) X (iU X.K E))(hm:X.mg x=some (.ref f))(hk:bD X.K (.ref f)=true)(hb:Binds X.K fd ps [])(ha:jc X (e::es) t)(hg:Gl X x:=by rfl)
  (hdb:(x==("__debug__":ν))=false:=by decide) (he:notStar e=true:=by rfl) (hpl:es.all notStar=true:=by rfl):
  bT X (.Call (.Name x p) (e::es) [] pos) (rA sp E t):=by
 intro pins s σ H Q I ⟨τ,G,Q3,RS,RG,h,kk⟩;refine cG (qK I hg hm ?_ hdb);refine er (h₀:=X.base) I.ok.mod.pH hk (bJ (ha pos pins s σ H (fun vs H1=>∃ds G1,aF X.K H1 ds vs/\Step H G H1 G1/\aJ X.K G1 H1/\sp ds (fun d G'=>∀G2,Joins G1 G' G2->Q3 d G2) E) I
  ⟨τ,G,_,RS,RG,h,fun vs H1 ds G1 a b c q=>⟨ds,G1,a,b,c,q⟩⟩) fun us s1 ⟨vs,H1,I1,r,ds,G1,hd,S1,R1,q⟩=>⟨I1.gk,?_⟩) (eB he) (kD hpl)
 exact Kj F hr hb (fun ev s' h=>hx pins σ H1 s1 ev s' I1 (fo.mono h fun _ _ _ z=>z.1)) I1 r hd R1 q fun v H' d G' a b c q=>kk v H' d G' a (S1.trans b) c q
end
section
variable {P:Ω} {w:ah} {K:θ} {mg:ν->Option ε} {base:Ψ}
theorem fnX{x qual:ν}{st:aQ}{f:ζ}{fd:ag}{N ps:List ν}{k:Nat}{sp:nB}(F:dQ K x qual st f fd)(S:bz N ps (ω st))(hN:ps.length≤N.length)(len:∀ds Q E,sp ds Q E->ds.length=ps.length)(tb:E3->az)
  (fk:∀(cdv:ε) (A:aE) (outer:List cK) (s:η) (H:Hp) (E:XK) (E':E3),dH k (A.deeper (envOfC qual (ω st) s.heap.objs.size f cdv))->(∀cls dx H',iU K E' cls dx H'->E cls dx H') ->
   jZ (ia (fo P w base) P w K mg base N qual (ω st) f cdv A outer s H E) (eE st) (tb E'))
  (oq:∀ds Q E,sp ds Q E->tb E (bf Q) (bc N ds) eW):pK P w K mg base (k+1) f fd ps sp:=by
 obtain⟨oc,od,kV,doc,pm,an,cdv,ct,osl,rfl,lk,iq⟩:=F.ex;refine LG lk iq S (fun vs H Q E h=>?_) (fun A outer s H vs Q E hr h=>?_)
 ·obtain⟨ds,Q3,E',h1,_,h3,_⟩:=h;rw[←h1.length];exact len _ _ _ h3
 ·obtain⟨ds,Q3,E',h1,h2,h3,h4,h5⟩:=h;refine⟨_,fk cdv A outer s H E E' hr h5,bc N ds,eW,bf Q3,.start h1 ?_,(fun _ _ e=>nomatch e),oq _ _ _ h3,⟨?_,?_,?_,?_⟩⟩
  ·rw[←h1.length,len _ _ _ h3];exact hN
  ·exact fun τ σ G' H' a b c ⟨G0,s0,q⟩=>h4 _ H' .aC G0 (by simp[Hv]) (b.trans (.sub s0)) (c.sub s0) q
  ·exact fun τ σ G' H' a b c q=>q.elim
  ·exact fun τ σ G' H' a b c q=>q.elim
  ·exact fun d v G' H' a b c ⟨G0,s0,q⟩=>h4 _ H' d G0 a (b.trans (.sub s0)) (c.sub s0) q
end
theorem yd{P:Ω}{w:ah}{K:θ}{mg:ν->Option ε}{base:Ψ}{N:List ν}{qual:ν}{scope:eS}{f:ζ}{cd:ε}{A:aE}{outer:List cK}{s:η}{H:Hp}{E:XK}{E':E3}(h:∀cls dx H',iU K E' cls dx H'->E cls dx H'):
  jY (fo P w base) (ia (fo P w base) P w K mg base N qual scope f cd A outer s H E) (iU K E'):=fun pins σ H1 s1 ev s' I q=>RQ pins σ H1 s1 ev s' I (fo.mono q h)
end L3
namespace L2
open PySem PySem.Spec PyProof.Rows
structure df(k:Nat)(A:aE):Prop where
 dp:A.depth+3*k+5<recursionLimit
 un:A.units+16*k+200<cLine
theorem df.mono{j k:Nat}{A:aE}(r:df k A)(h:j≤k):df j A:=⟨by have:=r.dp;lia,by have:=r.un;lia⟩
theorem df.deeper{k:Nat}{A:aE}(r:df (k+1) A)(env:cK):df k (A.deeper env):=
 ⟨by have:=r.dp;show A.depth+1+3*k+5<_;lia,by have:=r.un;show A.units+3+16*k+200<_;lia⟩
theorem df.depth{k:Nat}{A:aE}(r:df k A):A.depth<recursionLimit:=by have:=r.dp;lia
theorem df.units{k:Nat}{A:aE}(r:df k A):A.units+64<cLine:=by have:=r.un;lia
theorem df.mark{k:Nat}{A:aE}{v:Option ε}(r:df k A):df k (A.mark v):=⟨r.dp,r.un⟩
theorem dH.h{k:Nat}{A:aE}(r:dH k A):df k A:=⟨r.dp,r.un⟩
structure oP(P:Ω)(w:ah)(K:θ)(mg:ν->Option ε)(base:Ψ)(k:Nat)(f:ζ)(fd:ag)(ps:List ν)(sp:Sp):Prop where
 len:∀vs H Q E,sp vs H Q E->vs.length=ps.length
 run:∀(A:aE) (outer:List cK) (s:η) (H:Hp) (args:Args) (us:List ε) (vs:List V) (Q:VK) (E:XK),df k A->pM P w K mg base A outer s H->mY s fd args (ps.zip us)->bp vs us->sp vs H Q E ->
  fA (model P w) A (.call (.ref f) args) (CR oA outer P w H s Q E) s
section
variable {P:Ω} {w:ah} {K:θ} {mg:ν->Option ε} {base:Ψ} {j k:Nat} {f:ζ} {fd:ag} {ps:List ν} {sp:Sp}
theorem oP.calm(F:oP P w K mg base k f fd ps sp):jx P w K mg base oA k f fd ps sp:=⟨F.len,fun A outer s H args us vs Q E hr=>F.run A outer s H args us vs Q E hr.h⟩
theorem oP.mono(F:oP P w K mg base j f fd ps sp)(h:j≤k):oP P w K mg base k f fd ps sp:=⟨F.len,fun A outer s H args us vs Q E hr=>F.run A outer s H args us vs Q E (hr.mono h)⟩
end
def Aa(P:Ω)(w:ah)(K:θ)(mg:ν->Option ε)(base:Ψ)(N:List ν)(qual:ν)(scope:eS)(f:ζ)(cd:ε)(A:aE)(outer:List cK)(s:η)(H:Hp)(E:XK):Cx:=
 { ia oA P w K mg base N qual scope f cd A outer s H E with calm:=false,xe:=fun _ _=>False }
section
variable {P:Ω} {w:ah} {K:θ} {mg:ν->Option ε} {base:Ψ} {N:List ν} {qual:ν} {scope:eS} {f:ζ} {cd:ε} {A:aE} {outer:List cK} {s s1:η} {H H1:Hp} {E:XK} {pins:List (ζ×aP)} {σ:St}
theorem Inv.loud(I:Inv (ia oA P w K mg base N qual scope f cd { A with handled:=none } outer s H E) pins σ H1 s1)(hf:A.frames=some outer):Inv (Aa P w K mg base N qual scope f cd A outer s H E) pins σ H1 s1:=by
 obtain⟨ok,a1,a2,a3,a4,a5,a6,a7,a8,a9,a10⟩:=I;obtain⟨o1,o2,o3,o4,o5,o6,o7,o8,_,_,o11,o12,o13,o14,o15,o16,o17,o18⟩:=ok;exact⟨⟨o1,o2,o3,o4,o5,o6,o7,o8,(fun z=>nomatch z),sS hf,o11,o12,o13,o14,o15,o16,o17,o18⟩,a1,a2,a3,a4,a5,a6,a7,a8,a9,a10⟩
end
theorem Sx{P:Ω}{w:ah}{K:θ}{mg:ν->Option ε}{base:Ψ}{k:Nat}{x qual:ν}{st:aQ}{f:ζ}{fd:ag}{N ps:List ν}{sp:Sp}(F:dQ K x qual st f fd)(S:bz N ps (ω st))(len:∀vs H Q E,sp vs H Q E->vs.length=ps.length)
  (fk:∀(cdv:ε) (A:aE) (outer:List cK) (s:η) (H:Hp) (vs:List V) (Q:VK) (E:XK),df k (A.deeper (envOfC qual (ω st) s.heap.objs.size f cdv))->sp vs H Q E ->
   ∃t,ma (Aa P w K mg base N qual (ω st) f cdv A outer s H E) (eE st) t/\t { nx:=fun _ H'=>Q .aC H',rt:=Q } (start N vs) H):
  oP P w K mg base (k+1) f fd ps sp:=by
 obtain⟨oc,od,kV,doc,pm,an,cdv,ct,osl,rfl,lk,iq⟩:=F.ex;refine⟨len,fun A outer s H args us vs Q E hr e0 hb r qm=>?_⟩;have hl:=len _ _ _ _ qm;have KX:K.In s.heap:=e0.mod.pH.keeps fun b o e=>(e0.bs b o e).1;have lim:s.heap.NoLimit:=e0.mod.nolimit.keeps fun b o e=>(e0.bs b o e).1;have hkind:∀y∈ps.zip us,(ω st).names.lookup y.1=some .local∨((ω st).names.lookup y.1=some .cell/\((cellsFrom (s.heap.objs.size+1) (ω st).names []).lookup y.1).isSome=true):=fun⟨n,v⟩ hy=>by
  rcases S.par n (fu hy).1 with q|q
  ·exact .inl q
  ·exact .inr ⟨q,ig _ _ _ (.inl q)⟩
 refine iJ hr.depth (KX _ _ lk) rfl S.co S.gen rfl (j6 KX iq) (hb _ _ _ _ ?_);refine gu S.kind hkind fun env he s1 x=>?_;subst he;refine⟨lim.keeps x.toInCall.keep,pQ ?_⟩;obtain⟨t,ht,hq⟩:=fk cdv A outer s H vs Q E (hr.deeper _) qm;have e1:pM P w K mg base { A with handled:=none } outer s H:=⟨e0.frames,e0.mod,e0.bs,e0.qt,e0.ll,e0.wF,e0.bF,e0.bare⟩;have I0:Inv (ia oA P w K mg base N qual (ω st) f cdv { A with handled:=none } outer s H E) [] (start N vs) H s1:=EV S rfl e1 hl r x;have I:=I0.loud (A:=A) e0.frames;refine cb (ht [] s1 (start N vs) H _ I hq) (fun fl s' hs=>?_) fun e s' hs=>hs.elim;have fin:∀{σ':St} {H':Hp} {v:V} {u:ε},Inv (Aa P w K mg base N qual (ω st) f cdv A outer s H E) [] σ' H' s'->RelV v u->Q v H'->CE outer P w H s Q u s':=
  fun {σ' H' v u} J rv q=>⟨v,H',J.os,J.bare,J.base,J.bF,rv,q⟩
 cases fl with
 |ret u=>
  obtain⟨v,σ',H',J,rv,q⟩:=hs;exact fin J rv q
 |next=>
  obtain⟨σ',H',J,q⟩:=hs;exact fin (v:=V.aC) (u:=aS) J rfl q
 |brk=>
  obtain⟨_,_,_,q⟩:=hs;exact br q
 |cont=>
  obtain⟨_,_,_,q⟩:=hs;exact br q
section
variable {X:Cx} {k:Nat} {f:ζ} {fd:ag} {ps:List ν} {sp:Sp} {E:XK} {x:ν} {p pos:aO} {e:ρ} {es:List ρ} {t:TA}
theorem Sw{pins:List (ζ×aP)}{σ:St}{H:Hp}{s:η}{Q:VK}{us:List ε}{vs:List V}(F:oP X.prog X.w X.K X.mg X.base k f fd ps sp)(hr:df k X.A)(hb:Binds X.K fd ps [])
  (I:Inv X pins σ H s) (r:bp vs us) (h:sp vs H Q E):ξ (model X.prog X.w) X.A (call (.ref f) us) (EP X pins σ Q) X.xe s:=by
 have hl:(us++[]).length=ps.length:=by rw[bh,←r.length];exact F.len _ _ _ _ h
 have hb':=hb s us I.gk hl;rw[bh] at hb';refine fZ (ed (F.run X.A X.stack s H ⟨us,[]⟩ us vs Q E hr I.FC hb' r h) fun r s' hq=>?_);cases r with
 |error e=>exact br hq
 |ok fl=>
  cases fl with
  |ret u=>exact I.after hq
  |next=>exact br hq
  |brk=>exact br hq
  |cont=>exact br hq
theorem Sv(F:oP X.prog X.w X.K X.mg X.base k f fd ps sp)(hr:df k X.A)(hg:Gl X x)(hm:X.mg x=some (.ref f))(hk:bD X.K (.ref f)=true)(hb:Binds X.K fd ps [])
  (ha:PA X (e::es) t) (hdb:(x==("__debug__":ν))=false:=by decide) (he:bM (e::es) X.env=(false,eval e X.env)::bM es X.env:=by rfl) (hpl:(backTo pos (bM es X.env)).any (·.1)=false:=by rfl):
  PE X (.Call (.Name x p) (e::es) [] pos) (xZ sp [] E t):=by
 intro pins s σ H Q I h;refine cG (qK I hg hm ?_ hdb);refine er (h₀:=X.base) I.ok.mod.pH hk (bJ (ha pos pins s σ H _ I h) fun us s1 ⟨vs,H1,I1,r,q⟩=>⟨I1.gk,?_⟩) he hpl;have q':sp (vs++[]) H1 Q E:=q;rw[bh] at q';exact Sw F hr hb I1 r q'
end
end L2
namespace L3
open PySem PySem.Spec PyProof.Rows L2
abbrev v9(P:Ω)(w:ah)(K:θ)(mg:ν->Option ε)(base:Ψ)(k:Nat)(f:ζ)(fd:ag)(ps:List ν)(sp:dJ):Prop:=oP P w K mg base k f fd ps (kW K sp)
theorem Su{X:Cx}{k:Nat}{f:ζ}{fd:ag}{ps:List ν}{sp:dJ}{x:ν}{p pos:aO}{e:ρ}{es:List ρ}{t:cM}(F:v9 X.prog X.w X.K X.mg X.base k f fd ps sp)(hr:df k X.A)(hm:X.mg x=some (.ref f))(hk:bD X.K (.ref f)=true)(hb:Binds X.K fd ps [])(ha:jc X (e::es) t)(hg:Gl X x:=by rfl)
  (hdb:(x==("__debug__":ν))=false:=by decide) (he:notStar e=true:=by rfl) (hpl:es.all notStar=true:=by rfl):
  bT X (.Call (.Name x p) (e::es) [] pos) (bA sp t):=jS (Sv (E:=E0) F hr hg hm hk hb ha hdb (eB he) (kD hpl)) fun σ H Q h=>EN h
theorem aau{P:Ω}{w:ah}{K:θ}{mg:ν->Option ε}{base:Ψ}{x qual:ν}{st:aQ}{f:ζ}{fd:ag}{N ps:List ν}{k:Nat}{sp:dJ}(F:dQ K x qual st f fd)(S:bz N ps (ω st))(hN:ps.length≤N.length)(len:∀ds G Q,sp ds G Q->ds.length=ps.length)(tb:az)
  (fk:∀(cdv:ε) (A:aE) (outer:List cK) (s:η) (H:Hp) (E:XK),df k (A.deeper (envOfC qual (ω st) s.heap.objs.size f cdv)) ->
   jZ (Aa P w K mg base N qual (ω st) f cdv A outer s H E) (eE st) tb)
  (oq:∀ds G Q,sp ds G Q->tb (bf Q) (bc N ds) G):v9 P w K mg base (k+1) f fd ps sp:=by
 refine Sx F S (fun vs H Q E h=>?_) (fun cdv A outer s H vs Q E hr h=>?_)
 ·obtain⟨ds,G,Q3,h1,h2,h3,h4⟩:=h;rw[←h1.length];exact len _ _ _ h3
 ·obtain⟨ds,G,Q3,h1,h2,h3,h4⟩:=h;refine⟨_,fk cdv A outer s H E hr,bc N ds,G,bf Q3,.start h1 ?_,h2,oq _ _ _ h3,⟨?_,?_,?_,?_⟩⟩
  ·rw[←h1.length,len _ _ _ h3];exact hN
  ·exact fun τ σ G' H' a b c ⟨G0,s0,q⟩=>h4 _ H' .aC G0 (by simp[Hv]) (b.trans (.sub s0)) (c.sub s0) q
  ·exact fun τ σ G' H' a b c q=>q.elim
  ·exact fun τ σ G' H' a b c q=>q.elim
  ·exact fun d v G' H' a b c ⟨G0,s0,q⟩=>h4 _ H' d G0 a (b.trans (.sub s0)) (c.sub s0) q
end L3
namespace L3
open PySem PySem.Spec PyProof.Rows L2
abbrev Ad:=S3->Gp->E3
abbrev Ae:=Ad->aU
abbrev sW:=Ad->az
def wM(X:Cx)(pins:List (ζ×aP))(H:Hp)(G:Gp)(KX:Ad)(XE:ε->η->Prop):Prop:=
 ∀(σ1:L2.St) (τ1:S3) (H1:Hp) (s1:η) (G1:Gp) (ev:ε) (s':η),Inv X pins σ1 H1 s1->dB X.K τ1 σ1 H1->aJ X.K G1 H1->Step H G H1 G1->fo X.prog X.w X.base X.stack H1 s1 (wD X.K (KX τ1 G1) H1 G1) ev s'->XE ev s'
theorem wM.step{X:Cx}{pins:List (ζ×aP)}{H H1:Hp}{G G1:Gp}{KX:Ad}{XE:ε->η->Prop}(x:wM X pins H G KX XE)(S:Step H G H1 G1):wM X pins H1 G1 KX XE:=
 fun σ1 τ1 H2 s2 G2 ev s' a b c d e=>x σ1 τ1 H2 s2 G2 ev s' a b c (S.trans d) e
def ML(X:Cx)(e:ρ)(t:Ae):Prop:=
 ∀(pins:List (ζ×aP)) (s:η) (σ:L2.St) (H:Hp) (Q:VK) (XE:ε->η->Prop) (τ:S3) (G:Gp) (Q3:V3) (KX:Ad),Inv X pins σ H s->dB X.K τ σ H->aJ X.K G H->t KX τ G Q3 ->
  (∀v H' d G',Hv X.K H' d v->Step H G H' G'->aJ X.K G' H'->Q3 d G'->Q v H')->wM X pins H G KX XE->ξ (model X.prog X.w) X.A (eval e X.env) (EP X pins σ Q) XE s
def wJ(X:Cx)(st:List aQ)(t:sW):Prop:=
 ∀(pins:List (ζ×aP)) (s:η) (σ:L2.St) (H:Hp) (D2:Ends) (XE:ε->η->Prop) (τ:S3) (G:Gp) (D3:ng) (KX:Ad),Inv X pins σ H s->dB X.K τ σ H->aJ X.K G H->t KX D3 τ G->mQ X.K H G D3 D2->wM X pins H G KX XE ->
  ξ (model X.prog X.w) X.A (execs st X.env) (SP X pins D2) XE s
section
variable {X:Cx} {k:Nat} {f:ζ} {fd:ag} {ps:List ν} {sp:nB} {x:ν} {p pos:aO} {a b e c:ρ} {es:List ρ} {t:cM} {te:aU} {tx:Ae} {tax:TAX} {tc:cN} {ta tb tr:sW} {sa sb rest:List aQ}
def wG(sp:nB)(t:cM):Ae:=fun KX τ G Q=>t τ G fun ds G1=>sp ds (fun d G'=>∀G2,Joins G1 G' G2->Q d G2) (KX τ G1)
theorem Ss(F:pK X.prog X.w X.K X.mg X.base k f fd ps sp)(hr:dH k X.A)(hm:X.mg x=some (.ref f))(hk:bD X.K (.ref f)=true)(hb:Binds X.K fd ps [])(ha:jc X.lB (e::es) t)(hg:Gl X x:=by rfl)
  (hdb:(x==("__debug__":ν))=false:=by decide) (he:notStar e=true:=by rfl) (hpl:es.all notStar=true:=by rfl):
  ML X (.Call (.Name x p) (e::es) [] pos) (wG sp t):=by
 intro pins s σ H Q XE τ G Q3 KX I RS RG h kk xx;refine cG (qK I hg hm ?_ hdb);refine er (h₀:=X.base) I.ok.mod.pH hk (cb (ha pos pins s σ H (fun vs H1=>∃ds G1,aF X.K H1 ds vs/\Step H G H1 G1/\aJ X.K G1 H1/\sp ds (fun d G'=>∀G2,Joins G1 G' G2->Q3 d G2) (KX τ G1)) (I.nM _)
  ⟨τ,G,_,RS,RG,h,fun vs H1 ds G1 a b c q=>⟨ds,G1,a,b,c,q⟩⟩) (fun us s1 ⟨vs,H1,I1,r,ds,G1,hd,S1,R1,q⟩=>⟨I1.gk,?_⟩) fun _ _ z=>br z) (eB he) (kD hpl)
 exact Kj F hr hb (fun ev s' h=>xx σ τ H1 s1 G1 ev s' I1.ja (RS.ext (S1.ext RG)) R1 S1 h) I1.ja r hd R1 q fun v H' d G' a b c q=>kk v H' d G' a (S1.trans b) c q
def wm(tx:Ae)(tr:sW):sW:=fun KX D τ G=>tx KX τ G fun _ G1=>tr KX D τ G1
theorem Sr(h:ML X e tx)(hr:wJ X rest tr)(hs:swapsWith e none pos.line X.env=pure false:=by rfl):wJ X (.Expr e pos::rest) (wm tx tr):=by
 intro pins s σ H D2 XE τ G D3 KX I RS RG ht EL xx;refine gL (wpAny_Expr_any (bJ (h pins s σ H (fun v H1=>∃d G1,Hv X.K H1 d v/\Step H G H1 G1/\aJ X.K G1 H1/\tr KX D3 τ G1) XE τ G _ KX I RS RG ht (fun v H' d G' a b c q=>⟨d,G',a,b,c,q⟩) xx) fun v s1 ⟨x,H1,I1,r1,d,G1,hd,S1,R1,q1⟩=>?_) I.quiet hs);exact hr pins s1 σ H1 D2 XE τ G1 D3 KX I1 (RS.ext (S1.ext RG)) R1 q1 (EL.step S1) (xx.step S1)
def tQ:sW:=fun _ D τ G=>D.nx τ G
theorem Sq:wJ X [] tQ:=fun _ _ σ H D2 XE τ G D3 KX I RS RG h EL _=>ft ⟨σ,H,I,EL.nx τ σ G H RS (.refl H G) RG h⟩
def Dn(tc:cN)(ta tb tr:sW):sW:=fun KX D τ G=>tc τ G fun c G1=>Br c (ta KX { D with nx:=tr KX D } τ G1) (tb KX { D with nx:=tr KX D } τ G1)
theorem Sn(hc:qu X.lB c tc)(ha:wJ X sa ta)(hb:wJ X sb tb)(hr:wJ X rest tr):wJ X (.If c sa sb pos::rest) (Dn tc ta tb tr):=by
 intro pins s σ H D2 XE τ G D3 KX I RS RG ht EL xx;refine gL (wpAny_If (cb (hc pins s σ H (fun b H1=>∃G1,Step H G H1 G1/\aJ X.K G1 H1/\Br b (ta KX { D3 with nx:=tr KX D3 } τ G1) (tb KX { D3 with nx:=tr KX D3 } τ G1)) (I.nM _) ⟨τ,G,_,RS,RG,ht,fun b H' G' s r q=>⟨G',s,r,q⟩⟩) (fun d s1 ⟨H1,I1,G1,S1,R1,q1⟩=>?_) fun _ _ z=>br z));have EL1:mQ X.K H1 G1 { D3 with nx:=tr KX D3 } { D2 with nx:=fun σ' H'=>∃τ' G',dB X.K τ' σ' H'/\Step H1 G1 H' G'/\aJ X.K G' H'/\tr KX D3 τ' G' }:=
  ⟨fun τ' σ' G' H' a b c q=>⟨τ',G',a,b,c,q⟩,(EL.step S1).bk,(EL.step S1).ct,(EL.step S1).rt⟩
 have go:ξ (model X.prog X.w) X.A (execs (if d=true then sa else sb) X.env) (SP X pins { D2 with nx:=fun σ' H'=>∃τ' G',dB X.K τ' σ' H'/\Step H1 G1 H' G'/\aJ X.K G' H'/\tr KX D3 τ' G' }) XE s1:=by
  cases d with
  |true=>exact ha pins s1 σ H1 _ XE τ G1 _ KX I1.ja (RS.ext (S1.ext RG)) R1 (q1.1 rfl) EL1 (xx.step S1)
  |false=>exact hb pins s1 σ H1 _ XE τ G1 _ KX I1.ja (RS.ext (S1.ext RG)) R1 (q1.2 rfl) EL1 (xx.step S1)
 have fin:∀fl s2,SP X pins { D2 with nx:=fun σ' H'=>∃τ' G',dB X.K τ' σ' H'/\Step H1 G1 H' G'/\aJ X.K G' H'/\tr KX D3 τ' G' } fl s2->(match fl with
   |.next=>ξ (model X.prog X.w) X.A (execs rest X.env) (SP X pins D2) XE s2
   | fl=>SP X pins D2 fl s2):=fun fl s2 q=>by
  cases fl with
  |next=>
   obtain⟨σ',H',I',τ',G',a,b,c,q⟩:=q;exact hr pins s2 σ' H' D2 XE τ' G' D3 KX I' a c q (EL.step (S1.trans b)) (xx.step (S1.trans b))
  |ret v=>exact q
  |brk=>exact q
  |cont=>exact q
 cases d with
 |true=>exact bJ go fun fl s2 q=>fin fl s2 q
 |false=>exact bJ go fun fl s2 q=>fin fl s2 q
end
end L3
namespace L2
open PySem PySem.Spec PyProof.Rows
open Builtin Builtin.ObjectAttr
open Sem (wp)
abbrev iC:List ε:=[.type "ValueError",.type "Exception",.type "BaseException",.type "object"]
def yt(es:Array uD):Bool:=es.toList.all fun e=>match e.key with
 |.str _ _=>true
 |_=>false
theorem Sm{es:Array uD}(h:yt es=true):StrKeys es:=fun e he=>by
 have:=eY.mp h e (by simpa using he);cases q:e.key with
 |str n t=>exact⟨n,t,rfl⟩
 |_=>rw[q] at this;cases this
def Md(K:θ)(N:ζ)(init:Option ε):Bool:=match K.lookup N with
 |some ⟨_,_,.dict es _,_⟩=>yt es&&nsFind es "__init__" == init
 |_=>false
theorem RC{K:θ}{h:Ψ}{N:ζ}{init:Option ε}(X:K.In h)(e:Md K N init=true):∃m,h.Ns N m/\m "__init__" = init:=by
 unfold Md at e;split at e
 ·rename_i c d es ep sl ho;rw[bQ] at e;exact⟨nsFind es,⟨_,es,ep,X _ _ ho,rfl,Sm e.1,fun _=>rfl⟩,beq_iff_eq.mp e.2⟩
 ·cases e
def excIn(K:θ)(C:ζ)(bm:List ε)(init:Option ε)(newId:String):Bool:=match K.lookup C with
 | some ⟨.type "type",_,.cls cd,sl⟩=>(match cd.mro,sl.toList with
  |.ref C'::bm',[_,_,_,_,some (.builtin n),_]=>C'==C&&bm'==bm && !cd.hasDel&&cd.hasDict&&n==newId&&Md K cd.ns init
  | _,_=>false)
 |_=>false
theorem AI{K:θ}{h:Ψ}{C:ζ}{bm:List ε}{init:Option ε}{newId:String}(X:K.In h)(q:excIn K C bm init newId=true):∃nm qn N bs sn sub ab col dd k0 k1 k2 k3 k5 mN,
  h.get? C=some (excClassObj nm qn C N bs bm true sn sub ab col dd k0 k1 k2 k3 k5 newId)/\h.Ns N mN/\mN "__init__" = init:=by
 unfold excIn at q;split at q
 ·rename_i dd cd sl ho;split at q
  ·rename_i C' bm' k0 k1 k2 k3 n k5 hm hs;simp only[bQ,beq_iff_eq,Bool.not_eq_true'] at q;obtain⟨⟨⟨⟨⟨rfl,rfl⟩,hdel⟩,hdct⟩,rfl⟩,hns⟩:=q;obtain⟨nm,bs,mro,ns,qn,hd,sn,sub,ab,col,del⟩:=cd;dsimp only at hm hdel hdct hns;subst hm hdel hdct;have hsl:sl = #[k0,k1,k2,k3,some (.builtin n),k5]:=by
    obtain⟨l⟩:=sl;simp only at hs;rw[hs]
   subst hsl;obtain⟨m,h1,h2⟩:=RC X hns;exact⟨nm,qn,ns,bs,sn,sub,ab,col,dd,k0,k1,k2,k3,k5,m,X _ _ ho,h1,h2⟩
  ·cases q
 ·cases q
structure wO(K:θ)(C B:ζ)(init:Option ε):Prop where
 cls:excIn K C (.ref B::iC) init "ValueError.__new__" = true
 base:excIn K B iC none "ValueError.__new__" = true
theorem wO.own{K:θ}{C B:ζ}{init:Option ε}(x:wO K C B init){h:Ψ}(X:K.In h):∃nm qn N bs sn sub ab col dd k0 k1 k2 k3 k5 mN,
  h.get? C=some (excClassObj nm qn C N bs (.ref B::iC) true sn sub ab col dd k0 k1 k2 k3 k5 "ValueError.__new__")/\h.Ns N mN/\mN "__init__" = init/\OwnTail h iC (.ref B::iC):=by
 obtain⟨nm,qn,N,bs,sn,sub,ab,col,dd,k0,k1,k2,k3,k5,mN,h1,h2,h3⟩:=AI X x.cls;obtain⟨nm',qn',N',bs',sn',sub',ab',col',dd',k0',k1',k2',k3',k5',mN',h1',h2',h3'⟩:=AI X x.base;exact⟨nm,qn,N,bs,sn,sub,ab,col,dd,k0,k1,k2,k3,k5,mN,h1,h2,h3,.own h1' h2' h3' .base⟩
structure wN(K:θ)(C B:ζ)(names:List ν):Prop where
 sa:dE K (.ref C) "__setattr__" = some (some (.builtin "object.__setattr__"))
 obj:nU K C (.type "object")=some true
 mro:∃cd,jg K C=some cd/\cd.mro=.ref C::.ref B::iC/\cd.hasDict=true
 nm:∀n∈names,dE K (.ref C) n=some none
section
variable {prog:Ω} {w:ah} {A:aE} {E:ε->η->Prop} {s:η} {K:θ} {C B x:ζ} {names:List ν} {name:ν} {v:ε} {mA:ν->Option ε}
theorem RB{h:Ψ}(I:h.Inst x C mA):∃ox od,mU h x ox C od:=by
 obtain⟨o,hx,hc,hnc,hd⟩:=I;have hn:ku o=true:=by
  unfold ku;split
  ·rename_i c q;exact absurd q (hnc c)
  ·rfl
 rcases hd with⟨hd,_⟩|⟨d,hd,_,od,es,ep,hod,_⟩
 ·exact⟨o,none,hx,hc,hn,by rw[hd];trivial⟩
 ·exact⟨o,some od,hx,hc,hn,by rw[hd];exact hod⟩
theorem RA{ns:List ν}{Q:Unit->η->Prop}(S:wN K C B names)(hn:name∈names)(X:K.In s.heap)(I:s.heap.Inst x C mA)(hw:Within mA ns)(hsz:ns.length≤1000)
  (hq:∀h' tk',h'.Inst x C (fun y=>if y=name then some v else mA y) ->
   (∀b o,b≠x->(∀o₀ dx,s.heap.get? x=some o₀->o₀.dict=some dx->b≠dx)->s.heap.get? b=some o->h'.get? b=some o) ->
   (∀o₀,s.heap.get? x=some o₀->∃o₁,h'.get? x=some o₁/\o₁.cls=o₀.cls/\o₁.data=o₀.data/\o₁.slots=o₀.slots/\(∀dx,o₀.dict=some dx->o₁.dict=some dx)/\(o₀.dict=none->o₁.dict=some s.heap.objs.size))->Q () { s with heap:=h',toks:=tk' }):
  ξ (model prog w) A (setAttr (.ref x) name v) Q E s:=by
 obtain⟨ox,od,IA⟩:=RB I;obtain⟨cd,iq,hmro,hdct⟩:=S.mro;refine PySem.W.set_plain X IA S.sa ?_;have X':K.In ({ s with toks:=s.toks+1 }:η).heap:=X;have IA':mU ({ s with toks:=s.toks+1 }:η).heap x ox C od:=IA;have SF:=PySem.F.store_object;have sub:PySem.W.Looks (model prog w) ({ s with toks:=s.toks+1 }:η).heap (isInstance (.ref x) (.type "object")) true:=IA'.type.andThen (PySem.W.looks_mroIn X' S.obj);have hm:PySem.W.Looks (model prog w) ({ s with toks:=s.toks+1 }:η).heap (mroOf (.ref C)) cd.mro:=(tF X' iq).andThen .now;refine mf SF.slot.plain SF.entry (@PySem.W.check_slot (model prog w) _ _ { s with toks:=s.toks+1 } "object.__setattr__" "object" "__setattr__" (.ref x) [.str name s.toks,v] [] _ SF.kind SF.split sub (SF.args (.ref x) (.str name s.toks) v) ?_);rw[PySem.W.osa_eq,refuse_eq];refine δ (δ (IA'.type.here (δ (hm.here ?_))));rw[hmro,refuseLoop_ref,refuseLoop_ref,PySem.F.store_ValueError.passes];refine μ (δ (IA'.type.here (δ ((PySem.W.looks_findIn X' (S.nm name hn)).here (δ (μ ?_))))));obtain⟨o,hx,hc,hnc,hd⟩:=I;obtain⟨hp,g,dr,tk0,os⟩:=s;dsimp only at hx X IA hq hd X' IA';have LC:=tF (M:=model prog w) X' iq;obtain⟨oc,odi,oda,osl⟩:=o;dsimp only at hc hnc hd;subst hc;show ξ _ _ (storeInOwnDict (.ref x) (.ref C) (.str name tk0) name v false) _ _ _;refine δ (μ (δ (δ (wpAny_loadPart hx (δ (LC.here ?_))))));rw[hdct];rcases hd with⟨hdn,hmA⟩|⟨dx,hdx,bZ,hns⟩
 ·subst hdn;have hx₁:(hp.push { cls:=.type "dict",data:=.dict #[]}).get? x=some ⟨.ref C,none,oda,osl⟩:=ι _ hx;have hxs:x≠hp.objs.size:=aW (Ξ hx);have hgd:((hp.push { cls:=.type "dict",data:=.dict #[]}).update x fun o=>{ o with dict:=some hp.objs.size }).get? hp.objs.size
     = some { cls:=.type "dict",data:=.dict #[]}:=
    (tL _ _ _ _ hxs.symm).trans (Ψ.get?_push_at rfl rfl)
  have hnd:((hp.push { cls:=.type "dict",data:=.dict #[]}).update x fun o=>{ o with dict:=some hp.objs.size }).Ns hp.objs.size (fun _=>none):=
    ⟨_,#[],_,hgd,rfl,fun e he=>absurd he (by simp),fun _=>rfl⟩
  have core:ξ (model prog w) A.in1 (storeInDict hp.objs.size (.str name tk0) name v) (fun fin s'=>match fin with | .done f=>(match f with | .ret _=>Q () s' | _=>False) | .again c'=>False) (fun e s'=>E e s') ⟨(hp.push { cls:=.type "dict",data:=.dict #[]}).update x fun o=>{ o with dict:=some hp.objs.size },g,dr,tk0+1,os⟩:=by
   unfold storeInDict newKeyGuard;refine δ (μ (δ (wpAny_nsSet1 (Ψ.Ns1.of_empty hnd) fun h' hn' hs=>?_)));obtain⟨oD,esD,epD,hoD,hdD,hcD⟩:=hn'.count (vm name v Within.nil);refine δ (wpAny_lookBehind hoD (by rw[hdD];exact pastItsLine_dict (aA hcD (by rw[aL,hU,cH];omega))) ?_);refine μ ?_;have hx':h'.get? x=some ⟨.ref C,some hp.objs.size,oda,osl⟩:=by
    refine (hs.2 x hxs).trans (bu _ hx₁ ?_);have lU:=(Ψ.get?_some_iff.mp hx).2;cases oda<;>first|rfl|exact lU
   refine hq h' _ ⟨_,hx',rfl,hnc,.inr ⟨hp.objs.size,rfl,hxs.symm,?_⟩⟩ (fun b ob hbx _ hb=>?_)
    (fun o₀ h₀=>by obtain rfl:=aD (hx.symm.trans h₀);exact⟨_,hx',rfl,rfl,rfl,fun dx e=>(nomatch e),fun _=>rfl⟩)
   ·obtain⟨o',es,ep,e1,e2,e3,eu,e4⟩:=hn';exact⟨o',es,ep,e1,e2,e3,eu,fun y=>by rw[e4 y];by_cases hy:y=name<;>simp[hy,hmA]⟩
   ·exact (hs.2 b (aW (Ξ hb))).trans ((tL _ _ _ _ hbx).trans (ι _ hb))
  rw[if_neg (by decide)];dsimp only;rw[if_neg (by simp[typeHasDict])];split
  ·first
    | (rename_i q;exact absurd q (hnc _))
    | (rename_i q _;exact absurd q (hnc _))
    | (rename_i q _ _;exact absurd q (hnc _))
    | (exfalso;simp_all)
  ·refine δ (wpAny_alloc' ?_);refine δ (wpAny_update' hx₁ ?_);refine μ (a:=some hp.objs.size) ?_;show ξ _ _ (storeInDict hp.objs.size (.str name tk0) name v) _ _ _;refine cb core (fun fin s' z=>?_) fun _ _ z=>z;cases fin with
   |done f=>
    cases f with
    |ret r=>exact z
    |_=>exact z.elim
   |again c=>exact z.elim
 ·subst hdx;refine μ (a:=some dx) ?_;show ξ _ _ (storeInDict dx (.str name tk0) name v) _ _ _;unfold storeInDict newKeyGuard;refine δ (μ (δ (wpAny_nsSet1 hns fun h' hn' hs=>?_)));obtain⟨oD,esD,epD,hoD,hdD,hcD⟩:=hn'.count (vm name v hw);refine δ (wpAny_lookBehind hoD (by rw[hdD];exact pastItsLine_dict (aA hcD (by rw[aL,cH];omega))) ?_);refine μ ?_;have hx':=(hs.2 x bZ.symm).trans hx;refine hq h' _ ⟨_,hx',rfl,hnc,.inr ⟨dx,rfl,bZ,hn'⟩⟩ (fun b ob _ hbd hb=>(hs.2 b (hbd _ dx hx rfl)).trans hb)
   (fun o₀ h₀=>by obtain rfl:=aD (hx.symm.trans h₀);exact⟨_,hx',rfl,rfl,rfl,fun _ e=>e,fun e=>(nomatch e)⟩)
end
end L2
namespace L2
open PySem PySem.Spec PyProof.Rows
open Sem (wp)
structure GQ(l:List cK)(e T:ζ)(h h':Ψ):Prop where
 keep:∀b o,b≠e->b≠T->b∉fD l->h.get? b=some o->h'.get? b=some o
 slot:∀b o,b∈fD l->h.get? b=some o->∃sl,h'.get? b=some { o with slots:=sl }
theorem sG.MZ{base:Ψ}{l:List cK}{e T:ζ}{cls:ε}{dx:Option ζ}{h h':Ψ}(L:sG base l e T cls dx h h'):GQ l e T h h':=⟨L.keep,L.slot⟩
section
variable {M:Model} {A:aE} {E:ε->η->Prop} {s:η}
theorem Rz{base:Ψ}{env:cK}{outer:List cK}{L e T:ζ}{cls:ε}{dx:Option ζ}{Q:Unit->η->Prop}
  (lU:A.frames=some (env::outer)) (hl:s.heap.FunFrames base (env::outer)) (hf:env.frame=some L) (ht:pd base s.heap e T cls dx) (hkb:base.StaysIn s.heap) (hen:base.get? e=none)
  (h:∀h',sG base (env::outer) e T cls dx s.heap h'->Q () { s with heap:=h' }):ξ M A (noteFrame (.ref e) env) (fun _ s'=>ξ M A (setFlight (.ref e) none) Q E s') E s:=by
 obtain⟨⟨oe,vs,he,hcls,hdx,hd,h1,h2⟩,hnT,hTe,oT,ts,hT,hdT,h3⟩:=ht;subst hcls hdx;unfold noteFrame;simp only[hf];refine δ (bI he hd h1 ?_);rw[if_pos (show (aH T != aS)=true from by simp)];refine δ (bI hT hdT h3 ?_);rw[if_neg (show ¬((aS==rawInt L)=true) from by simp[rawInt])];refine δ (fb hT hdT (aN.mp h3).1 ?_);have other:∀b,b≠T->(s.heap.update T (gw (·.setIfInBounds 3 aS))).get? b=s.heap.get? b:=fun b hb=>ay _ _ (di hb);have noRecord:∀b o,s.heap.get? b=some o->(∀vs,o.data≠.fields vs)->b≠T:=fun b o hb hnf q=>by
  rw[q,hT] at hb;injection hb with hb;subst hb;exact hnf ts hdT
 have hTf:T∉fD (env::outer):=fun hm=>by
  obtain⟨_,o,ho,hnf⟩:=hl.mem hm;rw[hT] at ho;injection ho with ho;subst ho;exact hnf ts hdT
 refine ub lU (hl.of_keeps fun b o hb hnf=>⟨o,(other b (noRecord b o hb hnf)).trans hb,rfl⟩) hf ((other e (di hTe)).trans he)
  (fun b o hbo=>(other b fun q=>by rw[q,hnT] at hbo;cases hbo).trans (hkb b o hbo)) hen hd (aN.mp h1).1 h2
  fun h' ⟨x1,x2,⟨T',x3,x3'⟩,x4,x5⟩=>h h' ⟨x1,x2,⟨T',x3,?_⟩,fun b o hbe hbT hbf hb=>x4 b o hbe hbe hbf ((other b hbT).trans hb),fun b o hbf hb=>x5 b o hbf ((other b fun q=>hTf (q▸hbf)).trans hb)⟩
 by_cases hq:T'=T
 ·subst hq;obtain⟨o2,e2⟩:∃o2,(s.heap.update T' (gw (·.setIfInBounds 3 aS))).get? T'=some o2:=⟨_,bu _ hT (dR (cV hdT _))⟩;rw[e2] at x3';cases x3'
 ·rw[←other T' hq];exact x3'
theorem Hs{base:Ψ}{e T:ζ}{cls:ε}{dx:Option ζ}{Q:Unit->η->Prop}(ht:pd base s.heap e T cls dx)
  (h:∀h',(∀b o,b≠T->s.heap.get? b=some o->h'.get? b=some o)->pd base h' e T cls dx->Q () { s with heap:=h' }):ξ M A (setFlight (.ref e) none) Q E s:=by
 obtain⟨⟨oe,vs,he,hcls,hdx,hd,h1,h2⟩,hnT,hTe,oT,ts,hT,hdT,h3⟩:=ht;unfold setFlight;refine δ (bI he hd h1 ?_);rw[if_pos (show (aH T != aS)=true from by simp)];have hz:=(aN.mp h3).1;refine fb hT hdT hz (h _ (fun b o hb q=>(ay _ _ (di hb)).trans q) ⟨⟨oe,vs,(ay _ _ hTe).trans he,hcls,hdx,hd,h1,h2⟩,hnT,hTe,_,_,bu _ hT (dR (cV hdT _)),cV hdT _,?_⟩);simp[hz]
theorem zL{nm q:ν}{C N B:ζ}{bs bm:List ε}{hdct:Bool}{sn:List ν}{sub:List ε}{ab:Bool}{col:Option Bool}{dd:Option ζ}{k0 k1 k2 k3 k5:Option ε}{newId:String}
  {nm' q':ν} {N':ζ} {bs' bm':List ε} {hdct':Bool} {sn':List ν} {sub':List ε} {ab':Bool} {col':Option Bool} {dd':Option ζ} {k0' k1' k2' k3' k5':Option ε} {newId':String}
  {h:Ψ} {g:Array ly} {d:Drawn} {t:Nat} {os:OsState} {e:ζ} {oe:aP} {Q:Bool->η->Prop}
  (hC:h.get? C=some (excClassObj nm q C N bs bm hdct sn sub ab col dd k0 k1 k2 k3 k5 newId)) (hB:h.get? B=some (excClassObj nm' q' B N' bs' bm' hdct' sn' sub' ab' col' dd' k0' k1' k2' k3' k5' newId'))
  (he:h.get? e=some oe) (hcls:oe.cls=.ref C) (sA:bm'.contains (.type "BaseException")=true) (hsub:(aH C::bm).contains (.ref B)=true)
  (hq:Q true ⟨h,g,d,t,os⟩):ξ M A (excMatches (.ref e) (.ref B)) Q E ⟨h,g,d,t,os⟩:=by
 have hcB:(aH B::bm').contains (.type "BaseException")=true:=by rw[nI,sA,mx]
 have f:=tc_notTuple;unfold excMatches
 repeat (first|(with_reducible refine fz he ?_;rw[hcls])|with_reducible refine fz hB ?_|(with_reducible refine jy hB ?_;rw[hcB])|(with_reducible refine jy hC ?_;rw[hsub])|wp_step)
 exact hq
end
section
variable {X:Cx} {pins:List (ζ×aP)} {σ:St} {H:Hp} {s:η} {h':Ψ} {e T:ζ}
structure Frame(X:Cx):Prop where
 ex:X.ex=[]
 st:X.stack=X.env::X.outer
 fr:X.env.frame=some X.env.locals
theorem Inv.zQ(I:Inv X pins σ H s)(F:Frame X)(L:GQ X.stack e T s.heap h')(he:X.s₀.heap.get? e=none)(hT:X.s₀.heap.get? T=none)(hHe:H e=none)(hHT:H T=none)
  (hp:∀p∈X.pn++pins,p.1≠e/\p.1≠T) (eo:∃oe vs,s.heap.get? e=some oe/\oe.data=.fields vs) (To:∃oe vs,s.heap.get? T=some oe/\oe.data=.fields vs):Inv X pins σ H { s with heap:=h' }:=by
 have hloc:X.s₀.heap.get? X.env.locals=none:=fv I.ok.above;have sub:∀b,b∈fD X.stack->b=X.env.locals∨b∈fD X.outer:=fun b hb=>Δ.mp (I.tR b hb);have ne:∀{b c:ζ} {o:aP},X.s₀.heap.get? b=some o->X.s₀.heap.get? c=none->b≠c:=fun h1 h2 z=>by
  rw[z,h2] at h1;cases h1
 have lB:∀b:ζ,b∉X.ex:=fun b z=>by
  rw[F.ex] at z;cases z
 have inStk:X.env.locals∈fD X.stack:=by
  rw[F.st];unfold fD;rw[eP,F.fr];exact χ
 have supF:∀b,b∈fD X.outer->b∈fD X.stack:=fun b hb=>by
  rw[F.st];unfold fD;rw[eP,F.fr];exact ψ _ hb
 have noF:∀{b:ζ} {o:aP},s.heap.get? b=some o->(∀vs,o.data≠.fields vs)->b≠e/\b≠T:=fun {b o} hb hn=>⟨fun z=>by
  obtain⟨oe,vs,q1,q2⟩:=eo;rw[z,q1] at hb;cases hb;exact hn vs q2,fun z=>by
  obtain⟨oe,vs,q1,q2⟩:=To;rw[z,q1] at hb;cases hb;exact hn vs q2⟩
 have cellK:∀c v,s.heap.IsCell c v->h'.IsCell c v:=fun c v hc=>by
  obtain⟨o,ho,hd⟩:=hc;by_cases hb:c∈fD X.stack
  ·obtain⟨sl,k2⟩:=L.slot c o hb ho;exact⟨_,k2,hd⟩
  ·obtain⟨n1,n2⟩:=noF ho (fun vs q=>by rw[hd] at q;cases q);exact⟨o,L.keep c o n1 n2 hb ho,hd⟩
 refine⟨I.ok,I.os,I.bare,⟨fun b o h1 h2 h3 _=>?_,fun b o h1 h2 h3 _=>?_,I.base.free,fun b o h1 hx=>?_,I.base.iD,I.base.iH,I.base.nN⟩,?_,fun x c hc=>?_,I.free,I.km,fun p hp'=>?_,fun a o ha=>?_,I.len⟩
 ·have k1:=I.base.keep b o h1 h2 h3 (lB b);refine L.keep b o (ne h1 he) (ne h1 hT) (fun z=>?_) k1;rcases sub b z with z|z
  ·exact ne h1 hloc z
  ·exact h3 z
 ·obtain⟨sl,k1⟩:=I.base.slot b o h1 h2 h3 (lB b);obtain⟨sl',k2⟩:=L.slot b _ (supF b h3) k1;exact⟨sl',k2⟩
 ·obtain⟨o',k1⟩:=I.base.there b o h1 (lB b);by_cases hb:b∈fD X.stack
  ·obtain⟨sl,k2⟩:=L.slot b o' hb k1;exact⟨_,k2⟩
  ·exact⟨o',L.keep b o' (ne h1 he) (ne h1 hT) hb k1⟩
 ·obtain⟨m,⟨o,es,ep,ho,r⟩,hl⟩:=I.loc;obtain⟨sl,k2⟩:=L.slot _ o inStk ho;refine⟨m,⟨_,es,ep,k2,r⟩,fun i x v h1 h2 h3=>?_⟩;obtain⟨u,ru,lk⟩:=hl i x v h1 h2 h3;refine⟨u,ru,?_⟩;rcases lk with lk|⟨kd,c,hc,ic⟩
  ·exact .inl lk
  ·exact .inr ⟨kd,c,hc,cellK c _ ic⟩
 ·obtain⟨v,hv⟩:=I.cell x c hc;exact⟨v,cellK c v hv⟩
 ·obtain⟨q1,q2,q3,q4,q5⟩:=I.pin p hp';refine⟨L.keep p.1 p.2 (hp p hp').1 (hp p hp').2 (fun z=>?_) q1,q2,q3,q4,q5⟩;rcases sub _ z with z|z
  ·exact q3 z
  ·exact q4 z
 ·refine (I.bF a o ha).lg (fun b u hb q=>?_) (fun _ q=>q) fun _ _ q=>q;have hHb:H b≠none:=by
   rcases hb with rfl|hb
   ·rw[ha];simp
   ·rw[hb];simp
  exact L.keep b u (fun z=>hHb (z▸hHe)) (fun z=>hHb (z▸hHT)) (fun z=>hHb (I.fw b z)) q
theorem Inv.forget{m':ν->Option ε}{t':Nat}(I:Inv X pins σ H s)(hs:et X.env.locals s.heap h')(hn:h'.Ns X.env.locals m'):Inv X pins (bo X.N.length none) H { s with heap:=h',toks:=t' }:=by
 have hloc:X.s₀.heap.get? X.env.locals=none:=fv I.ok.above;have k:∀b o,b≠X.env.locals->s.heap.get? b=some o->h'.get? b=some o:=fun b o hb q=>(hs.2 b hb).trans q;have ne:∀{b:ζ} {o:aP},X.s₀.heap.get? b=some o->b≠X.env.locals:=fun h1 z=>by
  rw[z,hloc] at h1;cases h1
 refine⟨I.ok,I.os,I.bare,⟨fun b o h1 h2 h3 h4=>k b o (ne h1) (I.base.keep b o h1 h2 h3 h4),fun b o h1 h2 h3 h4=>?_,I.base.free,fun b o h1 h2=>?_,I.base.iD,I.base.iH,I.base.nN⟩,⟨m',hn,fun i x v h1 h2 h3=>?_⟩,fun x c hc=>?_,I.free,I.km,fun p hp=>?_,fun a o ha=>?_,by simp⟩
 ·obtain⟨sl,q⟩:=I.base.slot b o h1 h2 h3 h4;exact⟨sl,k _ _ (ne h1) q⟩
 ·obtain⟨o',q⟩:=I.base.there b o h1 h2;exact⟨o',k _ _ (ne h1) q⟩
 ·rw[kI] at h2;split at h2<;>cases h2
 ·obtain⟨v,o,ho,hd⟩:=I.cell x c hc;exact⟨v,o,k _ _ (I.xP x c hc) ho,hd⟩
 ·obtain⟨q1,q2,q3,q4,q5⟩:=I.pin p hp;exact⟨k _ _ q3 q1,q2,q3,q4,q5⟩
 ·refine (I.bF a o ha).lg (fun b u hb q=>k b u (fun z=>?_) q) (fun _ q=>q) fun _ _ q=>q;rcases hb with hb|hb
  ·rw[←hb,z,I.free] at ha;cases ha
  ·rw[z,I.free] at hb;cases hb
abbrev Cx.lX(X:Cx)(e:ζ):Cx:={ X with A:=X.A.mark (some (.ref e)),calm:=false,xe:=fun _ _=>False }
theorem Inv.lX(I:Inv X pins σ H s)(e:ζ):Inv (X.lX e) pins σ H s:=by
 obtain⟨ok,a1,a2,a3,a4,a5,a6,a7,a8,a9,a10⟩:=I;obtain⟨o1,o2,o3,o4,o5,o6,o7,o8,_,o10,o11,o12,o13,o14,o15,o16,o17,o18⟩:=ok;exact⟨⟨o1,o2,o3,o4,o5,o6,o7,o8,(fun z=>nomatch z),o10,o11,o12,o13,o14,o15,o16,o17,o18⟩,a1,a2,a3,a4,a5,a6,a7,a8,a9,a10⟩
theorem Inv.uncaught{e:ζ}(I:Inv (X.lX e) pins σ H s)(ok:X.Ok):Inv X pins σ H s:=by
 obtain⟨_,a1,a2,a3,a4,a5,a6,a7,a8,a9,a10⟩:=I;exact⟨ok,a1,a2,a3,a4,a5,a6,a7,a8,a9,a10⟩
theorem Dk{P:Ω}{w:ah}{h:Ψ}{a:ζ}{o:HO}(ok:dZ P w H h)(hn:H a=none)(new:bV P w (upd H a o) h a o):dZ P w (upd H a o) h:=fun b u e=>by
 by_cases z:b=a
 ·subst z;rw[iO] at e;cases e;exact new
 ·rw[dz z] at e;refine (ok b u e).lg (fun _ _ _ q=>q) (fun c q=>?_) fun c xs q=>?_
  ·rw[dz (fun z=>by rw[z,hn] at q;cases q)];exact q
  ·rw[dz (fun z=>by rw[z,hn] at q;cases q)];exact q
theorem Inv.FX{a:ζ}{o:HO}(I:Inv X pins σ H s)(hn:H a=none)(h0:X.s₀.heap.get? a=none)(new:bV X.prog X.w (upd H a o) s.heap a o)(hl:a≠X.env.locals)(hc:∀x c,X.env.cells.lookup x=some c->c≠a)(hp:∀p∈X.pn++pins,p.1≠a):Inv X pins σ (upd H a o) s:=by
 refine⟨I.ok,I.os,I.bare,⟨I.base.keep,I.base.slot,fun b ob h1 h2 h3=>?_,I.base.there,fun b xs e=>?_,fun b x u e=>?_,fun b ps e=>?_⟩,I.loc,I.cell,by rw[dz hl.symm];exact I.free,fun x c e=>by rw[dz (hc x c e)];exact I.km x c e,fun p hp'=>?_,Dk I.bF hn new,I.len⟩
 ·rw[dz (fun z=>by rw[z,h0] at h1;cases h1)];exact I.base.free b ob h1 h2 h3
 ·have:=I.base.iD b xs e;rw[dz (fun z=>by rw[z,hn] at this;cases this)];exact this
 ·have:=I.base.iH b x u e;rw[dz (fun z=>by rw[z,hn] at this;cases this)];exact this
 ·obtain⟨more,q⟩:=I.base.nN b ps e;refine⟨more,?_⟩;rw[dz (fun z=>by rw[z,hn] at q;cases q)];exact q
 ·obtain⟨q1,q2,q3,q4,q5⟩:=I.pin p hp';exact⟨q1,by rw[dz (hp p hp')];exact q2,q3,q4,q5⟩
end
end L2
namespace L3
open PySem PySem.Spec PyProof.Rows L2
def ug(a C:ζ)(dx:Option ζ):Ψ->Prop:=fun h=>∃oe vs,h.get? a=some oe/\oe.cls=.ref C/\oe.dict=dx/\oe.data=.fields vs/\vs[2]?=some .none
def jr(x:ν)(fs:List (ν×Int)):θ->ζ->Hp->Prop:=fun K a H=>∃C dx,dI K x C/\H a=some (.ext (ug a C dx))/\uv H dx fs
theorem uv.keep{H H':Hp}{dx:Option ζ}{fs:List (ν×Int)}(h:uv H dx fs)(k:∀b o u,H b=some (.cT o u)->H' b=some (.cT o u)):uv H' dx fs:=by
 rcases h with h|⟨d,o,h1,h2⟩
 ·exact .inl h
 ·exact .inr ⟨d,o,h1,k _ _ _ h2⟩
theorem Ry{K:θ}{H:Hp}{a:ζ}{x:ν}{fs:List (ν×Int)}(h:jr x fs K a H):ur K H a (.gen (jr x fs)):=
 ⟨h,by obtain⟨C,dx,_,e,_⟩:=h;exact⟨_,e,fun _=>nofun,fun _ _=>nofun⟩,fun H1 H2 t f e ⟨C,dx,h1,h2,h3⟩=>⟨C,dx,h1,e.trans h2,h3.keep f⟩⟩
def Cr(K:θ)(names:List ν)(B:ζ):Prop:=∀x∈names,∀C,dI K x C->∃init,wO K C B init
def Ai(names:List ν)(i:Nat)(tx:sW)(th:ζ->az)(tr:az):az:=fun D τ G=>
 tx (fun τ1 G1 x fs=>x∈names/\∀p G2,eD G1 p (.gen (jr x fs)) G2->th p { nx:=fun _ _=>False,rt:=D.rt } (jQ τ1 i (.obj p)) G2) { D with nx:=tr D } τ G
theorem Rx{X:Cx}{i:Nat}{cx en:ν}{names:List ν}{body suite rest:List aQ}{b₀:aQ}{np hpos pos:aO}{tx:sW}{th:ζ->az}{tr:az}{B:ζ}(F:Frame X)(T7:Cr X.K names B)(hm:X.mg cx=some (.ref B))(hN:X.N.Nodup)(hb:wJ X body tx)(hh:∀e,jZ (X.lX e) (b₀::suite) (th e))(hr:jZ X rest tr)
  (hi:X.N[i]?=some en:=by rfl) (hl:X.env.scope.names.lookup en=some .local:=by rfl) (hg:Gl X cx:=by rfl) (hdb:(cx==("__debug__":ν))=false:=by decide):
  jZ X (.Try body [.ExceptHandler (some (.Name cx np)) (some en) (b₀::suite) hpos] [] [] pos::rest) (Ai names i tx th tr):=by
 intro pins s σ H D2 I ⟨τ,G,D3,RS,RG,ht,EL⟩;refine gL (wpAny_Try_except ?_);have EL':mQ X.K H G { D3 with nx:=tr D3 } { D2 with nx:=fun σ' H'=>Fl X.K tr D2 σ' H' }:=⟨fun τ' σ' G' H' a b c q=>⟨τ',G',D3,a,c,q,EL.step b⟩,EL.bk,EL.ct,EL.rt⟩;refine cb (hb pins s σ H _ _ τ G _ _ I RS RG ht EL' ?exc) (fun fl s1 q=>?fin) (fun e s1 q=>q)
 case fin=>
  cases fl with
  |next=>
   obtain⟨σ',H',I',q⟩:=q;exact ft (hr pins s1 σ' H' D2 I' q)
  |ret u=>exact q
  |brk=>exact q
  |cont=>exact q
 case exc=>
  intro σ1 τ1 H1 s1 G1 ev s' I1 RS1 R1 S1 cxx;obtain⟨e,T,C,dx,H',rfl,os,bare,u,ok,tr',⟨hHe,hHT⟩,hen,⟨he0,hT0⟩,⟨x,C',fs,ec,cn,⟨hxn,kq⟩,dd⟩,R2,S2⟩:=cxx;cases ec;have I':Inv X pins σ1 H' s':=I1.Co (ch:=[]) os u ok bare (fun b z=>absurd z (by simp));have s0:∀{b:ζ},s1.heap.get? b=none->X.s₀.heap.get? b=none:=fun {b} hb=>by
   cases hq:X.s₀.heap.get? b with
   |none=>rfl
   |some o=>
    obtain⟨o',e'⟩:=I1.base.there b o hq (by rw[F.ex];simp);rw[hb] at e';cases e'
  have pne:∀p∈X.pn++pins,p.1≠e/\p.1≠T:=fun p hp=>by
   have q:=(I1.pin p hp).1;refine⟨fun z=>?_,fun z=>?_⟩
   ·rw[z,he0] at q;cases q
   ·rw[z,hT0] at q;cases q
  have eo:=tr'.obj;have To:=tr'.ent;refine Rz (base:=X.base) (by rw[I'.ok.frames,F.st]) (by rw[←F.st];exact I'.stack) F.fr tr' I'.bk hen fun h2 L=>?_;rw[←F.st] at L;have I2:=I'.zQ F L.MZ (s0 he0) (s0 hT0) hHe hHT pne (by obtain⟨oe,vs,q1,_,_,q2,_⟩:=eo;exact⟨oe,vs,q1,q2⟩) (by obtain⟨oe,vs,q1,q2,_⟩:=To;exact⟨oe,vs,q1,q2⟩);obtain⟨T2,tr2,hT2⟩:=L.yq;obtain⟨oe,vs,q1,q2,q3,q4,q5,q6⟩:=tr2.obj;obtain⟨oT,ts,r1,r2,r3⟩:=tr2.ent;have Ic:=I2.lX e;obtain⟨init,ec⟩:=T7 x hxn C cn;refine wpAny_handleBy_cons (codeAny_handlers_test (qK (X:=X.lX e) Ic hg hm ?_ hdb)) (by intro q;cases q);obtain⟨nm,qn,N,bs,sn,sub,ab,col,dd',k0,k1,k2,k3,k5,mN,hC,_⟩:=AI Ic.gk ec.cls;obtain⟨nm',qn',N',bs',sn',sub',ab',col',dd'',k0',k1',k2',k3',k5',mN',hB,_⟩:=AI Ic.gk ec.base;refine zL hC hB q1 q2 (by decide +kernel) (by simp) ?_;refine codeAny_handlers_suite_as ?_;refine Hs tr2 fun h3 kp tr3=>?_;have sT2:X.s₀.heap.get? T2=none:=by
   cases hq:X.s₀.heap.get? T2 with
   |none=>rfl
   |some o=>
    obtain⟨o',e'⟩:=I'.base.there T2 o hq (by rw[F.ex];simp);rw[hT2] at e';cases e'
  have hHT2:H' T2=none:=by
   cases hq:H' T2 with
   |none=>rfl
   |some o=>
    obtain⟨ob,e'⟩:=bV.there (I'.bF T2 o hq);rw[hT2] at e';cases e'
  have I3:=I2.zQ (h':=h3) F (e:=e) (T:=T2) ⟨fun b o _ hT _ q=>kp b o hT q,fun b o hb q=>⟨o.slots,kp b o (fun z=>by
   obtain⟨_,o',ho',hd⟩:=I2.stack.mem hb;rw[z,r1] at ho';cases ho';exact hd _ r2) q⟩⟩ (s0 he0) sT2 hHe hHT2 (fun p hp=>⟨(pne p hp).1,fun z=>by
   have:=(I'.pin p hp).1;rw[z,hT2] at this;cases this⟩) ⟨oe,vs,q1,q4⟩ ⟨oT,ts,r1,r2⟩
  obtain⟨oe,vs,q1,q2,q3,q4,q5,q6⟩:=tr3.obj;refine EY (X:=X.lX e) (i:=i) (v:=.ref e) (I3.lX e) hN hi (.inl hl) rfl (fun s4 I4 sb=>?_) (.inr hl);have nl:e≠X.env.locals:=fun z=>by
   obtain⟨m,⟨o,es,ep,ho,hd,_⟩,_⟩:=I3.loc;rw[←z] at ho;rw[show h3.get? e=_ from q1] at ho;cases ho;rw[q4] at hd;cases hd
  have nc:∀y c,X.env.cells.lookup y=some c->c≠e:=fun y c hc z=>by
   obtain⟨v,o,ho,hd⟩:=I3.cell y c hc;rw[z] at ho;rw[show h3.get? e=_ from q1] at ho;cases ho;rw[q4] at hd;cases hd
  obtain⟨a,sb1,sb2⟩:=sb;have q1':s4.heap.get? e=some oe:=(sb1.2 e (fun z=>by
   rcases sb2 with sb2|sb2
   ·exact nl (z.trans sb2)
   ·exact nc _ _ sb2 z.symm)).trans q1
  have I5:=I4.FX (o:=.ext (ug e C dx)) hHe (s0 he0) ⟨⟨oe,vs,q1',q2,q3,q4,q6⟩,⟨oe,q1'⟩,fun h1 h2 ⟨oe,vs,a,b⟩ k=>⟨oe,vs,k _ a,b⟩⟩ nl nc (fun p hp=>(pne p hp).1);have E2:=S2.ext R1;have RG5:aJ X.K (dG G1 e (.gen (jr x fs))) (upd H' e (.ext (ug e C dx))):=R2.jG hHe (Ry ⟨C,dx,cn,iO,dd.keep (Ext.laid hHe).cT⟩);have S5:Step H1 G1 (upd H' e (.ext (ug e C dx))) (dG G1 e (.gen (jr x fs))):=S2.trans (.jG hHe);have RS5:dB X.K (jQ τ1 i (.obj e)) (σ1.set i (some (.ref e))) (upd H' e (.ext (ug e C dx))):=((RS1.ext E2).ext (.laid hHe)).set (by simp[Hv]);refine cb (hh e pins s4 _ _ { nx:=fun _ _=>False,rt:=D2.rt } I5 ⟨_,_,{ nx:=fun _ _=>False,rt:=D3.rt },RS5,RG5,kq e _ (.mk' (R2.free hHe)),⟨fun _ _ _ _ _ _ _ q=>q.elim,fun _ _ _ _ _ _ _ q=>q.elim,fun _ _ _ _ _ _ _ q=>q.elim,fun d v G' H' a b c q=>EL.rt d v G' H' a (S1.trans (S5.trans b)) c q⟩⟩) (fun fl s5 q=>?_) (fun _ _ z=>z.elim);cases fl with
  |ret u=>
   obtain⟨v,σ',H6,I6,rv,qv⟩:=q;obtain⟨m,hn,_⟩:=I6.loc;refine wpAny_nameGoes hl hn (by rw[I.ok.kind];rfl) fun h7 m7 hn7 hs7=>?_;exact⟨v,_,H6,(I6.uncaught I.ok).forget hs7 hn7,rv,qv⟩
  |next=>
   obtain⟨_,_,_,q⟩:=q;exact q.elim
  |brk=>
   obtain⟨_,_,_,q⟩:=q;exact q.elim
  |cont=>
   obtain⟨_,_,_,q⟩:=q;exact q.elim
end L3
namespace L2
open PySem PySem.Spec PyProof.Rows
open Sem (wp)
structure rD(s1:Ψ)(e C:ζ)(mA:ν->Option ε)(h:Ψ):Prop where
 keep:∀b o,b≠e->s1.get? b=some o->h.get? b=some o
 inst:h.Inst e C mA
 obj:∃o1 o2,s1.get? e=some o1/\h.get? e=some o2/\o2.cls=o1.cls/\o2.data=o1.data
 fresh:∀o dx,h.get? e=some o->o.dict=some dx->s1.get? dx=none
def putN(mA:ν->Option ε)(p:ν×ε):ν->Option ε:=fun y=>if y=p.1 then some p.2 else mA y
def Af(n:ν)(st:aQ):Prop:=∃p1 p2 p3 p4,st=.Assign [.Attribute (.Name "self" p1) n p2] (.Name n p3) p4
section
variable {prog:Ω} {w:ah} {A:aE} {E:ε->η->Prop} {K:θ} {C B e:ζ} {names:List ν} {env:cK} {s1:Ψ} {m:ν->Option ε}
theorem rD.store{mA:ν->Option ε}{ns:List ν}{n:ν}{v:ε}{Q:Unit->η->Prop}{s:η}(S:wN K C B names)(hn:n∈names)(X:K.In s.heap)(T:rD s1 e C mA s.heap)(hw:Within mA ns)(hsz:ns.length≤1000)
  (hq:∀h' tk',rD s1 e C (putN mA (n,v)) h'->Q () { s with heap:=h',toks:=tk' }):ξ (model prog w) A (setAttr (.ref e) n v) Q E s:=by
 refine RA S hn X T.inst hw hsz fun h' tk' I' hk hs=>hq h' tk' ⟨fun b o hb q=>?_,I',?_,fun o dx q1 q2=>?_⟩
 ·exact hk b o hb (fun o₀ dx h0 hd z=>by
   have:=T.fresh o₀ dx h0 hd;rw[←z,q] at this;cases this) (T.keep b o hb q)
 ·obtain⟨o1,o2,a1,a2,a3,a4⟩:=T.obj;obtain⟨o3,b1,b2,b3,_⟩:=hs o2 a2;exact⟨o1,o3,a1,b1,b2.trans a3,b3.trans a4⟩
 ·obtain⟨o1,o2,a1,a2,a3,a4⟩:=T.obj;obtain⟨o3,b1,b2,b3,b4,b5,b6⟩:=hs o2 a2;rw[b1] at q1;cases q1;cases hd:o2.dict with
  |some dx0=>
   rw[b5 dx0 hd] at q2;obtain rfl:=aD q2;exact T.fresh o2 _ a2 hd
  |none=>
   rw[b6 hd] at q2;cases q2;cases q3:s1.get? s.heap.objs.size with
   |none=>rfl
   |some o=>
    have bZ:s.heap.objs.size≠e:=fun z=>by
     have:=Ξ a2;rw[←z] at this;exact absurd this (bU _)
    have:=Ξ (T.keep _ _ bZ q3);exact absurd this (bU _)
theorem Rw{L:ζ}(S:wN K C B names)(hk:env.scope.kind=.function)(hloc:env.locals=L)(hLe:L≠e)(hself:env.kindOf "self" = some .local)(hds:(("self":ν)==("__debug__":ν))=false)(hms:m "self" = some (.ref e))(hns:s1.Ns L m)(pH:∀h:Ψ,(∀b o,b≠e->s1.get? b=some o->h.get? b=some o)->K.In h):
  ∀(nvs:List (ν×ε)) (body:List aQ),Paired (fun (p:ν×ε) st=>Af p.1 st/\(p.1==("__debug__":ν))=false) nvs body->(∀p∈nvs,env.kindOf p.1=some .local/\m p.1=some p.2/\p.1∈names) ->
   ∀(mA:ν->Option ε) (ns:List ν) (s:η) (Q:Flow->η->Prop),rD s1 e C mA s.heap->Within mA ns->ns.length+nvs.length≤1000 ->
   (∀h' tk',rD s1 e C (nvs.foldl putN mA) h'->Q .next { s with heap:=h',toks:=tk' })->ξ (model prog w) A (execs body env) Q E s:=by
 intro nvs
 induction nvs with
 |nil=>
  intro body hp _ mA ns s Q T _ _ hq;cases hp;exact ft (hq s.heap s.toks T)
 |cons p nvs ih=>
  intro body hpr hp mA ns s Q T hw hz hq;cases hpr with
  |@cons _ st0 _ bd hst r=>
   obtain⟨⟨p1,p2,p3,p4,rfl⟩,hdb⟩:=hst;obtain⟨k1,k2,k3⟩:=hp p χ;have hnsH:s.heap.Ns env.locals m:=by
    obtain⟨o,es,ep,ho,rr⟩:=hns;rw[hloc];exact⟨o,es,ep,T.keep _ _ hLe ho,rr⟩
   have e1:ξ (model prog w) A (eval (.Name p.1 p3) env) (fun v s₁=>ξ (model prog w) A (eval (.Name "self" p1) env) (fun ov s₂=>ξ (model prog w) A (setAttr ov p.1 v) (fun _ s3=>ξ (model prog w) A (execs bd env) Q E s3) E s₂) E s₁) E s:=by
    refine oQ (i3 hk k1 hnsH k2 ?_) hdb;refine oQ (i3 hk hself hnsH hms ?_) hds;refine T.store S k3 (pH _ T.keep) hw (by rw[aL] at hz;omega) fun h' tk' T'=>?_;exact ih _ r (fun q hq'=>hp q (ψ _ hq')) (putN mA p) (p.1::ns) { s with heap:=h',toks:=tk' } Q T' (vm p.1 p.2 hw) (by rw[aL] at hz ⊢;omega) fun h'' tk'' T''=>hq h'' tk'' T''
   exact gL (plainObj_wpAny_Assign_Attribute e1 rfl)
end
end L2
namespace L2
open PySem PySem.Spec PyProof.Rows
open Sem (wp)
structure uR(K:θ)(C B f:ζ)(fd:ag)(qual:ν)(st:aQ)(names:List ν):Prop where
 ex:wO K C B (some (.ref f))
 set:wN K C B names
 fn:dQ K "__init__" qual st f fd
 sc:bz ("self" :: names) ("self" :: names) (ω st)
 body:Paired (fun n st=>Af n st/\(n==("__debug__":ν))=false) names (eE st)
 loc:∀n∈(("self":ν)::names),(ω st).names.lookup n=some .local
 bi:Binds K fd ("self" :: names) []
 kp:bD K (.ref C)=true
 NU:names.length≤10
 ty:∃o,K.lookup f=some o/\o.cls=.type "function"
structure NM(h h':Ψ)(e d C:ζ)(mA:ν->Option ε):Prop where
 keep:∀b o,h.get? b=some o->h'.get? b=some o
 Mg:h.get? e=none
 newD:h.get? d=none
 ne:d≠e
 obj:∃oe t,h'.get? e=some oe/\oe.cls=.ref C/\oe.dict=some d/\oe.data=.fields #[.ref t,.none,.none,.none,.bool false,.none]
 ns:h'.Ns1 d mA
theorem Ki{α β γ:Type}{R:α->β->Prop}:∀{as:List α} {bs:List β} {cs:List γ},Paired R as bs->as.length=cs.length->Paired (fun (p:α×γ) b=>R p.1 b) (as.zip cs) bs
 |_,_,[],.nil,_=>.nil
 |_,_,c::cs,.cons h r,e=>.cons h (Ki r (by simpa using e))
theorem Rv{P:Ω}{w:ah}{K:θ}{C B f:ζ}{fd:ag}{qual:ν}{st:aQ}{names:List ν}{A:aE}{E:ε->η->Prop}{s:η}{us:List ε}{Q:ε->η->Prop}
  (O:uR K C B f fd qual st names) (X:K.In s.heap) (lim:s.heap.NoLimit) (hl:us.length=names.length) (bZ:names≠[]) (hdp:A.depth+4<recursionLimit)
  (hq:∀e d h' tk,NM s.heap h' e d C ((names.zip us).foldl putN fun _=>none)->Q (.ref e) { s with heap:=h',toks:=tk }):ξ (model P w) A (call (.ref C) us) Q E s:=by
 obtain⟨nm,qn,N,bs,sn,sub,ab,col,dd,k0,k1,k2,k3,k5,mN,hC,hn,hni,T⟩:=O.ex.own X;obtain⟨oc,od,kV,doc,pm,an,cdv,ct,osl,rfl,lk,iq⟩:=O.fn.ex;obtain⟨h,g,dr,t,os⟩:=s;have hf:=X _ _ lk;have hsz:us.length≤au:=by rw[hl];exact aA O.NU (by decide)
 have keepE:∀b o,h.get? b=some o->(gm h C us).get? b=some o:=fun b o q=>ι _ (ι _ q);have XE:K.In (gm h C us):=X.keeps keepE;have limE:(gm h C us).NoLimit:=lim.keeps keepE;have hsE:(gm h C us).objs.size=h.objs.size+2:=by
  unfold gm;rw[dF,dF]
 have heE:(gm h C us).get? (h.objs.size+1)=some { cls:=.ref C,data:=.fields #[.ref h.objs.size,.none,.none,.none,.bool false,.none]}:=by
  unfold gm
  heap_get
 refine RW (f:=f) PySem.F.excBase_ValueError T hC hn hni hf (by obtain⟨o,e,c⟩:=O.ty;rw[lk] at e;cases e;exact c) ?_ hsz;have hb:=O.bi ⟨gm h C us,g,dr,t,os⟩ (.ref (h.objs.size+1)::us) XE (by simp[hl]);rw[bh] at hb;have hkind:∀y∈(("self":ν)::names).zip (.ref (h.objs.size+1)::us),(ω st).names.lookup y.1=some .local∨((ω st).names.lookup y.1=some .cell/\((cellsFrom ((gm h C us).objs.size+1) (ω st).names []).lookup y.1).isSome=true):=fun⟨n,v⟩ hy=>
  .inl (O.loc n (fu hy).1)
 refine iJ (by rw[WA];lia) (XE _ _ lk) rfl O.sc.co O.sc.gen rfl (j6 XE iq) (hb _ _ _ _ ?_);refine gu O.sc.kind hkind fun env he s1 x=>?_;subst he;refine⟨limE.keeps x.toInCall.keep,pQ ?_⟩;have ndP:(("self":ν)::names).Nodup:=O.sc.nd;have hne1:(gm h C us).objs.size≠h.objs.size+1:=by rw[hsE];lia
 have e1:=x.toInCall.keep _ _ heE;have hloc:∀n∈(("self":ν)::names),(envOfC qual (ω st) (gm h C us).objs.size f cdv).kindOf n=some .local:=fun n hn=>O.loc n hn;have inst0:s1.heap.Inst (h.objs.size+1) C (fun _=>none):=⟨_,e1,rfl,fun c=>nofun,.inl ⟨rfl,fun _=>rfl⟩⟩;have T0:rD s1.heap (h.objs.size+1) C (fun _=>none) s1.heap:=⟨fun _ _ _ q=>q,inst0,⟨_,_,e1,e1,rfl,rfl⟩,fun o dx q1 q2=>by
  rw[e1] at q1;cases q1;cases q2⟩
 have hNK:∀b o,K.lookup b=some o->b≠h.objs.size+1:=fun b o q z=>by
  have:=Ξ (X _ _ q);rw[z] at this;exact absurd this (by show ¬_<h.objs.size;lia)
 obtain⟨tk,hs1⟩:∃tk,s1=⟨s1.heap,g,dr,tk,os⟩:=by
  obtain⟨h1,tk,q,_⟩:=x.done;exact⟨tk,by rw[q]⟩
 refine Rw (L:=(gm h C us).objs.size) (s1:=s1.heap) (e:=h.objs.size+1) (m:=_) O.set O.sc.kind rfl hne1 (hloc "self" χ) (by decide) ?_ x.toInCall.ns (fun h2 k b o q=>k b o (hNK b o q) (x.toInCall.keep _ _ (XE _ _ q))) (names.zip us) (eE st) (Ki O.body hl.symm) (fun p hp=>?_) (fun _=>none) [] s1 _ T0 Within.nil ?_ fun h' tk' T'=>?_
 ·exact Bf (i:=0) ndP rfl rfl (hloc "self" χ)
 ·obtain⟨i,hi,ei⟩:=gV hp;have hpm:=fu hp;refine⟨hloc p.1 (ψ _ hpm.1),?_,hpm.1⟩;have hi2:i<names.length:=by rw[mo] at hi;lia
  have hi3:i<us.length:=by lia
  have ep:p=(names[i],us[i]):=by rw[←ei,List.getElem_zip]
  refine Bf (i:=i+1) ndP ?_ ?_ (hloc p.1 (ψ _ hpm.1))
  ·rw[qj,ep,aB hi2]
  ·rw[qj,ep,aB hi3]
 ·rw[hU,mo];have:=O.NU;lia
 ·refine⟨rfl,?_⟩;obtain⟨o1,o2,a1,a2,a3,a4⟩:=T'.obj;rw[e1] at a1;cases a1;obtain⟨oe,b1,b2,b3,b4⟩:=T'.inst;rw[a2] at b1;cases b1;rw[hs1];rcases b4 with⟨_,z⟩|⟨d,c1,c2,c3⟩
  ·exfalso;cases names with
   |nil=>exact bZ rfl
   |cons n0 ns0=>
    have key:∀(l:List (ν×ε)) (m0:ν->Option ε) (y:ν),(∃v,m0 y=some v)->∃v,l.foldl putN m0 y=some v:=fun l=>by
     induction l with
     |nil=>exact fun m0 y q=>q
     |cons p l ih=>
      intro m0 y q;refine ih (putN m0 p) y ?_;unfold putN;by_cases z:y=p.1
      ·exact⟨_,if_pos z⟩
      ·rw[if_neg z];exact q
    cases us with
    |nil=>cases hl
    |cons u0 us0=>
     obtain⟨v,hv⟩:=key (ns0.zip us0) (putN (fun _=>none) (n0,u0)) n0 ⟨u0,if_pos rfl⟩;have z0:=z n0;have z1:(ns0.zip us0).foldl putN (putN (fun _=>none) (n0,u0)) n0=none:=z0;rw[hv] at z1;cases z1
  ·have fr:=T'.fresh o2 d a2 c1;refine hq (h.objs.size+1) d h' tk' ⟨fun b o q=>T'.keep b o (fun z=>?_) (x.toInCall.keep _ _ (keepE b o q)),fv (vp _),?_,c2,⟨o2,h.objs.size,a2,b2,c1,a4⟩,c3⟩
   ·have:=Ξ q;rw[z] at this;exact absurd (show h.objs.size+1<h.objs.size from this) (by lia)
   ·cases q:h.get? d with
    |none=>rfl
    |some o=>
     rw[x.toInCall.keep _ _ (keepE d o q)] at fr;cases fr
end L2
namespace L2
open PySem PySem.Spec PyProof.Rows PySem.W
open Builtin Builtin.ObjectAttr
structure rE(K:Frag)(C:ζ):Prop where
 ga:findIn K (.ref C) "__getattribute__" = some (some (.builtin "BaseException.__getattribute__"))
 gn:findIn K (.ref C) "__getattr__" = some none
 be:mroIn K C (.type "BaseException")=some true
section
variable {prog:Ω} {w:ah} {A:aE} {E:ε->η->Prop} {K:Frag} {x C:ζ} {ox:aP} {od:Option aP} {name:ν} {s:η}
theorem Ru:builtinKind "BaseException.__getattribute__" = some .slot:=by decide +kernel
theorem Rr:splitId "BaseException.__getattribute__" = some ("BaseException","__getattribute__"):=by decide +kernel
theorem Rq:plainId "BaseException.__getattribute__" = true:=by decide +kernel
theorem Rp(self:ε):bindSpecial (.builtin "BaseException.__getattribute__") self=pure (.builtin "BaseException.__getattribute__",[self]):=by kernel_rfl
theorem Kh{tk:Tok}{fill expr:Bool}{f:cS.ObjectAttr.Found}{Q:ε->η->Prop}(a:rE K C)(X:K.In s.heap)(I:InstAt s.heap x ox C od)(hf:findObj K C od name=some f)
  (h:ξ (model prog w) A.in1 (match f with | .value v=>ret v | .bind g b=>bindTo g b (.ref x) (.ref C) | .missing=>unsupported "") (fun fin s'=>match fin with | .done (.ret v)=>ξ (model prog w) A (handedOut v) Q E s' | _=>False) (fun _ _=>False) s) (hm:f≠.missing):
  ξ (model prog w) A (getAttrBy (.ref x) (.str name tk) fill expr) Q E s:=by
 obtain⟨hh,g,d,t,os⟩:=s;have L0:=I.type (M:=model prog w);have L1:=looks_findIn (M:=model prog w) X a.ga;have L2:=looks_findIn (M:=model prog w) X a.gn;have L3:=looks_find (M:=model prog w) X I hf;have sub:Looks (model prog w) hh (isInstance (.ref x) (.type "BaseException")) true:=I.type.andThen (looks_mroIn X a.be);unfold getAttrBy;refine aZ (δ (L0.at (δ (L1.at ?_))));have hx2:(je "BaseException.__getattribute__" == je "object.__getattribute__")=false:=by decide +kernel
 show ξ _ _ (if (onTheHeap (aH C)&&je "BaseException.__getattribute__" == je "object.__getattribute__")=true then _ else getAttrByItsOwn _ _ _ _ _ _) _ _ _;rw[hx2,if_neg (by simp)];unfold getAttrByItsOwn;refine δ ?_;show ξ _ _ (typeLookup (.ref C) "__getattr__") _ _ _;refine L2.at ?_;refine δ (gv (aZ ?_));have hx0:(expr&&onTheHeap (je "BaseException.__getattribute__"))=false:=by cases expr<;>rfl
 show ξ _ _ (if (expr&&onTheHeap (je "BaseException.__getattribute__"))=true then _ else boundAndCalled _ _ _) _ _ _;rw[hx0,if_neg (by simp)];unfold boundAndCalled;rw[Rp];refine δ (μ (fZ ?_));refine mf Rq F.entry_bexc_ga (@check_slot (model prog w) _ _ ⟨hh,g,d,t,os⟩ "BaseException.__getattribute__" "BaseException" "__getattribute__" (.ref x) [.str name tk] [] _ Ru Rr sub (F.args_bexc_ga (.ref x) (.str name tk)) ?_);unfold cS.«object.__getattribute__»;refine δ (μ (δ (μ (δ (L0.at (δ (L3.at ?_)))))));cases f with
 |missing=>exact absurd rfl hm
 |value v=>
  refine cb h (fun fin s' z=>?_) fun _ _ z=>z.elim;rcases fin with (_|_|_|_)|_<;>first|exact z|exact z.elim
 |bind g b=>
  refine cb h (fun fin s' z=>?_) fun _ _ z=>z.elim;rcases fin with (_|_|_|_)|_<;>first|exact z|exact z.elim
theorem exc_value{expr:Bool}{v:ε}{Q:ε->η->Prop}(a:rE K C)(X:K.In s.heap)(I:InstAt s.heap x ox C od)(hf:findObj K C od name=some (.value v))(hh:handedIn v=true)(h:Q v { s with toks:=s.toks+1 }):
  ξ (model prog w) A (getAttr (.ref x) name expr) Q E s:=by
 unfold getAttr;refine δ (wpAny_mkText (Kh (s:={ s with toks:=s.toks+1 }) a X I hf (μ ?_) (by simp)));show ξ _ _ (handedOut v) _ _ _;rw[handedOut_of hh];exact μ h
theorem Ro{Q:Option ε->η->Prop}(a:rE K C)(hc:(clsIn K C).isSome=true)(ha:findIn K (.ref C) "__class__" = some (some (.builtin "object.__class__")))(hn:specialIn K (.builtin "object.__class__") "__get__" = some (some (.builtin "getset_descriptor.__get__")))
  (Mw:takesIn K (.builtin "object.__class__")=some true) (hm:mroIn K C (.type "object")=some true) (X:K.In s.heap) (I:InstAt s.heap x ox C od) (h:Q (some (.ref C)) { s with toks:=s.toks+1 }):ξ (model prog w) A (getAttr? (.ref x) "__class__") Q E s:=by
 have hf:findObj K C od "__class__" = some (.bind (.builtin "getset_descriptor.__get__") (.builtin "object.__class__")):=by
  obtain⟨cd,iq⟩:=kc.mp hc;unfold findObj;rw[iq,i6,ha,i6];simp[hn,Mw]
 unfold getAttr? getAttrBy?;refine δ (wpAny_mkText (δ (gv ?_)));refine Kh (s:={ s with toks:=s.toks+1 }) a X I hf ?_ (by simp);show ξ _ _ (holding [_] (call (.builtin "getset_descriptor.__get__") [.builtin "object.__class__",.ref x,.ref C]) >>= ret) _ _ _;refine δ (aZ (fZ (class_get (s:={ s with toks:=s.toks+1 }) (ox:=ox) (od:=od) X I hm ?_)));exact μ (handed_on rfl (μ h))
theorem Rn(a:rE K C)(hc:(clsIn K C).isSome=true)(ha:findIn K (.ref C) "__class__" = some (some (.builtin "object.__class__")))(hn:specialIn K (.builtin "object.__class__") "__get__" = some (some (.builtin "getset_descriptor.__get__")))
  (Mw:takesIn K (.builtin "object.__class__")=some true) (hm:mroIn K C (.type "object")=some true):KitX K (.ref x) (.ref C) (fun h=>InstAt h x ox C od):=by
 obtain⟨cd,iq⟩:=kc.mp hc;obtain⟨o,ho,hcl⟩:∃o,K.lookup C=some o/\∃c,o.data=.cls c:=by
  unfold clsIn at iq;split at iq
  ·rename_i q;exact⟨_,q,_,rfl⟩
  ·cases iq
 obtain⟨oc,odd,oda,osl⟩:=o;obtain⟨c,e⟩:=hcl;dsimp only at e;subst e;refine⟨fun _ _ _ I=>I.type,fun _ _ X _=>?_,fun h tp dd its n sl X htp=>?_,fun X I k=>Ro a hc ha hn Mw hm X I k⟩
 ·intro A' Q' E' s' k q;unfold isType loadHead;exact δ (wpAny_loadPart (k _ _ (X _ _ ho)) (μ q))
 ·refine Bool.eq_false_iff.mpr fun q=>?_;have e:C=tp:=aH.inj (beq_iff_eq.mp q);subst e;have z:=(X _ _ ho).symm.trans htp;cases z
end
end L2
namespace L3
open PySem PySem.Spec PyProof.Rows L2
structure gA(K:θ)(C:ζ):Prop where
 ge:rE K C
 hd:(jg K C).isSome=true
 ha:dE K (.ref C) "__class__" = some (some (.builtin "object.__class__"))
 hn:uV K (.builtin "object.__class__") "__get__" = some (some (.builtin "getset_descriptor.__get__"))
 ht:wU K (.builtin "object.__class__")=some true
 hm:nU K C (.type "object")=some true
theorem Rm{P:Ω}{w:ah}{K:θ}{H:Hp}{h:Ψ}{p:ζ}{x:ν}{fs:List (ν×Int)}(ok:dZ P w H h)(e:jr x fs K p H):∃C oe od,dI K x C/\mU h p oe C od:=by
 obtain⟨C,dx,cn,e1,dd⟩:=e;obtain⟨⟨oe,vs,q1,q2,q3,q4,_⟩,_⟩:=(show bV P w H h p (.ext (ug p C dx)) from ok p _ e1);have hn:ku oe=true:=by
  unfold ku;rw[q4]
 rcases dd with⟨rfl,_⟩|⟨d,o,rfl,e2⟩
 ·exact⟨C,oe,none,cn,q1,q2,hn,by rw[q3];trivial⟩
 ·obtain⟨r1,_⟩:=(show bV P w H h d (.cT o (.xd _)) from ok d _ e2);exact⟨C,oe,some o,cn,q1,q2,hn,by rw[q3];exact r1⟩
theorem Rl{P:Ω}{w:ah}{K:θ}{H:Hp}{h:Ψ}{p:ζ}{x:ν}{fs:List (ν×Int)}(ok:dZ P w H h)(e:jr x fs K p H)(bZ:fs≠[]):
  ∃C oe od mA d,dI K x C/\mU h p oe C (some od)/\h.get? d=some od/\h.Ns1 d mA/\∀f,sE ((fs.map fun p=>(p.1,V.int p.2)).lookup f) (mA f):=by
 obtain⟨C,dx,cn,e1,dd⟩:=e;obtain⟨⟨oe,vs,q1,q2,q3,q4,_⟩,_⟩:=(show bV P w H h p (.ext (ug p C dx)) from ok p _ e1);rcases dd with⟨_,z⟩|⟨d,o,rfl,e2⟩
 ·exact absurd z bZ
 ·obtain⟨r1,mA,r2,r3⟩:=(show bV P w H h d (.cT o (.xd _)) from ok d _ e2);refine⟨C,oe,o,mA,d,cn,⟨q1,q2,?_,by rw[q3];exact r1⟩,r1,r2,r3⟩;unfold ku;rw[q4]
section
variable {X:Cx} {a:ρ} {ta:aU} {pos p p2:aO}
def qS(rs:List ν)(y:ν)(ta:aU):aU:=fun τ G Q=>ta τ G fun x G1=>match x with
 |.obj p=>∃z fs,G1 p=some (.gen (jr z fs))/\z∈rs/\Q (.bl (z==y)) G1
 |_=>False
theorem Kg{c:ε}{cv:V}(hc:RelV cv c)(hu:∀c',RelV cv c'->c'=c):jI X (.builtin "isinstance") (fun vs H Q=>∃q z fs b,vs=[.ref q,cv]/\jr z fs X.K q H/\(∀C,dI X.K z C->gA X.K C/\aw X.K (.ref C) c=some b)/\Q (.bl b) H):=by
 intro pins s σ H vs us Q I r h;obtain⟨q,z,fs,b,rfl,hx,hk,qq⟩:=h;obtain⟨u,c',rfl,ru,rc⟩:=vals2 r;cases (show u=aH q from ru);cases hu c' rc;obtain⟨C,oe,od,cn,J⟩:=Rm I.bF hx;obtain⟨K1,K2⟩:=hk C cn;exact dk (Rn K1.ge K1.hd K1.ha K1.hn K1.ht K1.hm) I.gk J K2 (fun z=>nomatch z) fun tk=>⟨.bl b,H,I.tok tk,rfl,qq⟩
theorem Rk{rs:List ν}{y:ν}{c:ε}{cv:V}(hk:∀z∈rs,∀C,dI X.K z C->gA X.K C/\aw X.K (.ref C) c=some (z==y)){σ:L2.St}{H:Hp}{Q:VK}(h:low X.K (qS rs y ta) σ H Q):
  CL (fun vs H Q=>∃q z fs b,vs=[.ref q,cv]/\jr z fs X.K q H/\(∀C,dI X.K z C->gA X.K C/\aw X.K (.ref C) c=some b)/\Q (.bl b) H) (Ah (low X.K ta) (Ah (tC cv) HG)) σ H Q:=by
 obtain⟨τ,G,Q3,RS,RG,h,k⟩:=h;refine⟨τ,G,_,RS,RG,h,fun v H1 d G1 h1 S1 R1 q1=>?_⟩;cases d with
 |obj q=>
  obtain⟨z,fs,e1,hz,q2⟩:=q1;rw[ip h1];exact⟨q,z,fs,_,rfl,(R1 q _ e1).1,fun C cn=>hk z hz C cn,k _ H1 (.bl (z==y)) G1 pB S1 R1 q2⟩
 |_=>exact q1.elim
theorem Rj{rs:List ν}{y:ν}{C:ζ}(hk:∀z∈rs,∀D,dI X.K z D->gA X.K D/\aw X.K (.ref D) (.ref C)=some (z==y))(ha:bT X a ta)(hm:X.mg "isinstance" = none)(hmy:X.mg y=some (.ref C))(hgy:Gl X y:=by rfl)(hdy:(y==("__debug__":ν))=false:=by decide)(hg:Gl X "isinstance":=by rfl)(he:notStar a=true:=by rfl):
  bT X (.Call (.Name "isinstance" p) [a,.Name y p2] [] pos) (qS rs y ta):=
 jS (qJ (Kg (c:=.ref C) (cv:=.ref C) rfl fun c' r=>r) hg hm rfl (pC ha (pC (L5 (v:=.ref C) hgy hmy rfl hdy) t9 (eB rfl)) (eB he)) (he:=eB he) (hpl:=kD rfl)) fun σ H Q h=>Rk hk h
def FD(rs:List ν)(ta:aU):aU:=fun τ G Q=>ta τ G fun x G1=>match x with
 |.obj p=>∃z fs,G1 p=some (.gen (jr z fs))/\z∈rs/\Q (.bl true) G1
 |_=>False
theorem Ri{rs:List ν}(hk:∀z∈rs,∀D,dI X.K z D->gA X.K D/\aw X.K (.ref D) (.type "ValueError")=some true)(ha:bT X a ta)(hm:X.mg "isinstance" = none)(hmy:X.mg "ValueError" = none)(hgy:Gl X "ValueError":=by rfl)(hg:Gl X "isinstance":=by rfl)(he:notStar a=true:=by rfl):
  bT X (.Call (.Name "isinstance" p) [a,.Name "ValueError" p2] [] pos) (FD rs ta):=
 jS (qJ (Kg (c:=.type "ValueError") (cv:=.ty "ValueError") rfl fun c' r=>r) hg hm rfl (pC ha (pC (L4 (v:=.ty "ValueError") hgy hmy rfl rfl (by decide) (by decide)) t9 (eB rfl)) (eB he)) (he:=eB he) (hpl:=kD rfl)) fun σ H Q h=>by
  obtain⟨τ,G,Q3,RS,RG,h,k⟩:=h;refine⟨τ,G,_,RS,RG,h,fun v H1 d G1 h1 S1 R1 q1=>?_⟩;cases d with
  |obj q=>
   obtain⟨z,fs,e1,hz,q2⟩:=q1;rw[ip h1];exact⟨q,z,fs,_,rfl,(R1 q _ e1).1,fun C cn=>hk z hz C cn,k _ H1 (.bl true) G1 pB S1 R1 q2⟩
  |_=>exact q1.elim
end
end L3
namespace L3
open PySem PySem.Spec PyProof.Rows L2
theorem Ed:∀{bs:List Bool} {its:List ε},bp (bs.map V.bl) its->its=bs.map dN
 |[],_,h=>h.zero
 |b::bs,_,h=>by
  cases h with
  |cons r1 r2=>rw[Ed r2,show _=dN b from r1];rfl
def zV:V->List V->Hp->VK->Prop:=fun x vs H Q=>∃(l:ζ) (bs:List Bool),x=.ref l/\vs=[.bl true]/\H l=some (.lst (bs.map V.bl))/\Q (.int ((bs.countP id:Nat):Int)) H
def zT:V->List V->Hp->VK->Prop:=fun x vs H Q=>∃(l:ζ) (bs:List Bool) (j:Nat),x=.ref l/\vs=[.bl true]/\H l=some (.lst (bs.map V.bl))/\bs[j]?=some true/\(∀i,i<j->bs[i]?=some false)/\j<1000/\Q (.int ((j:Nat):Int)) H
def GA:ε->Bool
 |.bool b=>b
 |_=>false
section
variable {X:Cx}
theorem Rh:Dh X "list.count" zV:=by
 intro pins s σ H x vs v us Q I rx rv h;obtain⟨l,bs,rfl,rfl,hH,q⟩:=h;cases rx;obtain⟨u,rfl,ru⟩:=rv.one;cases (show u=dN true from ru);obtain⟨z,its,n,r,hl,e⟩:=I.sg hH;rw[Ed r] at e;refine kr F.slot_list_count ⟨_,e,rfl⟩ F.entry_list_count (F.args_list_count_2 _ _) (SeqAt.list_countAt l (bs.map dN).toArray n none #[] (.bool true) GA) ⟨e,fun y hy=>?_,?_⟩
 ·obtain⟨b,_,rfl⟩:=aj.mp (gE.mpr hy);have:=sL (A:=X.A.in1) (s:=s) b true;cases b<;>exact this
 ·refine⟨.int ((bs.countP id:Nat):Int),H,I.tok _,⟨s.toks,?_⟩,q⟩;have e2:((bs.map dN).toArray.toList).countP GA=bs.countP id:=by
   show (bs.map dN).countP GA=_;rw[List.countP_map];rfl
  rw[e2]
theorem Rg:Dh X "list.index" zT:=by
 intro pins s σ H x vs v us Q I rx rv h;obtain⟨l,bs,j,rfl,rfl,hH,h1,h2,h3,q⟩:=h;cases rx;obtain⟨u,rfl,ru⟩:=rv.one;cases (show u=dN true from ru);obtain⟨z,its,n,r,hl,e⟩:=I.sg hH;rw[Ed r] at e;have hj:j<bs.length:=(ak.mp h1).1;refine kr F.slot_list_index ⟨_,e,rfl⟩ F.entry_list_index (F.args_list_index_2 _ _) (SeqAt.list_indexAt l (bs.map dN).toArray n none #[] (.bool true) GA j (by simpa using hj) (by omega) ?_ fun m hm hmj=>?_) ⟨e,fun y hy=>?_,?_⟩
 ·simp only[sP,List.getElem_map];rw[(ak.mp h1).2];rfl
 ·simp only[sP,List.getElem_map];rw[(ak.mp (h2 m hmj)).2];rfl
 ·obtain⟨b,_,rfl⟩:=aj.mp (gE.mpr hy);have:=sL (A:=X.A.in1) (s:=s) b true;cases b<;>exact this
 ·exact⟨.int ((j:Nat):Int),H,I.tok _,⟨_,rfl⟩,q⟩
end
section
variable {K:θ}
def Ec:D->List D->Gp->V3->Prop:=fun x ds G Q=>match x,ds with
 |.obj p,[.bl true]=>∃xs bs,G p=some (.lst xs)/\oO xs=some bs/\Q (.int ((bs.countP id:Nat):Int)) G
 |_,_=>False
def Eb:D->List D->Gp->V3->Prop:=fun x ds G Q=>match x,ds with
 |.obj p,[.bl true]=>∃xs bs j,G p=some (.lst xs)/\oO xs=some bs/\bs[j]?=some true/\(∀i,i<j->bs[i]?=some false)/\j<1000/\Q (.int ((j:Nat):Int)) G
 |_,_=>False
theorem Rf:v8 K Ec zV:=fun x vx ds vs G H Q3 Q hx hs RG q k=>by
 unfold Ec at q;split at q
 ·rename_i p;obtain⟨xs,bs,e1,e2,q⟩:=q;obtain⟨ys,e3,hv⟩:=RG p _ e1;obtain⟨v,r,rfl,hv1,hv2⟩:=hs.inv;rw[hv2.hZ,vK hv1,ip hx];exact⟨p,bs,rfl,rfl,by rw[e3,AR hv e2],k _ H (.int _) G lL (.refl H G) RG q⟩
 ·exact q.elim
theorem Rc:v8 K Eb zT:=fun x vx ds vs G H Q3 Q hx hs RG q k=>by
 unfold Eb at q;split at q
 ·rename_i p;obtain⟨xs,bs,j,e1,e2,q1,q2,q3,q⟩:=q;obtain⟨ys,e3,hv⟩:=RG p _ e1;obtain⟨v,r,rfl,hv1,hv2⟩:=hs.inv;rw[hv2.hZ,vK hv1,ip hx];exact⟨p,bs,j,rfl,rfl,by rw[e3,AR hv e2],q1,q2,q3,k _ H (.int _) G lL (.refl H G) RG q⟩
 ·exact q.elim
end
end L3
namespace L3
open PySem PySem.Spec PyProof.Rows L2
open Sem (wp)
def yw(x:ν)(names:List ν)(E:E3)(t:cM):az:=fun _ τ G=>t τ G fun ds _=>∃is:List Int,ds=is.map D.int/\is.length=names.length/\E x (names.zip is)
theorem Kf:∀(names:List ν) (is:List Int) (us:List ε) (m0:ν->Option ε) (fs0:List (ν×V)),bp (is.map V.int) us->names.length=is.length->(names.Nodup)->(∀n∈names,fs0.lookup n=none)->(∀f,sE (fs0.lookup f) (m0 f)) ->
  ∀f,sE ((((names.zip is).map fun p=>(p.1,V.int p.2))++fs0).lookup f) ((names.zip us).foldl putN m0 f)
 |[],[],us,m0,fs0,hv,_,_,_,h=>by
  rw[hv.zero];exact h
 |n::ns,i::is,us,m0,fs0,hv,hl,nd,hn,h=>by
  cases hv with
  |@cons v u vs us2 r1 r2=>
   have hnd:=dm.mp nd;intro f;have key:=Kf ns is us2 (putN m0 (n,u)) (fs0++[(n,V.int i)]) r2 (by simpa using hl) hnd.2 (fun y hy=>by
    rw[gi,hn y (ψ _ hy),cB,qy];have:(y==n)=false:=by
     rw[beq_eq_false_iff_ne];intro z;exact hnd.1 (z▸hy)
    rw[this];rfl) (fun y=>by
    unfold putN;by_cases z:y=n
    ·subst z;rw[if_pos rfl,gi,hn y χ,cB,beq_self_eq_true];exact r1
    ·rw[if_neg z,gi,cB,qy,beq_eq_false_iff_ne.mpr z];have:=h y;cases q:fs0.lookup y with
     |none=>rw[q] at this;exact this
     | some w=>rw[q] at this;exact this) f
   show sE ((((n,V.int i)::(ns.zip is).map fun p=>(p.1,V.int p.2))++fs0).lookup f) ((ns.zip us2).foldl putN (putN m0 (n,u)) f);have e:((((n,V.int i)::(ns.zip is).map fun p=>(p.1,V.int p.2))++fs0).lookup f)=((((ns.zip is).map fun p=>(p.1,V.int p.2))++(fs0++[(n,V.int i)])).lookup f):=by
    rw[List.cons_append,cB,gi,gi,gi,cB,qy];by_cases z:f=n
    ·subst z;have hz:((ns.zip is).map fun p=>(p.1,V.int p.2)).lookup f=none:=by
      rw[List.lookup_eq_none_iff];intro p hp;obtain⟨q,hq,rfl⟩:=aj.mp hp;rw[bne_iff_ne];intro z;exact hnd.1 (z▸(fu hq).1)
     rw[beq_self_eq_true,hz,hn f χ];rfl
    ·rw[beq_eq_false_iff_ne.mpr z];cases ((ns.zip is).map fun p=>(p.1,V.int p.2)).lookup f<;>cases fs0.lookup f<;>rfl
   rw[e];exact key
theorem Ke{K:θ}{H:Hp}:∀{is:List Int} {vs:List V},aF K H (is.map D.int) vs->vs=is.map V.int
 |[],_,h=>h.hZ
 |i::is,_,h=>by
  obtain⟨v,r,rfl,h1,h2⟩:=h.inv;rw[Ke h2,jb h1];rfl
theorem Ea{K:θ}{C:ζ}{bm:List ε}{init:Option ε}{newId:String}(q:excIn K C bm init newId=true):∃nm qn N bs sn sub ab col dd k0 k1 k2 k3 k5,K.lookup C=some (excClassObj nm qn C N bs bm true sn sub ab col dd k0 k1 k2 k3 k5 newId):=by
 unfold excIn at q;split at q
 ·rename_i dd cd sl ho;split at q
  ·rename_i C' bm' k0 k1 k2 k3 n k5 hm hs;simp only[bQ,beq_iff_eq,Bool.not_eq_true'] at q;obtain⟨⟨⟨⟨⟨rfl,rfl⟩,hdel⟩,hdct⟩,rfl⟩,hns⟩:=q;obtain⟨nm,bs,mro,ns,qn,hd,sn,sub,ab,col,del⟩:=cd;dsimp only at hm hdel hdct hns;subst hm hdel hdct;have hsl:sl = #[k0,k1,k2,k3,some (.builtin n),k5]:=by
    obtain⟨l⟩:=sl;simp only at hs;rw[hs]
   subst hsl;exact⟨nm,qn,ns,bs,sn,sub,ab,col,dd,k0,k1,k2,k3,k5,ho⟩
  ·cases q
 ·cases q
theorem Rb{prog:Ω}{w:ah}{A:aE}{E:ε->η->Prop}{s:η}{env:cK}{nm q:ν}{C N:ζ}{bs bm:List ε}{hdct:Bool}{sn:List ν}{sub:List ε}{ab:Bool}{col:Option Bool}{dd:Option ζ}{k0 k1 k2 k3 k5:Option ε}{newId:String}
  {x:j5 ε} {Q:Flow->η->Prop} (sA:bm.contains (.type "BaseException")=true) (hh:A.handled=none)
  (h:ξ (model prog w) A x (fun v s₁=>∃e oe t,v=.ref e/\s₁.heap.get? C=some (excClassObj nm q C N bs bm hdct sn sub ab col dd k0 k1 k2 k3 k5 newId)/\s₁.heap.get? e=some oe/\oe.cls=.ref C/\oe.data=.fields #[.ref t,.none,.none,.none,.bool false,.none]/\E (.ref e) s₁) E s):
  ξ (model prog w) A (raiseStmt env (some x) none) Q E s:=by
 have hcB:(aH C::bm).contains (.type "BaseException")=true:=by rw[nI,sA,mx]
 unfold raiseStmt;refine δ (cb h (fun v s₁ h₁=>?_) fun _ _ x=>x);obtain⟨e,oe,t,rfl,hC,he,h1,h2,hE⟩:=h₁;obtain⟨hp,g,d,tk,os⟩:=s₁;obtain⟨oc,od,oda,osl⟩:=oe;dsimp only at h1 h2;subst h1 h2
 repeat (first|with_reducible refine fz he ?_|with_reducible refine fz hC ?_|(with_reducible refine jy hC ?_;rw[hcB])|wp_step)
 exact wpAny_raiseNew_none hh hE
theorem Ra{X:Cx}{E:XK}{E':E3}{x:ν}{C B f:ζ}{fd:ag}{qual:ν}{st:aQ}{names:List ν}{k:Nat}{e:ρ}{es:List ρ}{t:cM}{np cpos pos:aO}(hB:Body X E)(hE:∀cls dx H',iU X.K E' cls dx H'->E cls dx H')(O:uR X.K C B f fd qual st names)(cn:dI X.K x C)(hm:X.mg x=some (.ref C))(hr:dH k X.A)(hc:X.calm=true)(ha:jc X (e::es) t)
  (bZ:names≠[]:=by decide) (hg:Gl X x:=by rfl) (hdb:(x==("__debug__":ν))=false:=by decide) (he:notStar e=true:=by rfl) (hpl:es.all notStar=true:=by rfl):
  nC X (.Raise (some (.Call (.Name x np) (e::es) [] cpos)) none pos) (yw x names E' t):=by
 intro pins s σ H D2 I ⟨τ,G,D3,RS,RG,h,EL⟩;rw[arm_exec_Raise];simp only[evalOpt,sM];refine δ (gs ?_);obtain⟨nm,qn,N,bs,sn,sub,ab,col,dd,k0,k1,k2,k3,k5,lk⟩:=Ea O.ex.cls;refine Rb (C:=C) (nm:=nm) (q:=qn) (N:=N) (bs:=bs) (bm:=.ref B::iC) (hdct:=true) (sn:=sn) (sub:=sub) (ab:=ab) (col:=col) (dd:=dd) (k0:=k0) (k1:=k1) (k2:=k2) (k3:=k3) (k5:=k5) (newId:="ValueError.__new__") (by rw[nI,show iC.contains (.type "BaseException")=true by decide +kernel,mx]) (I.ok.hd hc) ?_;refine δ (bJ (Q:=fun v s₁=>∃e oe t,v=.ref e/\s₁.heap.get? C=some (excClassObj nm qn C N bs (.ref B::iC) true sn sub ab col dd k0 k1 k2 k3 k5 "ValueError.__new__")/\s₁.heap.get? e=some oe/\oe.cls=.ref C/\oe.data=.fields #[.ref t,.none,.none,.none,.bool false,.none]/\X.xe (.ref e) s₁) ?_ fun v s2 q=>δ (gs (μ q)));refine cG (qK I hg hm ?_ hdb);refine er (h₀:=X.base) I.ok.mod.pH O.kp (bJ (ha cpos pins s σ H (fun vs H1=>∃is:List Int,vs=is.map V.int/\is.length=names.length/\E' x (names.zip is)) I
  ⟨τ,G,_,RS,RG,h,fun vs H1 ds G1 a b c q=>by obtain⟨is,rfl,hl,q⟩:=q;exact⟨is,Ke a,hl,q⟩⟩) fun us s1 ⟨vs,H1,I1,r,is,ev,hl,q⟩=>⟨I1.gk,?_⟩) (eB he) (kD hpl)
 subst ev;have hlu:us.length=names.length:=by rw[←r.length,π];exact hl
 refine Rv O I1.gk I1.nolimit hlu bZ (by have:=hr.dp;omega) fun e1 d h' tk M=>?_;obtain⟨oe,t1,o1,o2,o3,o4⟩:=M.obj;obtain⟨od,es1,ep1,n1,nr⟩:=M.ns;have I1k:Inv X pins σ H1 { s1 with heap:=h',toks:=tk }:=I1.kept M.keep;have gone:∀{b:ζ} {o:aP},s1.heap.get? b=some o->b≠d:=fun {b o} hb z=>by
  rw[z,M.newD] at hb;cases hb
 have I2:=I1k.FX (a:=d) (o:=.cT od (.xd ((names.zip is).map fun p=>(p.1,V.int p.2)))) (K9 I1 M.newD) (K8 hB I1 M.newD)
  ⟨n1,(names.zip us).foldl putN (fun _=>none),⟨od,es1,ep1,n1,nr⟩,fun f=>by
   have:=Kf names is us (fun _=>none) [] r hl.symm (dm.mp O.sc.nd).2 (fun _ _=>rfl) (fun _=>trivial) f;rw[bh] at this;exact this⟩
  (fun z=>by
   obtain⟨m,⟨o,_,_,ho,_⟩,_⟩:=I1.loc;exact gone ho z.symm)
  (fun y c hcc z=>by
   obtain⟨v,o,ho,_⟩:=I1.cell y c hcc;exact gone ho z)
  (fun p hp=>gone (I1.pin p hp).1)
 refine⟨e1,oe,t1,rfl,I2.gk _ _ lk,o1,o2,o4,?_⟩;have hne1:e1≠d:=M.ne.symm;refine hB.throw I2 o1 o2 o4 rfl rfl (K8 hB I1 M.Mg) (by rw[dz hne1];exact K9 I1 M.Mg) (hE _ _ _ ⟨x,C,names.zip is,rfl,cn,q,.inr ⟨d,od,o3,iO⟩⟩)
end L3
namespace L3
open PySem PySem.Spec PyProof.Rows L2
structure NX(X:Cx)(e:ρ)(t:Ae):Prop where
 of:ML X e t
structure xT(X:Cx)(st:List aQ)(t:sW):Prop where
 of:wJ X st t
section
variable {X:Cx} {k:Nat} {f:ζ} {fd:ag} {ps:List ν} {sp:nB} {sp3:dJ} {E':E3} {x:ν} {p pos:aO} {a b e c:ρ} {es:List ρ} {t:cM} {te:aU} {tx:Ae} {tax:TAX} {tc:cN} {ta tb tr:sW} {sa sb rest:List aQ}
theorem AH(F:pK X.prog X.w X.K X.mg X.base k f fd ps sp)(hr:dH k X.A)(hx:jY (fo X.prog X.w X.base) X (iU X.K E'))(hm:X.mg x=some (.ref f))(hk:bD X.K (.ref f)=true)(hb:Binds X.K fd ps [])(ha:QA X (e::es) t)(hg:Gl X x:=by rfl)
  (hdb:(x==("__debug__":ν))=false:=by decide) (he:notStar e=true:=by rfl) (hpl:es.all notStar=true:=by rfl):QE X (.Call (.Name x p) (e::es) [] pos) (rA sp E' t):=⟨Sy F hr hx hm hk hb ha.of hg hdb he hpl⟩
theorem zd(F:v9 X.prog X.w X.K X.mg X.base k f fd ps sp3)(hr:df k X.A)(hm:X.mg x=some (.ref f))(hk:bD X.K (.ref f)=true)(hb:Binds X.K fd ps [])(ha:QA X (e::es) t)(hg:Gl X x:=by rfl)
  (hdb:(x==("__debug__":ν))=false:=by decide) (he:notStar e=true:=by rfl) (hpl:es.all notStar=true:=by rfl):QE X (.Call (.Name x p) (e::es) [] pos) (bA sp3 t):=⟨Su F hr hm hk hb ha.of hg hdb he hpl⟩
theorem Kd(F:pK X.prog X.w X.K X.mg X.base k f fd ps sp)(hr:dH k X.A)(hm:X.mg x=some (.ref f))(hk:bD X.K (.ref f)=true)(hb:Binds X.K fd ps [])(ha:QA X.lB (e::es) t)(hg:Gl X x:=by rfl)
  (hdb:(x==("__debug__":ν))=false:=by decide) (he:notStar e=true:=by rfl) (hpl:es.all notStar=true:=by rfl):NX X (.Call (.Name x p) (e::es) [] pos) (wG sp t):=⟨Ss F hr hm hk hb ha.of hg hdb he hpl⟩
theorem Kc(h:NX X e tx)(hr:xT X rest tr)(hs:swapsWith e none pos.line X.env=pure false:=by rfl):xT X (.Expr e pos::rest) (wm tx tr):=⟨Sr h.of hr.of hs⟩
theorem D9:xT X [] tQ:=⟨Sq⟩
theorem Q9(hc:QT X.lB c tc)(ha:xT X sa ta)(hb:xT X sb tb)(hr:xT X rest tr):xT X (.If c sa sb pos::rest) (Dn tc ta tb tr):=⟨Sn hc.of ha.of hb.of hr.of⟩
theorem RN{E:XK}{C B:ζ}{qual:ν}{st:aQ}{names:List ν}{np cpos:aO}(hB:Body X E)(hE:∀cls dx H',iU X.K E' cls dx H'->E cls dx H')(O:uR X.K C B f fd qual st names)(cn:dI X.K x C)(hm:X.mg x=some (.ref C))(hr:dH k X.A)(hc:X.calm=true)(ha:QA X (e::es) t)
  (bZ:names≠[]:=by decide) (hg:Gl X x:=by rfl) (hdb:(x==("__debug__":ν))=false:=by decide) (he:notStar e=true:=by rfl) (hpl:es.all notStar=true:=by rfl):
  QS X (.Raise (some (.Call (.Name x np) (e::es) [] cpos)) none pos) (yw x names E' t):=⟨Ra hB hE O cn hm hr hc ha.of bZ hg hdb he hpl⟩
theorem vU{rs:List ν}{y:ν}{C:ζ}{p2:aO}(hk:∀z∈rs,∀D,dI X.K z D->gA X.K D/\aw X.K (.ref D) (.ref C)=some (z==y))(ha:QE X a te)(hm:X.mg "isinstance" = none)(hmy:X.mg y=some (.ref C))(hgy:Gl X y:=by rfl)(hdy:(y==("__debug__":ν))=false:=by decide)(hg:Gl X "isinstance":=by rfl)(he:notStar a=true:=by rfl):
  QE X (.Call (.Name "isinstance" p) [a,.Name y p2] [] pos) (qS rs y te):=⟨Rj hk ha.of hm hmy hgy hdy hg he⟩
theorem RM{rs:List ν}{p2:aO}(hk:∀z∈rs,∀D,dI X.K z D->gA X.K D/\aw X.K (.ref D) (.type "ValueError")=some true)(ha:QE X a te)(hm:X.mg "isinstance" = none)(hmy:X.mg "ValueError" = none)(hgy:Gl X "ValueError":=by rfl)(hg:Gl X "isinstance":=by rfl)(he:notStar a=true:=by rfl):
  QE X (.Call (.Name "isinstance" p) [a,.Name "ValueError" p2] [] pos) (FD rs te):=⟨Ri hk ha.of hm hmy hgy hg he⟩
end
theorem MB{P:Ω}{w:ah}{K:θ}{mg:ν->Option ε}{base:Ψ}{N:List ν}{qual:ν}{scope:eS}{f:ζ}{cd:ε}{A:aE}{outer:List cK}{s:η}{H:Hp}{E:XK}:Frame (ia oA P w K mg base N qual scope f cd A outer s H E).lB:=⟨rfl,rfl,rfl⟩
theorem yA{P:Ω}{w:ah}{K:θ}{mg:ν->Option ε}{base:Ψ}{x qual:ν}{st:aQ}{f:ζ}{fd:ag}{N ps:List ν}{k:Nat}{sp:nB}(F:dQ K x qual st f fd)(S:bz N ps (ω st))(hN:ps.length≤N.length)(len:∀ds Q E,sp ds Q E->ds.length=ps.length)(tb:E3->az)
  (fk:∀(cdv:ε) (A:aE) (outer:List cK) (s:η) (H:Hp) (E:XK) (E':E3),dH k (A.deeper (envOfC qual (ω st) s.heap.objs.size f cdv))->(∀cls dx H',iU K E' cls dx H'->E cls dx H') ->
   oz (ia (fo P w base) P w K mg base N qual (ω st) f cdv A outer s H E) (eE st) (tb E'))
  (oq:∀ds Q E,sp ds Q E->tb E (bf Q) (bc N ds) eW):pK P w K mg base (k+1) f fd ps sp:=fnX F S hN len tb (fun cdv A outer s H E E' hr hE=>(fk cdv A outer s H E E' hr hE).of) oq
theorem EI{P:Ω}{w:ah}{K:θ}{mg:ν->Option ε}{base:Ψ}{x qual:ν}{st:aQ}{f:ζ}{fd:ag}{N ps:List ν}{k:Nat}{sp:dJ}(F:dQ K x qual st f fd)(S:bz N ps (ω st))(hN:ps.length≤N.length)(len:∀ds G Q,sp ds G Q->ds.length=ps.length)(tb:az)
  (fk:∀(cdv:ε) (A:aE) (outer:List cK) (s:η) (H:Hp) (E:XK),df k (A.deeper (envOfC qual (ω st) s.heap.objs.size f cdv)) ->
   oz (Aa P w K mg base N qual (ω st) f cdv A outer s H E) (eE st) tb)
  (oq:∀ds G Q,sp ds G Q->tb (bf Q) (bc N ds) G):v9 P w K mg base (k+1) f fd ps sp:=aau F S hN len tb (fun cdv A outer s H E hr=>(fk cdv A outer s H E hr).of) oq
end L3
namespace L3
open PySem PySem.Spec PyProof.Rows L2
structure pL(K:θ)(C:ζ)(f:ν):Prop where
 ge:rE K C
 hd:uX K C=true
 nm:dE K (.ref C) f=some none
def uK(rs:List ν)(f:ν)(ta:aU):aU:=fun τ G Q=>ta τ G fun x G1=>match x with
 |.obj p=>∃z fs i,G1 p=some (.gen (jr z fs))/\z∈rs/\fs.lookup f=some i/\Q (.int i) G1
 |_=>False
theorem Kb(f:ν):∀fs:List (ν×Int),(fs.map fun p=>(p.1,V.int p.2)).lookup f=(fs.lookup f).map V.int
 |[]=>rfl
 |p::fs=>by
  rw[bP,cB,cB,Kb f fs];cases f==p.1<;>rfl
theorem RL{K:θ}{C:ζ}{od:aP}{f:ν}{u:ε}(a:pL K C f)(hl:rN f od=some (some u)):wV K C (some od) f=some (.value u):=by
 obtain⟨cd,hc,hd⟩:=PySem.W.any_some a.hd;unfold wV PySem.W.ownOf;rw[hc,i6,a.nm,i6];dsimp only[i6];rw[hd,if_pos rfl,hl];rfl
section
variable {X:Cx} {a:ρ} {ta:aU} {pos:aO} {f:ν}
theorem RK{rs:List ν}(hk:∀z∈rs,∀C,dI X.K z C->pL X.K C f)(ha:bT X a ta)(hb:attributeBase a f X.env (eval a X.env)=eval a X.env:=by rfl):bT X (.Attribute a f pos) (uK rs f ta):=by
 intro pins s σ H Q I ⟨τ,G,Q3,RS,RG,h,k⟩;refine WB hb (bJ (ha pins s σ H (fun v H1=>∃p z fs i,v=.ref p/\jr z fs X.K p H1/\z∈rs/\fs.lookup f=some i/\Q (.int i) H1) I ⟨τ,G,_,RS,RG,h,fun v H1 d G1 h1 S1 R1 q1=>?_⟩) fun u s1 ⟨v,H1,I1,rv,p,z,fs,i,ev,ex,hz,hl,q⟩=>?_)
 ·cases d with
  |obj p=>
   obtain⟨z,fs,i,e1,hz,hl,q2⟩:=q1;exact⟨p,z,fs,i,ip h1,(R1 p _ e1).1,hz,hl,k _ H1 (.int i) G1 lL S1 R1 q2⟩
  |_=>exact q1.elim
 ·subst ev;cases (show u=aH p from rv);have bZ:fs≠[]:=fun w=>by
   rw[w] at hl;cases hl
  obtain⟨C,oe,od,mA,d,cn,J,hod,hns,hrel⟩:=Rl I1.bF ex bZ;obtain⟨od2,h2,lk⟩:=WC hns;rw[hod] at h2;cases h2;have hf:=hrel f;rw[Kb,hl] at hf;obtain⟨u,hu,ru⟩:=sE.some_of (v:=V.int i) (o:=mA f) hf;obtain⟨tk,rfl⟩:=(show ∃t,u=lE i t from ru);have A1:=hk z hz C cn;exact exc_value A1.ge I1.gk J (RL A1 (by rw[lk,hu])) rfl ⟨.int i,H1,I1.tok _,⟨tk,rfl⟩,q⟩
theorem AG{rs:List ν}(hk:∀z∈rs,∀C,dI X.K z C->pL X.K C f)(ha:QE X a ta)(hb:attributeBase a f X.env (eval a X.env)=eval a X.env:=by rfl):QE X (.Attribute a f pos) (uK rs f ta):=⟨RK hk ha.of hb⟩
end
end L3
namespace L3
open PySem PySem.Spec PyProof.Rows L2
theorem RJ{K:θ}{C B:ζ}{init:Option ε}{newId:String}(e:excIn K C (.ref B::iC) init newId=true):∃cd,jg K C=some cd/\cd.mro=.ref C::.ref B::iC/\cd.hasDict=true:=by
 obtain⟨nm,qn,N,bs,sn,sub,ab,col,dd,k0,k1,k2,k3,k5,lk⟩:=Ea e;unfold jg;rw[lk];exact⟨_,rfl,rfl,rfl⟩
theorem RI{K:θ}{C:ζ}{bm:List ε}{init:Option ε}{newId:String}(e:excIn K C bm init newId=true):(jg K C).isSome=true:=by
 obtain⟨nm,qn,N,bs,sn,sub,ab,col,dd,k0,k1,k2,k3,k5,lk⟩:=Ea e;unfold jg;rw[lk];rfl
theorem RH{K:θ}{f:ζ}{T:ε}(h:rM K (.ref f)=some T):∃o,K.lookup f=some o/\o.cls=T:=by
 unfold rM at h;cases q:K.lookup f with
 |none=>simp[q] at h
 |some o=>
  simp[q] at h;exact⟨o,rfl,h⟩
def Mf:E3:=fun _ _=>False
theorem Gi{X:Cx}:jY (fo X.prog X.w X.base) X (iU X.K Mf):=fun _ _ _ _ _ _ _ h=>by
 obtain⟨_,_,_,_,_,_,_,_,_,_,_,_,_,_,_,_,_,_,_,z,_⟩:=h;exact z.elim
theorem jq{us:List ε}(h:us.length=1):∃a,us=[a]:=kS.mp h
theorem lS{us:List ε}(h:us.length=2):∃a b,us=[a,b]:=by
 rcases us with _|⟨a,us⟩
 ·cases h
 ·obtain⟨b,rfl⟩:=jq (us:=us) (Nat.succ.inj h);exact⟨a,b,rfl⟩
theorem Ms{us:List ε}(h:us.length=3):∃a b c,us=[a,b,c]:=by
 rcases us with _|⟨a,us⟩
 ·cases h
 ·obtain⟨b,c,rfl⟩:=lS (us:=us) (Nat.succ.inj h);exact⟨a,b,c,rfl⟩
end L3
namespace My
open PySem L2 L3
def Known(G:Gp):D->Prop
 |.obj a=>∃o,G a=some o/\o.plain
 |_=>True
def HE:D->Bool
 |.int _=>true
 |_=>false
theorem e7{Q:V3}{d:D}{G:Gp}(h:Q d G):(bf Q).rt d G:=⟨G,Sub.refl G,h⟩
theorem mH{Q:V3}{d:D}{G G':Gp}(s:Sub G G')(h:Q d G):(bf Q).rt d G':=⟨G,s,h⟩
theorem jR{i:Int}(h1:-(10^80)<i)(h2:i<10^80):kG i:=by
 have:i.natAbs<10^80:=by lia
 exact mj this (by decide)
theorem Sub.tN{G G':Gp}{a:ζ}{o:GO}(s:Sub G G')(h:G a=none):Sub G (dG G' a o):=fun b u e=>by
 rw[mE (fun z=>by rw[z,h] at e;cases e)];exact s b u e
def AF:dJ:=fun ds G Q=>match ds with
 |[d]=>Known G d/\Q (.bl (HE d)) G
 |_=>False
def Ka:az:=cz (uL (qo "int" (υ 0)) (BZ (qo "bool" (υ 0))))
theorem RF{nm:ν}:∀ds G Q,AF ds G Q->Ka (bf Q) (bc [nm] ds) G:=by
 intro ds G Q h;rcases ds with _|⟨d,_|⟨d2,ds⟩⟩
 ·exact h.elim
 ·cases d with
  |int i=>exact⟨fun _=>e7 h.2,nofun⟩
  |bl b=>exact⟨fun _=>e7 h.2,nofun⟩
  |aC=>exact⟨nofun,fun _=>e7 h.2⟩
  |str _=>exact⟨nofun,fun _=>e7 h.2⟩
  |tup _=>exact⟨nofun,fun _=>e7 h.2⟩
  |dW _=>exact⟨nofun,fun _=>e7 h.2⟩
  |dc _=>exact⟨nofun,fun _=>e7 h.2⟩
  |obj a=>
   obtain⟨o1,h1,hp⟩:∃o,G a=some o/\o.plain:=h.1;show match iV "int" G (.obj a) with
    |some b=>_
    |none=>_
   cases hG:G a with
   |none=>rw[h1] at hG;cases hG
   |some o=>
    cases o with
    |lst _=>simp only[iV,hG];exact⟨nofun,fun _=>e7 h.2⟩
    |ny=>simp only[iV,hG];exact⟨nofun,fun _=>e7 h.2⟩
    |fE=>simp only[iV,hG];exact⟨nofun,fun _=>e7 h.2⟩
    |gen R=>
     rw[h1] at hG;cases hG;exact hp.elim
 ·exact h.elim
abbrev vT:=AF
abbrev RE:=Ka
abbrev RD:=@RF "found"
def zc:dJ:=fun ds G Q=>∃(ns:List Int) (k:Nat),ds=[.dW (ns.map .int),.int k]/\∀i:Int,Q (.int i) G
def J9:az:=bH (kA (b9 (bx rV (υ 1) (eH oj (ο (υ 0) (ae))))) (cz (bx fG (υ 0) (υ 1))) (fJ)) (cz (eC (.int 0)))
theorem QX:∀ds G Q,zc ds G Q->J9 (bf Q) (bc ["script","k"] ds) G:=by
 rintro ds G Q ⟨ns,k,rfl,q⟩;refine⟨fun h=>?_,fun h=>e7 (q 0)⟩;have h':(k:Int)<((ns.map D.int).length:Nat):=of_decide_eq_true h;rw[π] at h';have hk:k<ns.length:=by lia
 exact⟨.int ns[k],yY (by rw[aI,aB hk];rfl),e7 (q _)⟩
def xq:dJ:=fun ds G Q=>∃n:Int,ds=[.int n]/\0≤n/\∀r:Int,0≤r->r<2147483629->Q (.int r) G
def J8:az:=bH (ck (bx oJ (bx gU (υ 0) (eC (.int 7919))) (eC (.int 2147483647))) (hName 0)) (cz (bx oJ (bx gU (bx gU (bx lJ (υ 0) (υ 0)) (bx lJ (eC (.int 48271)) (υ 0))) (eC (.int 12345))) (eC (.int 2147483629))))
theorem QV:∀ds G Q,xq ds G Q->J8 (bf Q) (bc ["seed"] ds) G:=by
 rintro ds G Q ⟨n,rfl,hn,q⟩;have h1:=gr (n+7919) (show (2147483647:Int)≠0 by decide);have h2:=fg (n+7919) (show (0:Int)<2147483647 by decide);have hb:kG ((n+7919)%2147483647):=jR (by lia) (by lia);refine⟨(by decide:(0:Int)<2147483647),⟨hb,hb⟩,⟨jR (by decide) (by decide),hb⟩,(by decide:(0:Int)<2147483629),e7 (q _ ?_ ?_)⟩
 ·exact gr _ (by decide)
 ·exact fg _ (by decide)
def AE:dJ:=fun ds G Q=>∃(p:ζ) (m i j k:Int),ds=[.obj p,.int m]/\G p=some (.lst [.int i,.int j,.int k])/\uQ i j k/\0<m/\kG m ∧
 ∀r i' j' k':Int,uQ i' j' k'->0≤r->r<m->Q (.int r) (dG G p (.lst [.int i',.int j',.int k']))
def kO:dJ:=fun ds G Q=>∃(p:ζ) (m:Int),ds=[.obj p,.int m]/\G p=some .ny/\(0<m/\kG m)/\∀r:Int,0≤r->r<m->Q (.int r) G
def J7:az:=bH (kA (b9 (bx (fQ false) (bx fG (υ 0) (eC (.int 1))) (eC (.int 1)))) (bH (ck (bx oJ (bx fG (υ 0) (eC (.int 0))) (υ 1)) (hName 2)) (bH (ck (bx uI (bx fG (υ 0) (eC (.int 0))) (υ 1)) (hSub (υ 0) (eC (.int 0)))) (cz (υ 2)))) (fJ)) (bH (ck (bA xq (ο (bx gU (bA xq (ο (bx fG (υ 0) (eC (.int 2))) (ae))) (eC (.int 7))) (ae))) (hSub (υ 0) (eC (.int 2)))) (cz (bx oJ (bx uI (bx fG (υ 0) (eC (.int 2))) (eC (.int 64))) (υ 1))))
theorem QU:∀ds G Q,AE ds G Q->J7 (bf Q) (bc ["pen","many","found"] ds) G:=by
 rintro ds G Q ⟨p,m,i,j,k,rfl,hp,ok,hm,hb,q⟩;obtain⟨o1,o2,o3⟩:=ok;refine⟨_,_,hp,rfl,_,_,rfl,rfl,ba _,fun _=>?_,fun _=>?_⟩
 ·refine⟨_,_,hp,rfl,hm,_,_,hp,rfl,⟨hm,hb⟩,_,0,hp,rfl,?_⟩;refine e7 (q (i%m) (i / m) j k ⟨?_,o2,o3⟩ ?_ ?_)
  ·exact qA o1 (by lia)
  ·exact gr _ (by lia)
  ·exact fg _ hm
 ·refine⟨_,_,hp,rfl,_,rfl,o2,fun r h1 h2=>⟨_,rfl,(by lia),fun r' h3 h4=>?_⟩⟩;refine⟨_,2,hp,rfl,_,_,jT,rfl,⟨by decide,jR (by decide) (by decide)⟩,hm,?_⟩;refine e7 (q _ i j r' ⟨o1,h3,by lia⟩ ?_ ?_)
  ·exact gr _ (by lia)
  ·exact fg _ hm
theorem QR{K:θ}:∀vs H Q E,kW K kO vs H Q E->kW K AE vs H Q E:=by
 rintro vs H Q E ⟨ds,G,Q3,hd,RG,⟨p,m,rfl,hp,hm,q⟩,k⟩;obtain⟨i,j,l,e,ok⟩:=RG p _ hp;refine⟨_,dG G p (.lst [.int i,.int j,.int l]),fun d G'=>∃i' j' l',uQ i' j' l'/\G'=dG G p (.lst [.int i',.int j',.int l'])/\Q3 d G,hd,?_,⟨p,m,i,j,l,rfl,jT,ok,hm.1,hm.2,fun r i' j' k' ok' h1 h2=>⟨i',j',k',ok',V4,q r h1 h2⟩⟩,?_⟩
 ·intro a o ea;by_cases z:a=p
  ·subst z;rw[jT] at ea;cases ea;exact⟨_,e,.cons (by simp[Hv]) (.cons (by simp[Hv]) (.cons (by simp[Hv]) .nil))⟩
  ·rw[mE z] at ea;exact RG a o ea
 ·rintro v H' d G' hv S R ⟨i',j',l',ok',rfl,h3⟩;refine k v H' d G hv ⟨fun a o ea n=>S.fr a o ea ?_,S.nZ,fun a n z=>absurd n z⟩ (fun a o ea=>?_) h3
  ·have:a≠p:=fun z=>by rw[z,hp] at n;cases n
   rw[mE this];exact n
  ·by_cases z:a=p
   ·subst z;rw[hp] at ea;cases ea;obtain⟨ws,e1,e2⟩:=R a _ jT;have:=vH e2 (ns:=[i',j',l']) rfl;subst this;exact⟨i',j',l',e1,ok'⟩
   ·exact R a o (by rw[mE z];exact ea)
def AD:dJ:=fun ds G Q=>∃c:Int,ds=[.int c]/\∀p i j k G',eD G p (.lst [.int i,.int j,.int k]) G'->uQ i j k->Q (.obj p) G'
def D8:dJ:=fun ds G Q=>∃c:Int,ds=[.int c]/\∀p G',eD G p .ny G'->Q (.obj p) G'
def J6:az:=bH (ck (eH EJ (ο (υ 0) (ο (bx yb (eC (.int 0)) (υ 0)) (ae)))) (hName 1)) (cz (jv (ο (υ 1) (ο (eH Bn (ο (bx HS (υ 1) (bx Gd (eC (.int 10)) (eC (.int 18)))) (ae))) (ο (bx oJ (υ 1) (eC (.int 1000003))) (ae))))))
theorem QQ:∀ds G Q,AD ds G Q->J6 (bf Q) (bc ["cell","left"] ds) G:=by
 rintro ds G Q ⟨c,rfl,q⟩;refine⟨⟨by decide,by decide,by decide⟩,(by decide:(0:Int)<1000003),fun p G' hp=>e7 (q p _ _ _ _ hp ⟨?_,?_,?_⟩)⟩
 ·split<;>lia
 ·exact gr _ (by decide)
 ·exact Int.lt_trans (fg _ (by decide)) (by decide)
theorem QP{K:θ}:∀vs H Q E,kW K D8 vs H Q E->kW K AD vs H Q E:=by
 rintro vs H Q E ⟨ds,G,Q3,hd,RG,⟨c,rfl,q⟩,k⟩;refine⟨_,G,fun d G'=>∃p i j l,uQ i j l/\eD G p (.lst [.int i,.int j,.int l]) G'/\d=.obj p,hd,RG,⟨c,rfl,fun p i j l G' hp ok=>⟨p,i,j,l,ok,hp,rfl⟩⟩,?_⟩;rintro v H' d G' hv S R ⟨p,i,j,l,ok,hp,rfl⟩;refine k v H' _ (dG G' p .ny) hv ⟨S.fr,S.nZ,fun a n z=>S.new a n ?_⟩ (fun a o ea=>?_) (q p _ ⟨hp.aC,Sub.tN hp.sub hp.aC,jT⟩)
 ·by_cases y:a=p
  ·rw[y,hp.at_];simp
  ·rw[mE y] at z;exact z
 ·by_cases z:a=p
  ·subst z;rw[jT] at ea;cases ea;obtain⟨ws,e1,e2⟩:=R a _ hp.at_;have:=vH e2 (ns:=[i,j,l]) rfl;subst this;exact⟨i,j,l,e1,ok⟩
  ·rw[mE z] at ea;exact R a o ea
abbrev aG:=Int×Int
def cD(c:aG):D:=.tup [.int c.1,.int c.2]
def fW(cs:List aG):D:=.tup (cs.map cD)
def Valid(c:aG):Prop:=0<c.1/\0≤c.2/\c.2<c.1
def rg(n:Int)(c:aG):Bool:=n%c.1==c.2
theorem dY{n:Nat}(h:n≤1000):n≤au:=aA h (by decide)
theorem lM{α:Type}{guard:Gp->Prop}{g:iu}{tc:cN}{te:aU}{Q:List D->Gp->Prop}(I:S3->Prop)(h:α->D)(pr:α->Bool)(f:α->D){G:Gp}(hg:guard G):∀(xs:List α) (acc:List D) (τ:S3),I τ ->
  (∀x∈xs,∀τ (K1:S3->Gp->Prop) (K2:S3->D->Gp->Prop),I τ->(pr x=true->∀τ2,I τ2->K2 τ2 (f x) G)->(pr x=false->∀τ2,I τ2->K1 τ2 G)->g (h x) τ G fun τ2 G2=>tc τ2 G2 fun b G3=>Br b (te τ2 G3 fun v G4=>K2 τ2 v G4) (K1 τ2 G3)) ->
  Q (acc++(xs.filter pr).map f) G->g6 guard g tc te Q (xs.map h) acc τ G
 |[],acc,τ,_,_,q=>⟨hg,by simpa using q⟩
 |d::ds,acc,τ,hI,hs,q=>by
  refine⟨hg,hs d χ τ (fun τ2 G3=>g6 guard g tc te Q (ds.map h) acc τ2 G3) (fun τ2 v G4=>g6 guard g tc te Q (ds.map h) (acc++[v]) τ2 G4) hI (fun hp τ2 h2=>?_) fun hp τ2 h2=>?_⟩
  ·refine lM I h pr f hg ds _ τ2 h2 (fun d' hd=>hs d' (ψ _ hd)) ?_;rw[kJ hp] at q;simpa using q
  ·refine lM I h pr f hg ds _ τ2 h2 (fun d' hd=>hs d' (ψ _ hd)) ?_;rw[qk (by rw[hp];simp)] at q;exact q
end My
namespace My
open PySem L2 L3
def cX(c:aG):Dat.D:=.tup [.int c.1,.int c.2]
theorem D7:∀cs:List aG,dP (cs.map cD)=some (cs.map cX)
 |[]=>rfl
 |c::cs=>by
  show (match iE (cD c) with
   |some x=>match dP (cs.map cD) with
    |some xs=>some (x::xs)
    |none=>none
   | none=>none)=_
  rw[D7 cs];rfl
theorem qM{G:Gp}{a:ζ}{ds:List D}{xs:List Dat.D}(h:G a=some (.lst ds))(e:dP ds=some xs):rR G (.obj a)=some (.lst xs):=by
 unfold rR;simp only[h,e]
theorem J5:∀cs:List aG,Dat.fI (cs.map cX)≤1
 |[]=>ba _
 |c::cs=>by
  show max (cX c).jW (Dat.fI (cs.map cX))≤1;have h1:(cX c).jW=1:=rfl;have:=J5 cs;omega
theorem J4(cs:List aG):(Dat.D.lst (cs.map cX)).jW≤50:=by
 show Dat.fI (cs.map cX)+1≤50;have:=J5 cs;omega
theorem D6(xs:List Dat.D):(Dat.D.lst xs).fm (.lst [])=xs.isEmpty:=by
 cases xs with
 |nil=>rfl
 |cons x xs=>rfl
def eV(n:Int)(c:aG):Bool:=(n-c.2)%c.1==0
theorem D5{c:aG}(h:Valid c)(n:Int):eV n c=rg n c:=by
 obtain⟨h1,h2,h3⟩:=h;unfold rg eV;rw[jM];simp only[beq_iff_eq];constructor
 ·intro e;have h4:=Int.emod_emod_of_dvd n (Int.dvd_refl c.1);have:n%c.1=c.2%c.1:=jN.mpr e;rw[this];exact Int.emod_eq_of_lt h2 h3
 ·intro e;refine jN.mp ?_;rw[e];exact (Int.emod_eq_of_lt h2 h3).symm
end My
namespace My
open PySem L2 L3
def qT{α:Type}(xs:List α)(lo hi:Option Int):List α:=(xs.drop (HT.cq xs.length 0 lo)).take (HT.cq xs.length xs.length hi-HT.cq xs.length 0 lo)
theorem rX{α:Type}(f:α->D)(xs:List α)(lo hi:Option Int):jw (xs.map f) lo hi=(qT xs lo hi).map f:=by
 unfold jw qT;rw[π,tm,tu]
theorem QN{α:Type}(xs:List α)(lo hi:Option Int):(qT xs lo hi).length≤xs.length:=by
 unfold qT;rw[bW,fV];lia
theorem xp{α:Type}(xs:List α)(k:Nat):qT xs none (some (k:Int))=xs.take k:=by
 unfold qT;rw[HT.yx,HT.zS];simp only[List.drop_zero,Nat.sub_zero];by_cases h:k≤xs.length
 ·rw[Nat.min_eq_left h]
 ·rw[Nat.min_eq_right (by lia),List.take_length,gd (by lia)]
theorem J3{α:Type}(xs:List α)(k:Nat):qT xs (some (k:Int)) none=xs.drop k:=by
 unfold qT;rw[HT.yx,HT.zS];by_cases h:k≤xs.length
 ·rw[Nat.min_eq_left h];exact gd (by rw[fV];lia)
 ·rw[Nat.min_eq_right (by lia),List.drop_length,ik (by lia)];simp
def xK(M:Int)(cs:List aG):Prop:=∀c∈cs,Valid c/\c.1≤M
theorem QM{s r k i:Int}(h:Valid (s,r))(h1:0≤i)(h2:i<k):Valid (s*k,r+s*i):=by
 obtain⟨a,b,c⟩:=h;simp only at a b c;have q:=mC (show i≤k-1 by lia) (show 0≤s by lia);rw[Int.mul_sub,Int.mul_one] at q;have q2:=Int.mul_nonneg (show 0≤s by lia) h1;refine⟨?_,?_,?_⟩
 ·exact Int.mul_pos a (by lia)
 ·show 0≤r+s*i;lia
 ·show r+s*i<s*k;lia
theorem D4{α:Type}(f:α->D){xs:List α}{r:Int}(h1:0≤r)(h2:r<(xs.length:Nat)):∃x,xs[r.toNat]?=some x/\x∈xs/\kF (xs.map f) r=some (f x):=by
 have hk:r.toNat<xs.length:=by lia
 refine⟨xs[r.toNat],aB hk,i8 hk,?_⟩;have e:r=((r.toNat:Nat):Int):=by lia
 have q:kF (xs.map f) ((r.toNat:Nat):Int)=some (f xs[r.toNat]):=yY (by rw[aI];simp[hk]);rw[←e] at q;exact q
theorem AB{ns:List Int}{r:Int}(h1:0≤r)(h2:r<(ns.length:Nat)):∃n,n∈ns/\kF (ns.map D.int) r=some (.int n):=by
 obtain⟨x,_,h3,h4⟩:=D4 D.int h1 h2;exact⟨x,h3,h4⟩
end My
namespace My
open PySem L2 L3
def il(c:aG):List Int:=[c.1,c.2]
theorem AA(cs:List aG):(cs.map il).map tupI=cs.map cD:=by
 rw[cZ];rfl
theorem D1{cs:List aG}:∀{mss:List (List Int)},(∀ns∈mss,ns∈cs.map il)->∃cs':List aG,mss=cs'.map il/\∀c∈cs',c∈cs
 |[],_=>⟨[],rfl,fun c hc=>nomatch hc⟩
 |ns::mss,h=>by
  obtain⟨cs',e,hc⟩:=D1 (mss:=mss) fun n hn=>h n (ψ _ hn);obtain⟨c,h1,rfl⟩:=aj.mp (h ns χ);refine⟨c::cs',by simp[e],fun d hd=>?_⟩;rcases Δ.mp hd with rfl|hd
  ·exact h1
  ·exact hc d hd
def GF(a b:aG):Prop:=a.1<b.1∨(a.1=b.1/\a.2<b.2)
def qU(cs:List aG):Prop:=cs.Pairwise GF
theorem zb{a b:aG}(h:il a=il b):a=b:=by
 obtain⟨s,r⟩:=a;obtain⟨s',r'⟩:=b;simp[il] at h;simp[h]
theorem QL{a b:aG}(h:gp.lx (il b) (il a)=false)(bZ:a≠b):GF a b:=by
 obtain⟨s,r⟩:=a;obtain⟨s',r'⟩:=b;unfold il at h;simp only[gp.lx] at h;by_cases e:s'=s
 ·rw[if_pos e] at h;by_cases e2:r'=r
  ·exact absurd (by rw[e,e2]) bZ
  ·rw[if_neg e2] at h;have:=of_decide_eq_false h;exact .inr ⟨e.symm,by simp only;lia⟩
 ·rw[if_neg e] at h;have:=of_decide_eq_false h;exact .inl (by simp only;lia)
theorem J0{cs:List aG}(h:kn (cs.map il))(nd:(cs.map il).Nodup):qU cs:=by
 have h1:=cm.mp h;have h2:=cm.mp nd;exact (h1.and h2).imp fun {a b} q=>QL q.1 fun z=>q.2 (by rw[z])
theorem qU.take{cs:List aG}(h:qU cs)(n:Nat):qU (cs.take n):=kX.sublist (kL n cs) h
theorem JZ{cs:List aG}{mss:List (List Int)}(hmem:∀ns,ns∈mss↔ns∈cs.map il)(nd:mss.Nodup)(hr:kn mss)(hl:mss.length≤(cs.map il).length):
  ∃cs':List aG,mss=cs'.map il/\(∀c,c∈cs'↔c∈cs)/\qU cs'/\cs'.length≤cs.length:=by
 obtain⟨cs',rfl,hc⟩:=D1 fun ns hn=>(hmem ns).mp hn;refine⟨cs',rfl,fun c=>⟨fun h=>hc c h,fun h=>?_⟩,J0 hr nd,by simpa using hl⟩;obtain⟨c',h1,h2⟩:=aj.mp ((hmem (il c)).mpr (aj.mpr ⟨c,h,rfl⟩));rw[←zb h2];exact h1
theorem D0{cs:List aG}:∀ns∈cs.map il,ns≠[]:=fun ns hn=>by
 obtain⟨c,_,rfl⟩:=aj.mp hn;simp[il]
theorem DZ{G:Gp}{a:ζ}{cs:List aG}(e:G a=some (.lst (cs.map cD))):G a=some (.lst ((cs.map il).map tupI)):=by rw[AA];exact e
theorem QK{r:Int}{n:Nat}(h1:0≤r)(h2:r<(n:Int)):seqIndex? r n=some r.toNat:=by
 unfold seqIndex?;simp only[if_neg (show ¬r<0 by lia)];rw[if_pos (by simp;lia)]
theorem JY{α β:Type}(f:α->β):∀(xs:List α) (i:Nat),(xs.map f).eraseIdx i=(xs.eraseIdx i).map f
 |[],_=>rfl
 |_::_,0=>rfl
 |x::xs,i+1=>by simp[JY f xs i]
end My
namespace My
open PySem L2 L3
theorem xo{guard:Gp->Prop}{g:iu}{tc:cN}{te:aU}{Q:List D->Gp->Prop}(I:List D->List D->S3->Gp->Prop)(hg:∀ds acc τ G,I ds acc τ G->guard G)
  (step:∀d ds acc τ G (K1:S3->Gp->Prop) (K2:S3->D->Gp->Prop),I (d::ds) acc τ G->(∀τ' v G',I ds (acc++[v]) τ' G'->K2 τ' v G')->(∀τ' G',I ds acc τ' G'->K1 τ' G')->g d τ G fun τ2 G2=>tc τ2 G2 fun b G3=>Br b (te τ2 G3 fun v G4=>K2 τ2 v G4) (K1 τ2 G3))
  (mL:∀acc τ G,I [] acc τ G->Q acc G):∀ds acc τ G,I ds acc τ G->g6 guard g tc te Q ds acc τ G
 |[],acc,τ,G,h=>⟨hg _ _ _ _ h,mL _ _ _ h⟩
 |d::ds,acc,τ,G,h=>⟨hg _ _ _ _ h,step d ds acc τ G (fun τ2 G3=>g6 guard g tc te Q ds acc τ2 G3) (fun τ2 v G4=>g6 guard g tc te Q ds (acc++[v]) τ2 G4) h
   (fun τ' v G' q=>xo I hg step mL ds _ τ' G' q) fun τ' G' q=>xo I hg step mL ds _ τ' G' q⟩
theorem wrote{G G1:Gp}{q:ζ}{o o':GO}(n:eD G q o G1):eD G q o' (dG G1 q o'):=⟨n.aC,Sub.tN n.sub n.aC,jT⟩
end My
namespace My
open PySem L2 L3
def JX:dJ:=fun ds G Q=>∃a b:Nat,ds=[.int a,.int b]/\Q (.int (gI a b:Nat)) G
def QJ:az:=Aj 0 1 (ο (υ 1) (ο (bx oJ (υ 0) (υ 1)) (ae)))
def QH:az:=cz (υ 0)
def JW:az:=bH (wy (b9 (bx Dr (υ 1) (eC (.int 0)))) (QJ)) QH
theorem QF:∀ds G Q,JX ds G Q->JW (bf Q) (bc ["one","other"] ds) G:=by
 rintro ds G Q ⟨a,b,rfl,q⟩;refine⟨fun m τ G'=>G'=G/\∃a':Nat,τ=[some (.int a'),some (.int (m:Nat))]/\gI a' m=gI a b,⟨b,rfl,a,rfl,rfl⟩,?_⟩;rintro m τ G' ⟨rfl,a',rfl,hg⟩;refine⟨fun h=>?_,fun h=>?_⟩
 ·have h':(0:Int)<(m:Int):=of_decide_eq_true h;refine⟨h',a'%m,by exact_mod_cast hJ a' (by lia),rfl,m,?_,?_⟩
  ·show [some (D.int (m:Nat)),some (D.int ((a':Int)%(m:Int)))]=_;rw[←Int.natCast_emod]
  ·rw[←hg,pY a' m,Nat.gcd_rec m a',pY]
 ·have h':¬((0:Int)<(m:Int)):=of_decide_eq_false h;have:m=0:=by lia
  subst this;rw[Nat.gcd_zero_right] at hg;rw[←hg] at q;exact e7 q
def tY(cs:List aG)(a:Nat):Nat:=cs.foldl (fun a c=>iM a c.1.toNat) a
def dy(cs:List aG):Nat:=tY cs 1
theorem JV{n:Nat}(h:n<10^80):kG (n:Int):=by
 show (n:Int).natAbs<2^4000;exact mj (by simpa using h) (by decide)
def rW:dJ:=fun ds G Q=>∃cs:List aG,ds=[fW cs]/\xK 1000 cs/\cs.length≤12/\Q (.int (dy cs:Nat)) G
def QD:az:=cz (υ 1)
end My
namespace My
open PySem L2 L3
def za:dJ:=fun ds G Q=>∃a b:Nat,ds=[.int a,.int b]/\Q (.int (gI a b:Nat)) G
def QB:az:=ck (υ 2) (hName 1)
def Qz:az:=bH (ck (υ 1) (hName 0)) QB
def Qy:az:=bH (ck (bx oJ (υ 0) (υ 1)) (hName 2)) Qz
def Qx:az:=cz (υ 0)
def JU:az:=bH (wy (b9 (bx (fQ true) (υ 1) (eC (.int 0)))) (Qy)) Qx
theorem Qw:∀ds G Q,za ds G Q->JU (bf Q) (bc ["one","other","left"] ds) G:=by
 rintro ds G Q ⟨a,b,rfl,q⟩;refine⟨fun m τ G'=>G'=G/\∃(a':Nat) (x:Option D),τ=[some (.int a'),some (.int (m:Nat)),x]/\gI a' m=gI a b,⟨b,rfl,a,_,rfl,rfl⟩,?_⟩;rintro m τ G' ⟨rfl,a',x,rfl,hg⟩;refine⟨_,_,rfl,rfl,ba _,fun h=>?_,fun h=>?_⟩
 ·have h1:(!((m:Int)==0))=true:=h;have h':(0:Int)<(m:Int):=by simp at h1;lia
  refine⟨h',a'%m,by exact_mod_cast hJ a' (by lia),rfl,m,some (.int (a'%m:Nat)),?_,?_⟩
  ·show [some (D.int (m:Nat)),some (D.int ((a':Int)%(m:Int))),some (D.int ((a':Int)%(m:Int)))]=_;rw[←Int.natCast_emod]
  ·rw[←hg,pY a' m,Nat.gcd_rec m a',pY]
 ·have h1:(!((m:Int)==0))=false:=h;have:m=0:=by simp at h1;lia
  subst this;rw[Nat.gcd_zero_right] at hg;rw[←hg] at q;exact e7 q
def nD(n:Nat):D:=.int (n:Nat)
def xE(ns:List Nat)(a:Nat):Nat:=ns.foldl iM a
def y9:dJ:=fun ds G Q=>∃(p:ζ) (ns:List Nat),ds=[.obj p]/\G p=some (.lst (ns.map nD))/\(∀n∈ns,0<n/\n≤1000)/\ns.length≤20/\Q (.int (xE ns 1:Nat)) G
def Qv:az:=ck (bx lJ (υ 1) (bx uI (υ 2) (bA za (ο (υ 1) (ο (υ 2) (ae)))))) (hName 1)
def Qu:az:=cz (υ 1)
def Qt:az:=bH (hX (iW (υ 0)) (hName 2) (Qv)) Qu
def JT:az:=bH (ck (eC (.int 1)) (hName 1)) Qt
theorem Qs:∀ds G Q,y9 ds G Q->JT (bf Q) (bc ["numbers","least","number"] ds) G:=by
 rintro ds G Q ⟨p,ns,rfl,hp,ok,hl,q⟩;refine⟨_,hp,?_⟩;refine nv (fun ds τ G'=>G'=G/\∃(zs:List Nat) (a:Nat) (x2:Option D),ds=zs.map nD/\τ=[some (.obj p),some (.int a),x2]/\(∀n∈zs,0<n/\n≤1000)/\0<a/\a*1000^zs.length≤1000^20/\xE zs a=xE ns 1) (fun _ _ _ h=>by rw[h.1];exact hp) ?_ ?_ _ _ _ ⟨rfl,ns,1,none,rfl,rfl,ok,by decide,?_,rfl⟩
 ·rintro d ds τ G' N ⟨rfl,zs,a,x2,e,rfl,okz,ha,hb,hr⟩ hN;cases zs with
  |nil=>cases e
  |cons n zs=>
   cases e;obtain⟨hs1,hs2⟩:=okz _ χ;have hg:0<gI a n:=qi _ ha;have hga:gI a n≤a:=jh ha (Nat.gcd_dvd_left _ _);have ha20:a≤1000^20:=aA (qh _ (Nat.pow_pos (by decide))) hb;have hbig:∀k:Nat,k≤1000^20->kG (k:Int):=fun k hk=>JV (fc hk (by decide));refine⟨a,n,rfl,⟨by lia,hbig _ (aA hga ha20)⟩,⟨hbig _ ha20,?_⟩,?_⟩
   ·show kG ((n:Int) / (gI a n:Nat));rw[←lu];exact hbig _ (aA (Nat.div_le_self _ _) (aA hs2 (by decide)))
   have el:a*(n / gI a n)=iM a n:=by
    unfold iM;rw[Nat.mul_div_assoc a (Nat.gcd_dvd_right a n)]
   refine hN _ _ ⟨rfl,zs,iM a n,some (nD n),rfl,?_,fun c hc=>okz c (ψ _ hc),vq ha (by lia),?_,hr⟩
   ·show [some (D.obj p),some (D.int ((a:Int)*((n:Int) / (gI a n:Nat)))),_]=_;rw[←lu,←mv,el]
   ·refine aA ?_ hb;rw[aL,eR,mi (1000^zs.length) 1000,←Nat.mul_assoc];refine sN _ ?_;have:iM a n≤a*n:=jh (Nat.mul_pos ha (by lia)) (vt (Nat.dvd_mul_right _ _) (Nat.dvd_mul_left _ _));exact aA this (tG _ (by lia))
 ·rintro τ G' ⟨rfl,zs,a,x2,e,rfl,okz,ha,hb,hr⟩;have:zs=[]:=by cases zs with
   |nil=>rfl
   |cons z zs=>cases e
  subst this;have hr':a=xE ns 1:=hr;rw[←hr'] at q;exact e7 q
 ·rw[Nat.one_mul];exact cE (by decide) hl
theorem Qr(cs:List aG)(a:Nat):xE (cs.map fun c=>c.1.toNat) a=tY cs a:=by
 unfold xE tY;rw[List.foldl_map]
def y8:dJ:=fun ds G Q=>∃cs:List aG,ds=[fW cs]/\xK 1000 cs/\cs.length≤20/\Q (.int (dy cs:Nat)) G
def JS:az:=cz (bA y9 (ο (fX ["clock"] [] (iW (υ 0)) (hName 0) (eI) (bx fG (υ 0) (eC (.int 0)))) (ae)))
theorem filter_all{α:Type}(xs:List α):xs.filter (fun _=>true)=xs:=tK.mpr fun _ _=>rfl
theorem Qq:∀ds G Q,y8 ds G Q->JS (bf Q) (bc ["clocks"] ds) G:=by
 rintro ds G Q ⟨cs,rfl,ok,hl,q⟩;refine⟨by show (cs.map cD).length≤au;rw[π];exact dY (by lia),?_⟩;refine lM (fun τ=>∃x,τ=[x]) cD (fun _=>true) (fun c=>nD c.1.toNat) (G:=G) trivial cs [] _ ⟨none,rfl⟩ ?_ ?_
 ·rintro⟨s,r⟩ hm τ K1 K2 ⟨x,rfl⟩ h1 h2;refine⟨fun _=>⟨_,rfl,?_⟩,nofun⟩;have hs:0<s:=(ok _ hm).1.1;have:=h1 rfl [some (cD (s,r))] ⟨_,rfl⟩;show K2 [some (cD (s,r))] (.int s) G;rw[show D.int s=nD (s,r).1.toNat by show D.int s=D.int ((s.toNat:Nat):Int);rw[jz (by lia)]];exact this
 ·intro p G' n;rw[filter_all,cW,show cs.map (fun c:aG=>nD c.1.toNat)=(cs.map fun c:aG=>c.1.toNat).map nD by rw[cZ];rfl] at n;refine⟨p,_,rfl,n.at_,fun k hk=>?_,by rw[π];exact hl,?_⟩
  ·obtain⟨c,hc,rfl⟩:=aj.mp hk;obtain⟨⟨a,_⟩,b⟩:=ok c hc;lia
  ·rw[Qr];exact mH n.sub q
end My
namespace My
open PySem L2 L3
theorem mG{c:aG}{n:Int}:eV n c=true↔c.1∣n-c.2:=by
 unfold eV;rw[beq_iff_eq];exact⟨Int.dvd_of_emod_eq_zero,Int.emod_eq_zero_of_dvd⟩
end My
namespace My
open PySem L2 L3
theorem vz(n:Nat):iF 0 n=(ao n).map nD:=by
 unfold iF;refine eO fun i _=>?_;show D.int (0+(i:Int))=D.int (i:Int);rw[Int.zero_add]
end My
namespace My
open PySem L2 L3
def zF(G:Gp):D->Prop
 |.tup ds=>∀d∈ds,Known G d
 |.obj a=>∃o,G a=some o/\o.plain
 |_=>True
theorem Ku{G:Gp}{d:D}(h:zF G d)(hn:∀ds,d≠.tup ds):iV "tuple" G d=some false:=by
 cases d with
 |obj a=>
  obtain⟨o,hG,hp⟩:∃o,G a=some o/\o.plain:=h;cases o with
  |gen R=>exact hp.elim
  |_=>simp[iV,hG]
 |tup ds=>exact absurd rfl (hn ds)
 |_=>rfl
end My
namespace My
open PySem L2 L3
theorem Qp{cs:List aG}{mss:List (List Int)}(hp:mss.Perm (cs.map il))(nd:cs.Nodup)(hr:kn mss):∃cs':List aG,mss=cs'.map il/\(∀c,c∈cs'↔c∈cs)/\qU cs'/\cs'.length=cs.length:=by
 obtain⟨cs',rfl,hc⟩:=D1 fun ns hn=>hp.mem_iff.mp hn;have hnd:(cs.map il).Nodup:=by
  refine cm.mpr (nd.imp fun {a b} h z=>h (zb z))
 refine⟨cs',rfl,fun c=>⟨fun h=>hc c h,fun h=>?_⟩,J0 hr (hp.nodup_iff.mpr hnd),by simpa using hp.length_eq⟩;obtain⟨c',h1,h2⟩:=aj.mp (hp.mem_iff.mpr (aj.mpr ⟨c,h,rfl⟩));rw[←zb h2];exact h1
abbrev vS:=JX
abbrev Kt:=JW
abbrev Ks:=QF
def Q8:az:=ck (bx uI (bx lJ (υ 1) (υ 2)) (bA vS (ο (υ 1) (ο (υ 2) (ae))))) (hName 1)
def Q7:az:=bH (hX (iW (υ 0)) (qQ 2 (jH (hName 2) (jH (hName 3) (uf)))) (Q8)) QD
def Kr:az:=bH (ck (eC (.int 1)) (hName 1)) Q7
theorem Kq:∀ds G Q,rW ds G Q->Kr (bf Q) (bc ["clocks","found","step","rest"] ds) G:=by
 rintro ds G Q ⟨cs,rfl,ok,hl,q⟩;refine nv (fun ds τ G'=>G'=G/\∃(zs:List aG) (a:Nat) (x2 x3:Option D),ds=zs.map cD/\τ=[some (fW cs),some (.int a),x2,x3]/\xK 1000 zs/\0<a/\a*1000^zs.length≤1000^12/\tY zs a=dy cs) (fun _ _ _ _=>trivial) ?_ ?_ _ _ _ ⟨rfl,cs,1,none,none,rfl,rfl,ok,by decide,?_,rfl⟩
 ·rintro d ds τ G' N ⟨rfl,zs,a,x2,x3,e,rfl,okz,ha,hb,hr⟩ hN;cases zs with
  |nil=>cases e
  |cons z zs=>
   cases e;obtain⟨s,r⟩:=z;obtain⟨v,hs⟩:=okz _ χ;have hs1:0<s:=v.1;have hs2:s≤1000:=hs;obtain⟨n,rfl⟩:∃n:Nat,s=(n:Int):=⟨s.toNat,by lia⟩;have hg:0<gI a n:=qi _ ha;have hga:gI a n≤a:=jh ha (Nat.gcd_dvd_left _ _);have ha12:a≤1000^12:=aA (qh _ (Nat.pow_pos (by decide))) hb;have hbig:∀k:Nat,k≤1000^12->kG (k:Int):=fun k hk=>JV (fc hk (by decide));refine⟨rfl,⟨hbig _ ha12,hbig _ (aA (show n≤1000 by lia) (by decide))⟩,a,n,rfl,⟨by lia,hbig _ (aA hga ha12)⟩,?_⟩;refine hN _ _ ⟨rfl,zs,iM a n,some (.int n),some (.int r),rfl,?_,fun c hc=>okz c (ψ _ hc),vq ha (by lia),?_,hr⟩
   ·show [some (fW cs),some (D.int ((a:Int)*(n:Int) / (gI a n:Nat))),_,_]=_;rw[←mv,←lu];rfl
   ·refine aA ?_ hb;rw[aL,eR,mi (1000^zs.length) 1000,←Nat.mul_assoc];refine sN _ ?_;have:iM a n≤a*n:=jh (Nat.mul_pos ha (by lia)) (vt (Nat.dvd_mul_right _ _) (Nat.dvd_mul_left _ _));exact aA this (tG _ (by lia))
 ·rintro τ G' ⟨rfl,zs,a,x2,x3,e,rfl,okz,ha,hb,hr⟩;have:zs=[]:=by cases zs with
   |nil=>rfl
   |cons z zs=>cases e
  subst this;have hr':a=dy cs:=hr;rw[←hr'] at q;exact e7 q
 ·rw[Nat.one_mul];exact cE (by decide) hl
theorem xn{α:Type}(f:α->Bool):∀xs:List α,oO (xs.map fun x=>D.bl (f x))=some (xs.map f)
 |[]=>rfl
 |x::xs=>by
  show sM _ (oO (xs.map fun x=>D.bl (f x)))=_;rw[xn f xs];rfl
theorem all_map{α:Type}(f:α->Bool)(xs:List α):(xs.map f).all id=xs.all f:=by
 induction xs with
 |nil=>rfl
 |cons x xs ih=>simp
end My
namespace My
open PySem L2 L3
def Kn(G:Gp):Nat->D->Prop
 |0,d=>Known G d
 |n+1,.tup ds=>∀d∈ds,Kn G n d
 |_+1,d=>Known G d
def xW(G:Gp)(d:D):Prop:=∀n,Kn G n d
section
variable {G G':Gp}
theorem xW.el{ds:List D}{d:D}(h:xW G (.tup ds))(hd:d∈ds):xW G d:=fun n=>h (n+1) d hd
theorem xW.known{d:D}(h:xW G d):Known G d:=h 0
theorem xW.Mt{d:D}(h:xW G d):zF G d:=by
 cases d with
 |tup ds=>exact fun d hd=>(h.el hd).known
 |obj a=>exact h 0
 |_=>trivial
end
def xH(s r:Int):Bool:=(decide (1≤s)&&decide (s≤1000))&&(decide (0≤r)&&decide (r<s))
def Cm:D->Bool
 |.tup [.int s,.int r]=>xH s r
 |_=>false
def Q6:dJ:=fun ds G Q=>∃d:D,ds=[d]/\xW G d/\Q (.bl (Cm d)) G
def Q5:az:=cz (uL (C7 Dp Dp (eC (.int 1)) (bx fG (υ 0) (eC (.int 0))) (eC (.int 1000))) (C7 Dp rV (eC (.int 0)) (bx fG (υ 0) (eC (.int 1))) (bx fG (υ 0) (eC (.int 0)))))
def Q4:az:=bH (kA (sU (jV (b9 (bA AF (ο (bx fG (υ 0) (eC (.int 0))) (ae))))) (jV (b9 (bA AF (ο (bx fG (υ 0) (eC (.int 1))) (ae)))))) (cz (eC (.bl false))) (fJ)) Q5
def Kp:az:=bH (kA (sU (jV (b9 (qo "tuple" (υ 0)))) (b9 (bx (fQ true) (eH oj (ο (υ 0) (ae))) (eC (.int 2))))) (cz (eC (.bl false))) (fJ)) Q4
theorem Ko{ds:List D}(h:ds.length≠2):Cm (.tup ds)=false:=by
 unfold Cm;split
 ·rename_i h2;cases h2;exact absurd rfl h
 ·rfl
theorem abm:∀ds G Q,Q6 ds G Q->Kp (bf Q) (bc ["thing"] ds) G:=by
 rintro ds G Q ⟨d,rfl,hk,q⟩;have not_tup:(∀ds,d≠.tup ds)->Kp (bf Q) (bc ["thing"] [d]) G:=by
  intro hn;have e:Cm d=false:=by
   cases d with
   |tup ds=>exact absurd rfl (hn ds)
   |_=>rfl
  rw[e] at q;show match iV "tuple" G d with
   |some b=>_
   |none=>False
  rw[Ku hk.Mt hn];exact⟨fun _=>⟨fun _=>e7 q,nofun⟩,nofun⟩
 cases d with
 |tup ds=>
  refine⟨nofun,fun _=>⟨_,_,rfl,rfl,ba _,?_⟩⟩;rcases ds with _|⟨a,_|⟨b,_|⟨c,ds⟩⟩⟩
  ·exact⟨fun _=>e7 q,nofun⟩
  ·rw[Ko (by simp)] at q;exact⟨fun _=>e7 q,nofun⟩
  ·refine⟨nofun,fun _=>⟨a,rfl,(hk.el (by simp)).known,?_⟩⟩;have hb:Known G b:=(hk.el (by simp)).known;cases a with
   |int s=>
    refine⟨nofun,fun _=>⟨b,rfl,hb,?_⟩⟩;cases b with
    |int r=>
     have fin:∀v,xH s r=v->(bf Q).rt (.bl v) G:=fun v e=>by
      rw[←e];exact e7 q
     refine⟨nofun,fun _=>⟨_,rfl,⟨fun h1=>⟨fun h2=>⟨_,rfl,fun h3=>⟨_,rfl,fin _ ?_⟩,fun h3=>fin _ ?_⟩,fun h2=>fin _ ?_⟩,fun h1=>⟨nofun,fun _=>fin _ ?_⟩⟩⟩⟩
     ·unfold xH;rw[h1,h2,h3];rfl
     ·unfold xH;rw[h1,h2,h3];rfl
     ·unfold xH;rw[h1,h2];rfl
     ·unfold xH;rw[h1];rfl
    |_=>exact⟨fun _=>e7 q,nofun⟩
   |_=>exact⟨fun _=>⟨fun _=>e7 q,nofun⟩,nofun⟩
  ·refine⟨fun _=>?_,fun h=>?_⟩
   ·rw[Ko (by simp)] at q;exact e7 q
   have h':(!(((ds.length+1+1+1:Nat):Int)==2))=false:=h;simp at h';omega
 |_=>exact not_tup nofun
theorem Q2{G:Gp}{te:aU}{Q:List D->Gp->Prop}{ds:List D}{f:D->Bool}{js:List Nat}{τ:S3}(hl:ds.length≤1000)
  (hs:∀x∈ds,∀y:Option D,∀K:V3,K (.bl (f x)) G->te (jQ (y::js.map fun j=>iI τ j) 0 x) G K) (q:Q (ds.map fun x=>.bl (f x)) G):g6 (fun _=>True) (hName 0) eI te Q ds [] (none::js.map fun j=>iI τ j) G:=by
 have:=lM (α:=D) (guard:=fun _=>True) (g:=hName 0) (tc:=eI) (te:=te) (Q:=Q) (fun τ'=>∃x,τ'=x::js.map fun j=>iI τ j) (fun x=>x) (fun _=>true) (fun x=>.bl (f x)) (G:=G) trivial ds [] (none::js.map fun j=>iI τ j) ⟨none,rfl⟩ ?_ ?_
 ·rw[List.map_id'] at this;exact this
 ·rintro x hx τ' K1 K2 ⟨y,rfl⟩ h1 h2;exact⟨fun _=>hs x hx y _ (h1 rfl _ ⟨_,rfl⟩),nofun⟩
 ·rw[filter_all,cW];exact q
end My
namespace My
open PySem L2 L3
theorem Az{α β:Type}(f:α->D)(g:β->D):∀(as:List α) (bs:List β),qB (as.map f) (bs.map g)=(as.zip bs).map fun p=>D.tup [f p.1,g p.2]
 |[],_=>rfl
 |a::as,[]=>rfl
 |a::as,b::bs=>by
  show D.tup [f a,g b]::qB (as.map f) (bs.map g)=D.tup [f a,g b]::(as.zip bs).map _;rw[Az f g as bs]
theorem Q1{β:Type}(g:β->D)(bs:List β):uJ (bs.map g)=((ao bs.length).zip bs).map fun p=>D.tup [nD p.1,g p.2]:=by
 unfold uJ;rw[π,vz];exact Az nD g _ _
theorem Q0{G:Gp}{p:ζ}{ds:List D}(h:G p=some (.lst ds)):iV "list" G (.obj p)=some true:=by simp[iV,h]
end My
namespace My
open PySem L2 L3
theorem QZ{cs:List aG}{d:Nat}:∀{a:Nat},a∣d->(∀c∈cs,c.1.toNat∣d)->tY cs a∣d:=by
 induction cs with
 |nil=>exact fun h _=>h
 |cons c cs ih=>
  intro a h hc;exact ih (a:=iM a c.1.toNat) (vt h (hc c χ)) fun c' h'=>hc c' (ψ _ h')
theorem QY{cs:List aG}:∀{a:Nat},a∣tY cs a:=by
 induction cs with
 |nil=>exact Nat.dvd_refl _
 |cons c cs ih=>intro a;exact Nat.dvd_trans (Nat.dvd_lcm_left a c.1.toNat) (ih (a:=iM a c.1.toNat))
theorem Qe{cs:List aG}{c:aG}:∀{a:Nat},c∈cs->c.1.toNat∣tY cs a:=by
 induction cs with
 |nil=>exact fun h=>nomatch h
 |cons d cs ih=>
  intro a h;rcases Δ.mp h with rfl|h
  ·exact Nat.dvd_trans (Nat.dvd_lcm_right a c.1.toNat) (QY (cs:=cs) (a:=iM a c.1.toNat))
  ·exact ih (a:=iM a d.1.toNat) h
end My
namespace My
open PySem L2 L3
def wb(cs:List aG):Prop:=∀c∈cs,Valid c/\(c.1≤24/\c.1∣720)
theorem Hn{s k:Int}(h0:0<s)(h:s∣720)(hk:k=2∨k=3)(hl:s*k<25):s*k∣720:=by
 obtain⟨n,rfl⟩:∃n:Nat,s=(n:Int):=⟨s.toNat,by lia⟩;have hn:n∣720:=gY.mp h;have h2:∀n:Nat,n<13->n∣720->(n*2<25->n*2∣720)/\(n*3<25->n*3∣720):=by decide
 rcases hk with rfl|rfl
 ·exact gY.mpr ((h2 n (by lia) hn).1 (by lia))
 ·exact gY.mpr ((h2 n (by lia) hn).2 (by lia))
theorem Hq{n:Int}(h:n∈([2,3,4,5,6,8,9,12,18,24]:List Int)):n∣720:=by
 simp only[Δ,aR,or_false] at h;rcases h with rfl|rfl|rfl|rfl|rfl|rfl|rfl|rfl|rfl|rfl<;>decide
end My
namespace My
open PySem L2 L3
def nums(c:aG)(n:Nat):List Nat:=(ao (lW c.2 n c.1)).map fun i=>c.2.toNat+i*c.1.toNat
theorem Qd{c:aG}(h:Valid c)(n:Nat):rU c.2 c.1 (lW c.2 n c.1)=(nums c n).map nD:=by
 unfold rU nums;rw[cZ];refine eO fun i _=>?_;show D.int _=D.int ((c.2.toNat+i*c.1.toNat:Nat):Int);congr 1;have:=h.1;have:=h.2.1;rw[Int.natCast_add,mv,jz (by lia),jz (by lia)]
theorem Km{c:aG}(h:Valid c){n x:Nat}:x∈nums c n↔x<n/\rg x c=true:=by
 obtain⟨h1,h2,h3⟩:=h;unfold nums;rw[aj];obtain⟨s,hs⟩:∃s:Nat,c.1=(s:Int):=⟨c.1.toNat,by lia⟩;obtain⟨r,hr⟩:∃r:Nat,c.2=(r:Int):=⟨c.2.toNat,by lia⟩;have hrg:rg x c=true↔x%s=r:=by
  show ((x:Int)%c.1==c.2)=true↔_;rw[beq_iff_eq,hs,hr];constructor
  ·intro e;exact_mod_cast e
  ·intro e;exact_mod_cast e
 rw[hrg];have s0:0<s:=by lia
 have rs:r<s:=by lia
 have hc:∀i,i<lW c.2 n c.1↔r+i*s<n:=fun i=>by
  unfold lW;rw[hs,hr];split
  ·rename_i hlt;have hrn:r<n:=by lia
   rw[show ((n:Int)-(r:Int)-1) / (s:Int)+1=(((n-r-1) / s+1:Nat):Int) by
    rw[Int.natCast_add,lu,show ((n-r-1:Nat):Int)=(n:Int)-(r:Int)-1 by lia];rfl,bC,Nat.lt_succ_iff,Nat.le_div_iff_mul_le s0]
   lia
  ·rename_i hlt;have:¬r<n:=by lia
   constructor
   ·intro z;exact absurd z (Nat.not_lt_zero _)
   ·intro z;lia
 rw[hs,hr,bC,bC];constructor
 ·rintro⟨i,hi,rfl⟩;have hi:=ax.mp hi;rw[←hs,←hr] at hi;refine⟨(hc i).mp hi,?_⟩;rw[Nat.add_mul_mod_self_right,Nat.mod_eq_of_lt rs]
 ·rintro⟨hx,e⟩;have hd:s*(x / s)+x%s=x:=Nat.div_add_mod x s;refine⟨x / s,?_,?_⟩
  ·rw[ax,←hs,←hr,hc,mi];lia
  ·rw[mi];lia
theorem Qc{c:aG}(h:Valid c)(n:Nat):(nums c n).Nodup:=by
 unfold nums;unfold List.Nodup;rw[cm];refine u6 ?_ (lq (n:=lW c.2 n c.1));intro a b hab e;have:=h.1;have h0:0<c.1.toNat:=by lia
 exact hab (Nat.eq_of_mul_eq_mul_right h0 (by lia))
def jo(f:Nat->Nat)(n:Nat):List D:=(ao n).map fun x=>nD (f x)
theorem Qb(f:Nat->Nat)(n:Nat):(jo f n).length=n:=by simp[jo]
theorem Qa{f:Nat->Nat}{n x:Nat}(h:x<n):kF (jo f n) (x:Int)=some (nD (f x)):=yY (by
 unfold jo;rw[aI,gW h];rfl)
theorem P9{f:Nat->Nat}{n x v:Nat}(h:x<n):(jo f n).set x (nD v)=jo (fun y=>if y=x then v else f y) n:=by
 unfold jo;apply kM;intro i;rw[List.getElem?_set];by_cases hi:i<n
 ·by_cases hx:x=i
  ·subst hx;simp[h]
  ·have:¬i=x:=fun z=>hx z.symm;simp[hi,hx,this]
 ·have:¬x=i:=fun z=>hi (by lia);simp[hi,this]
theorem Kl{f g:Nat->Nat}{n:Nat}(h:∀x,x<n->f x=g x):jo f n=jo g n:=by
 unfold jo;refine eO fun x hx=>?_;rw[h x (ax.mp hx)]
theorem DY{n x:Nat}(h:x<n):ud n (x:Int)=some x:=by
 unfold ud;simp[h]
theorem zeros(n:Nat):(bo n [D.int 0]).flatten=jo (fun _=>0) n:=by
 unfold jo
 induction n with
 |zero=>rfl
 |succ n ih=>
  rw[sO,tJ,ih,List.range_succ,cg];rfl
end My
namespace My
open PySem L2 L3
def aaL(cs:List aG):Prop:=xK 1000 cs/\cs.length≤12/\dy cs≤10000
end My
namespace My
open PySem L2 L3
def pE(n:Nat):D->Bool
 |.int i=>decide (0≤i)&&decide (i<n)
 |_=>false
def P8:dJ:=fun ds G Q=>∃(cs:List aG) (d:D),ds=[fW cs,d]/\Known G d/\Q (.bl (pE cs.length d)) G
end My
namespace My
open PySem L2 L3
theorem Kk{cs:List aG}{z:aG}(h:z∈cs):z.1.toNat∣dy cs:=Qe h
theorem JH{cs:List aG}(h:∀z∈cs,0<z.1):0<dy cs:=by
 have:∀(cs:List aG) (a:Nat),(∀z∈cs,0<z.1)->0<a->0<tY cs a:=by
  intro cs
  induction cs with
  |nil=>intro a _ h;exact h
  |cons z zs ih=>
   intro a hz ha;refine ih _ (fun y hy=>hz y (ψ _ hy)) (vq ha ?_);have:=hz z χ;lia
 exact this cs 1 h (by decide)
def An(cs:List aG)(i:Nat):List aG:=cs.take i++cs.drop (i+1)
end My
namespace My
open PySem L2 L3
def yO:nB:=fun ds Q E=>∃(a b:Int),ds=[.int a,.int b]/\(a≤b->Q .aC eW)/\(b<a->E "TooGreat" [("many",a),("most",b)])
def JG(E:E3):az:=kA (b9 (bx Dr (υ 0) (υ 1))) (yw "TooGreat" ["many","most"] E (ο (υ 0) (ο (υ 1) (ae)))) (fJ)
theorem P7:∀ds Q E,yO ds Q E->JG E (bf Q) (bc ["many","most"] ds) eW:=by
 rintro ds Q E ⟨a,b,rfl,q1,q2⟩;refine⟨fun h=>?_,fun h=>⟨eW,Sub.refl _,q1 ?_⟩⟩
 ·have h':a > b:=of_decide_eq_true h;exact⟨[a,b],rfl,rfl,q2 h'⟩
 ·have h':¬a > b:=of_decide_eq_false h;omega
theorem JF(G:Gp):Sub eW G:=fun _ _ e=>nomatch e
abbrev NT(a b:Int):GO:=.gen (jr "TooGreat" [("many",a),("most",b)])
def xm(rs:List ν):dJ:=fun ds G Q=>∃(p:ζ) (a b:Int),ds=[.obj p]/\G p=some (NT a b)/\("TooGreat":ν)∈rs/\∀G',Sub G G'->Q (.str "great") G'
def P6(rs:List ν):az:=cz (rz (ο (eC (.str "clock")) (ο (eC (.str "number")) (ο (eC (.str "place")) (ο (eC (.str "row")) (ο (eC (.str "clocks")) (ο (eC (.str "text")) (ο (eC (.str "great")) (ae)))))))) (eM Eb (υ 1) (ο (eC (.bl true)) (ae))))
def P5(rs:List ν):az:=bH (kA (sU (jV (b9 (FD rs (υ 0)))) (b9 (bx (fQ true) (eM Ec (υ 1) (ο (eC (.bl true)) (ae))) (eC (.int 1))))) (cz (eC (.str "other"))) (fJ)) (P6 rs)
def P4(rs:List ν):az:=bH (ck (bx gU (υ 1) (jv (ο (qS rs "NoClocks" (υ 0)) (ο (qS rs "NoText" (υ 0)) (ο (qS rs "TooGreat" (υ 0)) (ae)))))) (hName 1)) (P5 rs)
def JE(rs:List ν):az:=bH (ck (jv (ο (qS rs "NoClock" (υ 0)) (ο (qS rs "NoNumber" (υ 0)) (ο (qS rs "NoPlace" (υ 0)) (ο (qS rs "NoRow" (υ 0)) (ae)))))) (hName 1)) (P4 rs)
theorem P2(rs:List ν):∀ds G Q,xm rs ds G Q->JE rs (bf Q) (bc ["e","marks"] ds) G:=by
 rintro ds G Q ⟨p,a,b,rfl,hp,hr,q⟩;refine⟨_,_,hp,hr,_,_,hp,hr,_,_,hp,hr,_,_,hp,hr,fun p1 G1 n1=>?_⟩;have hp1:=n1.sub _ _ hp;have b1:(("TooGreat":ν)=="NoClock")=false:=by decide
 have b2:(("TooGreat":ν)=="NoNumber")=false:=by decide
 have b3:(("TooGreat":ν)=="NoPlace")=false:=by decide
 have b4:(("TooGreat":ν)=="NoRow")=false:=by decide
 have b5:(("TooGreat":ν)=="NoClocks")=false:=by decide
 have b6:(("TooGreat":ν)=="NoText")=false:=by decide
 have b7:(("TooGreat":ν)=="TooGreat")=true:=by decide
 rw[b1,b2,b3,b4] at n1;refine⟨_,_,hp1,hr,_,_,hp1,hr,_,_,hp1,hr,fun p2 G2 n2=>?_⟩;rw[b5,b6,b7] at n2;have hp2:=n2.sub _ _ hp1;refine⟨_,_,n2.sub _ _ n1.at_,n2.at_,by decide,fun p3 G3 n3=>?_⟩;have hp3:=n3.sub _ _ hp2;refine⟨_,_,hp3,hr,fun h=>(nomatch h),fun _=>?_⟩;refine⟨⟨p3,_,rfl,n3.at_⟩,_,[false,false,false,false,false,false,true],n3.at_,rfl,_,_,rfl,rfl,ba _,fun h=>?_,fun _=>?_⟩
 ·exact absurd h (by decide)
 refine⟨⟨p3,_,rfl,n3.at_⟩,_,[false,false,false,false,false,false,true],6,n3.at_,rfl,rfl,fun i hi=>?_,by decide,.str "great",rfl,e7 (q G3 ((n1.sub.trans n2.sub).trans n3.sub))⟩
 match i,hi with
 |0,_=>rfl
 |1,_=>rfl
 |2,_=>rfl
 |3,_=>rfl
 |4,_=>rfl
 |5,_=>rfl
def yN(rs:List ν):dJ:=fun ds G Q=>∃(p:ζ) (a b:Int),ds=[.obj p]/\G p=some (NT a b)/\("TooGreat":ν)∈rs/\∀G',Sub G G'->Q (.tup [.str "great",.int a,.int b]) G'
def P1(rs:List ν):az:=cz (fH (ο (eC (.str "great")) (ο (uK rs "many" (υ 0)) (ο (uK rs "most" (υ 0)) (ae)))))
def JD(rs:List ν):az:=bH (kA (sU (b9 (bx (fQ true) (bA (xm rs) (ο (υ 0) (ae))) (eC (.str "great")))) (sU (jV (b9 (bA vT (ο (uK rs "many" (υ 0)) (ae))))) (jV (b9 (bA vT (ο (uK rs "most" (υ 0)) (ae))))))) (cz (fH (ο (bA (xm rs) (ο (υ 0) (ae))) (ae)))) (fJ)) (P1 rs)
theorem P0(rs:List ν):∀ds G Q,yN rs ds G Q->JD rs (bf Q) (bc ["e"] ds) G:=by
 rintro ds G Q ⟨p,a,b,rfl,hp,hr,q⟩;refine⟨p,a,b,rfl,hp,hr,fun G1 s1=>⟨_,_,rfl,rfl,ba _,fun h=>?_,fun _=>?_⟩⟩
 ·exact absurd h (by decide)
 have hp1:=s1 _ _ hp;refine⟨_,_,a,hp1,hr,rfl,trivial,fun h=>(nomatch h),fun _=>⟨_,_,b,hp1,hr,rfl,trivial,fun h=>(nomatch h),fun _=>?_⟩⟩;exact⟨_,_,a,hp1,hr,rfl,_,_,b,hp1,hr,rfl,e7 (q G1 s1)⟩
end My
namespace My
open PySem L2 L3
theorem PZ{a b:aG}(h:GF a b)(h2:GF b a):False:=by
 rcases h with h|⟨h,h'⟩<;>rcases h2 with g|⟨g,g'⟩<;>lia
end My
namespace My
open PySem L2 L3
def yr(C c:aG):aG:=(C.1*c.1,C.2+C.1*c.2)
theorem PY{C c:aG}(hC:0<C.1)(n:Int):eV (C.2+C.1*n) (yr C c)=eV n c:=by
 rw[jM,mG,mG];show C.1*c.1∣C.2+C.1*n-(C.2+C.1*c.2)↔_;rw[show C.2+C.1*n-(C.2+C.1*c.2)=C.1*(n-c.2) by rw[Int.mul_sub];lia];exact Int.mul_dvd_mul_iff_left (by lia)
theorem PX{cs:List aG}(h:qU cs):cs.Nodup:=h.imp fun {a b} q e=>by
 subst e;exact PZ q q
end My
namespace L3
open PySem PySem.Spec PyProof.Rows L2
def iw:HO->Bool
 |.lst _=>true
 |.ext _=>true
 |_=>false
def cO(h:Ψ)(H:Hp):Hp:=fun a=>match H a with
 |some o=>if iw o then (h.get? a).map fun ob=>.cT ob o else if eZ o then some o else none
 |none=>none
section
variable {P:Ω} {w:ah} {H H':Hp} {h h':Ψ} {a b:ζ} {o:HO} {fs:List ζ} {ob:aP}
theorem PV(v:eZ o=true):iw o=false:=by
 cases o with
 |lst xs=>cases v
 |ext φ=>cases v
 |_=>rfl
theorem xl(e:H a=none):cO h H a=none:=by unfold cO;rw[e]
theorem pq(e:H a=some o)(v:eZ o=true):cO h H a=some o:=by
 unfold cO;rw[e];show (if iw o=true then _ else if eZ o=true then some o else none)=_;rw[if_neg (by rw[PV v];exact ar),if_pos v]
theorem DX(e:H a=some o)(v:eZ o=false)(n:iw o=false):cO h H a=none:=by
 unfold cO;rw[e];show (if iw o=true then _ else if eZ o=true then some o else none)=_;rw[if_neg (by rw[n];exact ar),if_neg (by rw[v];exact ar)]
theorem yM(e:H a=some o)(n:iw o=true)(q:h.get? a=some ob):cO h H a=some (.cT ob o):=by
 unfold cO;rw[e];show (if iw o=true then (h.get? a).map _ else if eZ o=true then some o else none)=_;rw[if_pos n,q];rfl
theorem JC(e:cO h H a=some o):(H a=some o/\eZ o=true)∨∃u ob,H a=some u/\iw u=true/\h.get? a=some ob/\o=.cT ob u:=by
 cases q:H a with
 |none=>rw[xl q] at e;cases e
 |some u=>
  cases n:iw u with
  |true=>
   cases g:h.get? a with
   |none=>
    unfold cO at e;rw[q] at e;have e':(if iw u=true then (h.get? a).map fun ob=>HO.cT ob u else if eZ u=true then some u else none)=some o:=e;rw[if_pos n,g] at e';cases e'
   |some ob=>
    rw[yM q n g] at e;exact .inr ⟨u,ob,rfl,n,rfl,(aD e).symm⟩
  |false=>
   cases v:eZ u with
   |true=>
    rw[pq q v] at e;cases e;exact .inl ⟨rfl,v⟩
   |false=>
    rw[DX q v n] at e;cases e
theorem JB(e:cO h H a=some o):eZ o=true:=by
 rcases JC e with⟨_,v⟩|⟨u,ob,_,n,_,rfl⟩
 ·exact v
 ·cases u with
  |lst xs=>rfl
  |ext φ=>rfl
  |_=>cases n
theorem PU(ok:dZ P w H h):dZ P w (cO h H) h:=fun a o e=>by
 rcases JC e with⟨e1,v⟩|⟨u,ob,e1,n,q,rfl⟩
 ·exact K7 v (ok a o e1)
 ·cases u with
  |lst xs=>
   obtain⟨z,its,n,r,p⟩:=ok a _ e1;exact⟨q,z,its,n,r,p⟩
  |ext φ=>exact⟨q,ok a _ e1⟩
  |_=>cases n
variable (ok:dZ P w H h) (hfs:∀b∈fs,H b=none) (u:Un fs [] (cO h H) H' h h') (ok':dZ P w H' h')
include ok u
theorem GD(e:H b=some o)(v:eZ o=false)(n:iw o=false):H' b=none:=by
 obtain⟨ob,q⟩:=bV.there (ok b o e);exact u.free b ob q (DX e v n) (by simp)
theorem Mq(e:H b=some o)(n:iw o=true):∃ob,h.get? b=some ob/\H' b=some (.cT ob o):=by
 obtain⟨ob,q⟩:=bV.there (ok b _ e);exact⟨ob,q,u.iH b ob _ (yM e n q)⟩
theorem sv(e:H' b=some o)(n:∀ob u,iw u=true->o≠.cT ob u):joined H H' b=some o:=by
 cases q:H b with
 |none=>rw[qN q];exact e
 |some x=>
  cases v:eZ x with
  |true=>rw[rY q v];exact e
  |false=>
   cases l:iw x with
   |true=>
    obtain⟨ob,_,z⟩:=Mq ok u q l;rw[z] at e;exact absurd (aD e).symm (n ob x l)
   |false=>
    rw[GD ok u q v l] at e;cases e
include hfs ok'
theorem DW:Un fs [] H (joined H H') h h'/\dZ P w (joined H H') h':=by
 have kept:∀b x ob,H b=some x->eZ x=false->h.get? b=some ob->h'.get? b=some ob:=fun b x ob e v q=>by
  cases l:iw x with
  |true=>
   obtain⟨ob',q',z⟩:=Mq ok u e l;rw[q] at q';cases q';exact (ok' b _ z).1
  |false=>exact u.keep b ob q (DX e v l) (fun z=>by rw[hfs b z] at e;cases e) (by simp)
 refine⟨⟨fun b ob q n h3 h4=>u.keep b ob q (xl n) h3 h4,fun b ob q n h3 h4=>u.slot b ob q (xl n) h3 h4,fun b ob q n h3=>by rw[qN n];exact u.free b ob q (xl n) h3,
  fun b ob q h3=>u.there b ob q h3,fun b xs e=>sv ok u (u.iD b xs (pq e rfl)) (fun _ u n z=>by cases z),fun b ob x e=>?_,fun b ps e=>⟨#[],by rw[uG];exact lN e rfl⟩⟩,fun b x e=>?_⟩
 ·cases v:eZ (.cT ob x) with
  |true=>
   rw[rY e v];exact u.iH b ob x (pq e v)
  |false=>exact lN e v
 ·have mono:H' b=some x->bV P w (joined H H') h' b x:=fun z=>(ok' b x z).lg (fun _ _ _ q=>q) (fun c q=>sv ok u q fun _ u n z=>by cases z) (fun c xs q=>sv ok u q fun _ u n z=>by cases z);cases q:H b with
  |none=>
   rw[qN q] at e;exact mono e
  |some y=>
   cases v:eZ y with
   |true=>
    rw[rY q v] at e;exact mono e
   |false=>
    rw[lN q v] at e;obtain rfl:=aD e;refine (ok b _ q).lg (fun c ob hc z=>?_) (fun c z=>lN z rfl) (fun c xs z=>sv ok u (u.iD c xs (pq z rfl)) fun _ u n z=>by cases z);rcases hc with rfl|hc
    ·exact kept _ _ _ q v z
    ·exact kept _ _ _ hc rfl z
end
mutual
def jE:D->Bool
 |.tup ds=>jU ds
 |.dW _=>false
 |.dc _=>false
 |_=>true
def jU:List D->Bool
 |[]=>true
 |d::ds=>jE d&&jU ds
end
def GO.jE:GO->Prop
 |.lst ds=>jU ds=true
 |.gen _=>False
 |_=>True
def uS(G:Gp):Prop:=∀a o,G a=some o->GO.jE o
theorem uS.no:uS eW:=fun _ _ e=>nomatch e
def vd(G:Gp):D->D
 |.obj p=>match G p with
  |some (.lst xs)=>.dW xs
  |some .fE=>.dc p
  |_=>.obj p
 |d=>d
section
variable {K:θ} {H H':Hp} {h:Ψ}
theorem cC.cO{a:ζ}{xs:List V}(q:cC K H a xs):cC K (cO h H) a xs:=by
 rcases q with (q|⟨o,q⟩)|q
 ·exact .inl (.inl (pq q rfl))
 ·exact .inl (.inr ⟨o,pq q rfl⟩)
 ·exact .inr q
theorem lD.cO{a:ζ}{xs:List V}(q:lD K H a xs):lD K (cO h H) a xs:=by
 rcases q with⟨o,q⟩|q
 ·exact .inl ⟨o,pq q rfl⟩
 ·exact .inr q
mutual
theorem Hv.cO:∀{d:D} {v:V},Hv K H d v->Hv K (cO h H) d v
 |.aC,_,q=>by simpa [Hv] using q
 |.bl _,_,q=>by simpa [Hv] using q
 |.int _,_,q=>by simpa [Hv] using q
 |.str _,_,q=>by simpa [Hv] using q
 |.obj _,_,q=>by simpa [Hv] using q
 |.dc a,v,q=>by
  unfold Hv at q ⊢;obtain⟨e,ob,φ,q,c⟩:=q;exact⟨e,ob,φ,pq q rfl,c⟩
 |.tup ds,v,q=>by
  unfold Hv at q ⊢;obtain⟨a,vs,e,q,r⟩:=q;exact⟨a,vs,e,cC.cO q,aF.cO r⟩
 |.dW ds,v,q=>by
  unfold Hv at q ⊢;obtain⟨a,vs,e,q,r⟩:=q;exact⟨a,vs,e,lD.cO q,aF.cO r⟩
theorem aF.cO:∀{ds:List D} {vs:List V},aF K H ds vs->aF K (cO h H) ds vs
 |[],_,q=>by simpa [aF] using q
 |d::ds,vs,q=>by
  unfold aF at q ⊢;obtain⟨v,r,e,q,z⟩:=q;exact⟨v,r,e,Hv.cO q,aF.cO z⟩
end
mutual
theorem Hv.bare(t:∀a xs,H a=some (.tup xs)->H' a=some (.tup xs))(f:∀a o xs,H a=some (.cT o (.tup xs))->H' a=some (.cT o (.tup xs))):∀{d:D} {v:V},jE d=true->Hv K H d v->Hv K H' d v
 |.aC,_,_,q=>by simpa [Hv] using q
 |.bl _,_,_,q=>by simpa [Hv] using q
 |.int _,_,_,q=>by simpa [Hv] using q
 |.str _,_,_,q=>by simpa [Hv] using q
 |.obj _,_,_,q=>by simpa [Hv] using q
 |.tup ds,v,n,q=>by
  unfold Hv at q ⊢;unfold jE at n;obtain⟨a,vs,e,q,r⟩:=q;refine⟨a,vs,e,?_,aF.bare t f n r⟩;rcases q with (q|⟨o,q⟩)|q
  ·exact .inl (.inl (t _ _ q))
  ·exact .inl (.inr ⟨o,f _ _ _ q⟩)
  ·exact .inr q
 |.dW ds,v,n,q=>by
  unfold jE at n;cases n
 |.dc a,v,n,q=>by
  unfold jE at n;cases n
theorem aF.bare(t:∀a xs,H a=some (.tup xs)->H' a=some (.tup xs))(f:∀a o xs,H a=some (.cT o (.tup xs))->H' a=some (.cT o (.tup xs))):∀{ds:List D} {vs:List V},jU ds=true->aF K H ds vs->aF K H' ds vs
 |[],_,_,q=>by simpa [aF] using q
 |d::ds,vs,n,q=>by
  unfold aF at q ⊢;unfold jU at n;rw[bQ] at n;obtain⟨v,r,e,q,z⟩:=q;exact⟨v,r,e,Hv.bare t f n.1 q,aF.bare t f n.2 z⟩
end
theorem JA{G:Gp}{p:ζ}{xs:List D}(e:G p=some (.lst xs)):vd G (.obj p)=.dW xs:=by
 show (match G p with|some (.lst xs)=>D.dW xs|some .fE=>D.dc p|_=>D.obj p)=_
 rw[e]
theorem PR{G:Gp}{p:ζ}(e:G p=some .fE):vd G (.obj p)=.dc p:=by
 show (match G p with|some (.lst xs)=>D.dW xs|some .fE=>D.dc p|_=>D.obj p)=_
 rw[e]
theorem PQ{G:Gp}{p:ζ}(e:∀xs,G p≠some (.lst xs))(e2:G p≠some .fE):vd G (.obj p)=.obj p:=by
 show (match G p with|some (.lst xs)=>D.dW xs|some .fE=>D.dc p|_=>D.obj p)=_
 cases q:G p with
 |none=>rfl
 |some g=>cases g with
  |lst xs=>exact absurd q (e xs)
  |fE=>exact absurd q e2
  |_=>rfl
theorem PN{P:Ω}{w:ah}{G:Gp}(ok:dZ P w H h)(R:aJ K G H){d:D}{v:V}(q:Hv K H d v):Hv K (cO h H) (vd G d) v:=by
 cases d with
 |obj p=>
  by_cases e:∃xs,G p=some (.lst xs)
  ·obtain⟨xs,e⟩:=e;rw[JA e];obtain⟨vs,e1,e2⟩:=R p _ e;obtain⟨ob,e3⟩:=bV.there (ok p _ e1);rw[ip q];unfold Hv;exact⟨p,vs,rfl,.inl ⟨ob,yM e1 rfl e3⟩,e2.cO⟩
  by_cases e':G p=some .fE
  ·rw[PR e'];have e1:H p=some (.ext fun h=>∃o,h.get? p=some o/\o.cls=.type "dict"):=R p _ e';obtain⟨⟨ob,h1,h2⟩,_⟩:=(show bV P w H h p _ from ok p _ e1);unfold Hv;exact⟨ip q,ob,_,yM e1 rfl h1,h2⟩
  ·rw[PQ (fun xs z=>e ⟨xs,z⟩) e'];exact q.cO
 |_=>exact q.cO
theorem PM{P:Ω}{w:ah}{G:Gp}(ok:dZ P w H h)(R:aJ K G H):∀{ds:List D} {vs:List V},aF K H ds vs->aF K (cO h H) (ds.map (vd G)) vs:=by
 intro ds
 induction ds with
 |nil=>intro vs q;cases q.hZ;exact .nil
 |cons d ds ih=>
  intro vs q;obtain⟨v,r,rfl,z1,z2⟩:=q.inv;exact .cons (PN ok R z1) (ih z2)
end
section
variable {X:Cx} {k:Nat} {f:ζ} {fd:ag} {ps:List ν} {sp:nB} {E:E3} {x:ν} {p pos:aO} {e:ρ} {es:List ρ} {t:cM}
theorem Jz{K:θ}{P:Ω}{w:ah}{fs:List ζ}{H H':Hp}{h h':Ψ}{G1 G':Gp}{d:D}{v:V}(ok:dZ P w H h)(hfs:∀b∈fs,H b=none)(u:Un fs [] (cO h H) H' h h')(ok':dZ P w H' h')
  (R1:aJ K G1 H) (hd:jE d=true) (hG:uS G') (hv:Hv K H' d v) (S:Step (cO h H) eW H' G') (R':aJ K G' H'):
  Hv K (joined H H') d v/\Step H G1 (joined H H') (both G1 G')/\aJ K (both G1 G') (joined H H')/\Joins G1 G' (both G1 G'):=by
 have t2:∀a xs,H' a=some (.tup xs)->joined H H' a=some (.tup xs):=fun a xs e=>sv ok u e fun _ u n z=>by cases z
 have f2:∀a o xs,H' a=some (.cT o (.tup xs))->joined H H' a=some (.cT o (.tup xs)):=fun a o xs e=>sv ok u e fun _ u n z=>by cases z;cases n
 have E1:Ext H (joined H H'):=by
  obtain⟨u2,_⟩:=DW ok hfs u ok';exact⟨u2.iD,u2.iH⟩
 have outG:∀a,G' a≠none->H a=none:=fun a n=>by
  have z:cO h H a=none:=S.new a rfl n;cases q:H a with
  |none=>rfl
  |some o=>
   cases v:eZ o with
   |true=>rw[pq q v] at z;cases z
   |false=>
    cases l:iw o with
    |true=>
     obtain⟨ob,e3⟩:=bV.there (ok a _ q);rw[yM q l e3] at z;cases z
    |false=>
     have:=GD ok u q v l;cases q':G' a with
     |none=>exact absurd q' n
     |some g=>
      obtain⟨o',z',_⟩:=(R' a g q').mut;rw[this] at z';cases z'
 have out1:∀a,G' a≠none->G1 a=none:=fun a n=>R1.free (outG a n);refine⟨hv.bare t2 f2 hd,⟨fun a o e n=>?_,fun a n=>?_,fun a n q=>?_⟩,fun a g e=>?_,⟨fun a o e=>by simp[both,e],fun a o e=>by simp[both,out1 a (by rw[e];simp),e],out1⟩⟩
 ·cases v:eZ o with
  |true=>
   rw[rY e v];exact S.fr a o (pq e v) rfl
  |false=>exact lN e v
 ·cases q:H a with
  |none=>exact absurd q n
  |some o=>
   cases v:eZ o with
   |true=>
    rw[rY q v];exact S.nZ a (by rw[pq q v];simp)
   |false=>rw[lN q v];simp
 ·simp only[both,n] at q;exact outG a q
 ·cases q:G1 a with
  |some o=>
   simp only[both,q] at e;cases e;obtain⟨o',z,h1,h2⟩:=(R1 a g q).mut;have hv:eZ o'=false:=by
    cases o' with
    |tup xs=>exact absurd rfl (h1 xs)
    |cT ob y=>exact absurd rfl (h2 ob y)
    |_=>rfl
   exact (R1 a g q).ext E1 (by rw[lN z hv,z])
  |none=>
   simp only[both,q] at e;have hn:=outG a (by rw[e];simp);have ha:joined H H' a=H' a:=qN hn;have hg:=hG a g e;cases g with
   |lst ds=>
    obtain⟨vs,e1,e2⟩:=R' a _ e;exact⟨vs,ha.trans e1,e2.bare t2 f2 hg⟩
   |ny=>
    obtain⟨i,j,l,e1,e2⟩:=R' a _ e;exact⟨i,j,l,ha.trans e1,e2⟩
   |fE=>exact ha.trans (R' a _ e)
   |gen R=>exact hg.elim
theorem M6{P:Ω}{w:ah}{H H':Hp}{fs:List ζ}{h h':Ψ}(u:Un fs [] (cO h H) H' h h'):Step (cO h H) eW H' eW:=by
 have fr:∀a o,cO h H a=some o->H' a=some o:=fun a o e=>by
  have v:=JB e;cases o with
  |tup xs=>exact u.iD a xs e
  |cT ob y=>exact u.iH a ob y e
  |_=>cases v
 refine⟨fun a o e _=>fr a o e,fun a n=>?_,fun a _ q=>absurd rfl q⟩;cases q:cO h H a with
 |none=>exact absurd q n
 |some o=>rw[fr a o q];simp
theorem fo.cO{P:Ω}{w:ah}{K:θ}{base:Ψ}{outer:List cK}{H:Hp}{s s':η}{G1:Gp}{ev:ε}(ok:dZ P w H s.heap)(hfs:∀b∈fD outer,H b=none)(R1:aJ K G1 H)(h:fo P w base outer (cO s.heap H) s (iU K E) ev s'):
  fo P w base outer H s (wD K E H G1) ev s':=by
 obtain⟨e,T,C,dx,H',rfl,os,bare,u,ok',tr,⟨hHe,hHT⟩,hen,⟨he0,hT0⟩,x,C',fs,ec,cn,q,dd⟩:=h;obtain⟨u2,ok2⟩:=DW ok hfs u ok';obtain⟨_,z2,z3,_⟩:=Jz (G':=eW) (d:=.aC) (v:=.aC) ok hfs u ok' R1 rfl uS.no (by simp[Hv]) (M6 (P:=P) (w:=w) u) (fun _ _ e=>nomatch e);rw[K4] at z2 z3;have out:∀b,s.heap.get? b=none->H' b=none->joined H H' b=none:=fun b hb hn=>by
  cases hq:H b with
  |none=>rw[qN hq];exact hn
  |some o=>
   obtain⟨ob,e'⟩:=bV.there (ok b o hq);rw[hb] at e';cases e'
 refine⟨e,T,C,dx,joined H H',rfl,os,bare,u2,ok2,tr,⟨out _ he0 hHe,out _ hT0 hHT⟩,hen,⟨he0,hT0⟩,⟨x,C',fs,ec,cn,q,?_⟩,z3,z2⟩;rcases dd with⟨d1,d2⟩|⟨d,o,d1,d2⟩
 ·exact .inl ⟨d1,d2⟩
 ·exact .inr ⟨d,o,d1,sv ok u d2 fun _ u n z=>by cases z;cases n⟩
def xY(G1:Gp)(Q3:V3):V3:=fun d G'=>jE d=true/\uS G'/\∀G2,Joins G1 G' G2->Q3 d G2
theorem PL{pins:List (ζ×aP)}{σ:L2.St}{H:Hp}{s:η}{Q:VK}{G1:Gp}{Q3:V3}{ds:List D}{us:List ε}{vs:List V}{XE:ε->η->Prop}(F:pK X.prog X.w X.K X.mg X.base k f fd ps sp)(hr:dH k X.A)(hb:Binds X.K fd ps [])
  (hx:∀ev s',fo X.prog X.w X.base X.stack H s (wD X.K E H G1) ev s'->XE ev s')
  (I:Inv X pins σ H s) (r:bp vs us) (hd:aF X.K H ds vs) (R1:aJ X.K G1 H) (h:sp (ds.map (vd G1)) (xY G1 Q3) E) (kk:∀v H' d G',Hv X.K H' d v->Step H G1 H' G'->aJ X.K G' H'->Q3 d G'->Q v H'):
  ξ (model X.prog X.w) X.A (call (.ref f) us) (EP X pins σ Q) XE s:=by
 have hq:Fk X.K sp vs (cO s.heap H) (fun v H'=>∃d G',Hv X.K H' d v/\Step (cO s.heap H) eW H' G'/\aJ X.K G' H'/\xY G1 Q3 d G') (iU X.K E):=
  ⟨ds.map (vd G1),_,E,PM I.bF R1 hd,fun a o e=>JB e,h,fun v H' d G' a b c q=>⟨d,G',a,b,c,q⟩,fun _ _ _ z=>z⟩
 have hl:(us++[]).length=ps.length:=by rw[bh,←r.length];exact F.len _ _ _ _ hq
 have e0:pM X.prog X.w X.K X.mg X.base X.A X.stack s (cO s.heap H):=⟨I.ok.frames,I.ok.mod,fun b o e=>⟨(I.bs b o e).1,xl (I.bs b o e).2⟩,aA I.ok.qt I.sz,I.stack,fun b hb=>xl (I.fw b hb),PU I.bF,I.bare⟩;have hb':=hb s us I.gk hl;rw[bh] at hb';refine fZ (ed (F.run X.A X.stack s (cO s.heap H) ⟨us,[]⟩ us vs _ (iU X.K E) hr e0 hb' r hq) fun r s' hq'=>?_);cases r with
 |error e=>exact hx e s' (fo.cO I.bF I.fw R1 hq')
 |ok fl=>
  cases fl with
  |ret u=>
   obtain⟨v,H',os,bare,un,bF,rv,d,G',a,b,c,q1,q2,q⟩:=hq';obtain⟨un2,ok2⟩:=DW I.bF I.fw un bF;obtain⟨z1,z2,z3,z4⟩:=Jz I.bF I.fw un bF R1 q1 q2 a b c;exact I.after ⟨v,joined H H',os,bare,un2,ok2,rv,kk v _ d _ z1 z2 z3 (q _ z4)⟩
  |next=>exact br hq'
  |brk=>exact br hq'
  |cont=>exact br hq'
def wH(sp:nB)(E:E3)(t:cM):aU:=fun τ G Q=>t τ G fun ds G1=>sp (ds.map (vd G1)) (xY G1 Q) E
theorem PK(F:pK X.prog X.w X.K X.mg X.base k f fd ps sp)(hr:dH k X.A)(hx:jY (fo X.prog X.w X.base) X (iU X.K E))(hm:X.mg x=some (.ref f))(hk:bD X.K (.ref f)=true)(hb:Binds X.K fd ps [])(ha:jc X (e::es) t)(hg:Gl X x:=by rfl)
  (hdb:(x==("__debug__":ν))=false:=by decide) (he:notStar e=true:=by rfl) (hpl:es.all notStar=true:=by rfl):
  bT X (.Call (.Name x p) (e::es) [] pos) (wH sp E t):=by
 intro pins s σ H Q I ⟨τ,G,Q3,RS,RG,h,kk⟩;refine cG (qK I hg hm ?_ hdb);refine er (h₀:=X.base) I.ok.mod.pH hk (bJ (ha pos pins s σ H (fun vs H1=>∃ds G1,aF X.K H1 ds vs/\Step H G H1 G1/\aJ X.K G1 H1/\sp (ds.map (vd G1)) (xY G1 Q3) E) I
  ⟨τ,G,_,RS,RG,h,fun vs H1 ds G1 a b c q=>⟨ds,G1,a,b,c,q⟩⟩) fun us s1 ⟨vs,H1,I1,r,ds,G1,hd,S1,R1,q⟩=>⟨I1.gk,?_⟩) (eB he) (kD hpl)
 exact PL F hr hb (fun ev s' h=>hx pins σ H1 s1 ev s' I1 (fo.mono h fun _ _ _ z=>z.1)) I1 r hd R1 q fun v H' d G' a b c q=>kk v H' d G' a (S1.trans b) c q
end
end L3
namespace L3
open PySem PySem.Spec PyProof.Rows L2
section
variable {X:Cx} {k:Nat} {f:ζ} {fd:ag} {ps:List ν} {sp:nB} {E':E3} {x:ν} {p pos:aO} {e:ρ} {es:List ρ} {t:cM}
theorem Jy(F:pK X.prog X.w X.K X.mg X.base k f fd ps sp)(hr:dH k X.A)(hx:jY (fo X.prog X.w X.base) X (iU X.K E'))(hm:X.mg x=some (.ref f))(hk:bD X.K (.ref f)=true)(hb:Binds X.K fd ps [])(ha:QA X (e::es) t)(hg:Gl X x:=by rfl)
  (hdb:(x==("__debug__":ν))=false:=by decide) (he:notStar e=true:=by rfl) (hpl:es.all notStar=true:=by rfl):QE X (.Call (.Name x p) (e::es) [] pos) (wH sp E' t):=⟨PK F hr hx hm hk hb ha.of hg hdb he hpl⟩
end
end L3
namespace My
open PySem L2 L3
abbrev GB(E:E3)(n:Nat):Prop:=E "TooGreat" [("many",((n:Nat):Int)),("most",10000)]
def vk(cs:List aG):Prop:=xK 1000 cs/\cs.length≤12
end My
namespace L2
open PySem PySem.Spec PyProof.Rows
def nh(A:aE)(h:Ψ):Prop:=∃e oe vs,A.handled=some (.ref e)/\h.get? e=some oe/\oe.data=.fields vs/\vs[2]?=some .none
theorem PJ:entryFor table "proto.unchain" = some cS.«proto.unchain»:=entryFor_of_fast (by kernel_rfl)
theorem Qo:plainId "proto.unchain" = true:=by decide +kernel
section
variable {prog:Ω} {w:ah} {A:aE} {E:ε->η->Prop} {s:η}
theorem CS{α:Type}{x:ζ}{ox:aP}{vx:Array ε}{Q:α->η->Prop}(c:nh A s.heap)(hx:s.heap.get? x=some ox)(hd:ox.data=.fields vx)(h2:2<vx.size)
  (h:∀h',et x s.heap h'->(∃o',h'.get? x=some o'/\o'.cls=ox.cls)->E (.ref x) { s with heap:=h' }):ξ (model prog w) A (raiseNew (.ref x):j5 α) Q E s:=by
 obtain⟨e,oe,vs,hh,he,hde,h2e⟩:=c;unfold raiseNew;refine δ (sY ?_);rw[hh];by_cases z:e=x
 ·subst z;show ξ _ _ (if (aH e != aH e)=true then _ else throw (aH e)) _ _ _;rw[if_neg (by simp)];exact qV (h _ (et.refl ..) ⟨ox,hx,rfl⟩)
 ·show ξ _ _ (if (aH e != aH x)=true then _ else throw (aH x)) _ _ _;rw[if_pos (by simpa using z)];refine δ (aZ (rH ?_));refine cJ PJ ?_;rw[bX Qo _];show ξ _ _ (field (.ref e) 2 >>= _) _ _ _;refine δ (bI he hde h2e ?_);show ξ _ _ (if (aS==aS)=true then _ else _) _ _ _;rw[if_pos (show (aS==aS)=true from rfl)];refine μ ?_;show ξ _ _ (updateField x 2 (.ref e) >>= _) _ _ _;refine δ ?_;show ξ _ _ (setField (.ref x) 2 (.ref e)) _ _ _;refine fb hx hd h2 (qV (h _ (cy ..) ⟨_,bu _ hx (dR (cV hd _)),oF ..⟩))
theorem nh.keep{h h':Ψ}(c:nh A h)(k:∀b o vs,h.get? b=some o->o.data=.fields vs->vs[2]?=some .none->h'.get? b=some o):nh A h':=by
 obtain⟨e,oe,vs,a,b,c,d⟩:=c;exact⟨e,oe,vs,a,k e oe vs b c d,c,d⟩
theorem Jx{it t:ζ}{i:Nat}{items}{Q:Option ε->η->Prop}(hh:nh A s.heap)
  (hit:IsTupIter s.heap it t i) (ht:iB s.heap t items) (hx:items[i]?=none)
  (hQ:∀h',kU it s.heap h'->Q none { s with heap:=h' }):ξ (model prog w) A (pyNext (.ref it)) Q E s:=by
 obtain⟨o,ho,hc,hd⟩:=id hit;obtain⟨ol,hol,_,nl,hdl⟩:=ht;unfold pyNext;refine δ (gv (bS (name:=ee "__next__") hit.typeIs slot_tupleiter_next
  (cA slot_tupleiter_next hit.typeIs entry_tupleiter_next ?_ (args_tupleiter_next _))))
 show ξ _ _ (field (.ref it) 0 >>= _) _ _ s;refine δ (bI ho hd (x:=.ref t) rfl ?_);show ξ _ _ (if (aH t==aS)=true then _ else _) _ _ s;rw[if_neg (show ¬((aH t==aS)=true) from ar)];show ξ _ _ (field (.ref it) 1 >>= _) _ _ s;refine δ (bI ho hd (x:=.int i 0) rfl ?_);show ξ _ _ (seqItems? (.ref t) >>= _) _ _ s;refine δ (bY hol hdl ?_);simp only[bC,hx];refine δ (g7 (δ (fb ho hd (by simp) ?_)));show ξ _ _ (newExc (.type "StopIteration") [] >>= _) _ _ _;refine δ ?_;simp only[newExc,newTuple];refine δ (bG ?_ (by size_fits));refine δ (m:=firstArgMember _ _) (ib (a:=aS) (by first|rfl|(simp only[firstArgMember];rfl)) ?_)
 refine bG ?_ (by size_fits);refine CS (A:=A.in1) ?_ (af _ rfl) rfl (by exact (by decide:2<6)) fun h' sb ⟨o',e1,e2⟩=>?_
 ·refine (show nh A.in1 s.heap from hh).keep fun b ob vs e hf h2=>ι _ (ι _ ((ay _ _ fun z=>?_).trans e));rw[←z,ho] at e;cases e;rw[hd] at hf;cases hf;simp at h2
 refine δ (i4 (T:="StopIteration") (b:=true) ⟨_,e1,e2⟩ mT ?_);refine μ (hQ _ fun b ob hb e=>?_);refine (sb.2 b (aW (Ξ (((cy s.heap it _).extBut.push _) b ob hb e)))).trans ((((cy ..).extBut.push _).push _) b ob hb e)
theorem tO{t:ζ}{items:Array ε}{Q:List ε->η->Prop}(hh:nh A s.heap)(ht:iB s.heap t items)
  (hQ:∀h',kU s.heap.objs.size s.heap h'->Q items.toList { s with heap:=h' }):ξ (model prog w) A (unpackItems (.ref t) items.size none) Q E s:=by
 have hlt:t≠s.heap.objs.size:=by obtain⟨o,ho,_⟩:=ht;exact aW (Ξ ho)
 unfold unpackItems;refine δ ?_
 ·unfold notIterableAtAll;refine δ (qw ht.typeIs slot_tuple_iter.lookup ?_);refine μ ?_;simp only[cI,if_false];refine δ (aZ (iter_tuple ht ?_));refine δ (aZ (draw_tuple hlt items.size 0 _ _ ⟨_,af _ rfl,rfl,rfl⟩ (ht.push _) (by omega) fun h₁ hit₁ hs₁=>?_));have hall:List.take items.size (List.drop 0 items.toList)=items.toList:=by
   rw[List.drop_zero];exact gd (by simp)
  rw[hall];rw[if_neg (by simp)];have ht₁:iB h₁ t items:=(ht.push _).extBut hs₁.extBut hlt;have hh₁:nh A h₁:=hh.keep fun b o _ e _ _=>hs₁.extBut b o (aW (Ξ e)) (ι _ e);refine δ (aZ (Jx hh₁ hit₁ ht₁ (by simp) fun h₂ he₂=>?_));simp only[Option.isSome_none,cI,if_false];refine μ (hQ h₂ fun b o hb e=>he₂ b o hb (hs₁.extBut b o hb (ι _ e)))
theorem Hw{env:cK}{elts:List ρ}{x1}{pos:aO}{t:ζ}{items:Array ε}{Q:Unit->η->Prop}(hh:nh A s.heap)(ht:iB s.heap t items)
  (hn:(assignEach elts env).length=items.size) (hstar:(assignEach elts env).findIdx? (·.1)=none)
  (h:∀h',kU s.heap.objs.size s.heap h'->ξ (model prog w) A (assignInOrder ((assignEach elts env).map (·.2)) items.toList) Q E { s with heap:=h' }):
  ξ (model prog w) A (assign (.Tuple elts x1 pos) env (.ref t)) Q E s:=by
 rw[assign_Tuple];refine δ (gs ?_);unfold unpack;rw[hn,hstar];exact δ (aZ (tO hh ht h))
end
def gq(X:Cx):Prop:=∃e oe vs,X.A.handled=some (.ref e)/\(e,oe)∈X.pn/\oe.data=.fields vs/\vs[2]?=some .none
section
variable {X:Cx} {pins:List (ζ×aP)} {σ:St} {H:Hp} {s:η}
theorem gq.ctx(h:gq X)(I:Inv X pins σ H s):nh X.A s.heap:=by
 obtain⟨e,oe,vs,a,b,c,d⟩:=h;exact⟨e,oe,vs,a,(I.pin (e,oe) (cY _ b)).1,c,d⟩
theorem Qn{es:List ρ}{k:Nat}{t:vg}{n:Nat}{pos:aO}(hc:gq X)(h:xV X es t)
  (hn:(assignEach es X.env).length=n:=by rfl) (hst:(assignEach es X.env).findIdx? (·.1)=none:=by rfl):PG X (.Tuple es k pos) (MA X.K n t):=by
 intro pins s σ H v u Q I r hw;obtain⟨a,xs,e1,hq,hl,hw⟩:=hw;subst e1;cases r;obtain⟨its,rv,ht,hz⟩:=I.tuple hq;refine Hw (hc.ctx I) ht (by simp[hn,←hl,rv.length]) hst fun h' hx=>?_;have I1:Inv X pins σ H { s with heap:=h' }:=I.kept (t':=s.toks) fun b o e=>hx b o (aW (Ξ e)) e
 exact h pins _ σ H xs _ Q I1 (by simpa using rv) hw
theorem Qm{i j:Nat}{x y:ν}{a b:ρ}{ta:TA}{px py pt pos:aO}{kt k2 pt2}(hc:gq X)(hN:X.N.Nodup)(hi:X.N[i]?=some x)(hj:X.N[j]?=some y)(hij:i≠j)
  (hx:X.env.scope.names.lookup x=some .local) (hy:X.env.scope.names.lookup y=some .local) (ha:PA X [a,b] ta)
  (hw:swappedStores [.Tuple [.Name x px,.Name y py] kt pt] (.Tuple [a,b] k2 pt2) X.env=pure (some [x,y]))
  (hs:swapsWithSole [.Tuple [.Name x px,.Name y py] kt pt] (.Tuple [a,b] k2 pt2) pos.line X.env=pure false:=by rfl):
  PS X (.Assign [.Tuple [.Name x px,.Name y py] kt pt] (.Tuple [a,b] k2 pt2) pos) (Dl i j ta):=by
 intro pins s σ H D I h;rw[exec_Assign_arm];refine δ (gs ?_);rw[hs];refine δ (μ ?_);rw[if_neg (by decide)];refine δ (Tuple_ (bJ (ha _ pins s σ H _ I h) fun us s1 ⟨vs,H1,I1,r1,q1⟩=>?_));obtain⟨v,w,e1,q1⟩:=q1;subst e1;obtain⟨u1,u2,rfl,rv,rw'⟩:∃u1 u2,us=[u1,u2]/\RelV v u1/\RelV w u2:=by
  cases r1 with
  |cons p q=>
   cases q with
   |cons p' q'=>
    cases q';exact⟨_,_,rfl,p,p'⟩
 refine bG ?_ (by show 2≤au;decide);have I2:Inv X pins σ H1 { s1 with heap:=s1.heap.push { cls:=.type "tuple",data:=.seq [u1,u2].toArray }}:=I1.kept (t':=s1.toks) fun b o e=>ι _ e;rw[hw];refine δ (μ ?_);show ξ (model X.prog X.w) X.A (do rule "assign.swapped-stores";let items ←unpackItems (.ref s1.heap.objs.size) 2 none;assignInOrder [fun v=>bindName X.env y v,fun v=>bindName X.env x v] items.reverse;pure uC) _ _ _
 refine δ (g7 (δ (tO (items:=#[u1,u2]) (hc.ctx I2) (iB.new s1.heap _) fun h' hx'=>?_)));have I3:=I2.kept (h':=h') (t':=s1.toks) fun b o e=>hx' b o (aW (Ξ e)) e;show ξ _ _ (assignInOrder [fun v=>bindName X.env y v,fun v=>bindName X.env x v] [u2,u1] >>= fun _=>pure uC) _ _ _;refine δ (g8 (mR (vO I3 hN hj (.inl hy) rw' (fun s2 I4=>?_) (.inr hy))));refine g8 (mR (vO I4 hN hi (.inl hx) rv (fun s3 I5=>oB (μ ?_)) (.inr hx)));rw[List.set_comm _ _ (di hij)] at I5;exact⟨_,H1,I5,q1⟩
theorem Ql{tg iter:ρ}{body:List aQ}{tl:TE}{g:TG}{tb:TS}{pos:aO}(hp:g9 (model X.prog X.w) X.A X.env X.xe)(hc:gq X)(hi:PE X iter tl)(hg:PG X tg g)(hb:ma X body tb)
  (hs:∀x,foldedSetIterable iter X.env x=pure x:=by intro _;rfl):PS X (.For tg iter body [] pos) (HI (aap X.K tl) g tb):=by
 intro pins s σ H D I h;refine wpAny_For (bJ (hi pins s σ H _ I h) fun v s1 ⟨x,H1,I1,r1,q1⟩=>?_) hs;obtain⟨a,e,⟨xs,hq⟩,W,⟨m0,w0⟩,turn⟩:=q1;subst e;cases r1;obtain⟨its,rv,p,hz⟩:=I1.tuple hq;refine dq (show s1.heap.IsTuple a its.toArray from p) ?_;have I2:Inv X pins σ H1 { s1 with heap:=s1.heap.push { cls:=.type "tuple_iterator",data:=.fields #[.ref a,.int 0 0]}}:=I1.kept (t':=s1.toks) fun b o e=>ι _ e
 have f2:=I1.qR (H':=H1) (b:=s1.heap.objs.size) (Θ _) (I1.bF.fresh (Θ _));have stat:∀{H':Hp},H' s1.heap.objs.size=none->j3 X pins H' s1.heap.objs.size:=fun hn=>⟨hn,f2.2⟩;have st0:(s1.heap.push { cls:=.type "tuple_iterator",data:=.fields #[.ref a,.int 0 0]}).IsTupleIter s1.heap.objs.size a 0:=⟨_,af _ rfl,rfl,rfl⟩;revert f2 stat st0;generalize hit:s1.heap.objs.size=it;intro f2 stat st0;refine codeAny_forLoop_any (fun n s'=>∃i σ' H',Inv X pins σ' H' s'/\s'.heap.IsTupleIter it a i/\H' it=none/\W i n σ' H') ?_ m0 ⟨0,σ,H1,I2,st0,f2.1,w0⟩;rintro n s3 ⟨i,σ3,H3,I3,st3,fr3,w3⟩;rcases turn i n σ3 H3 w3 with⟨stop,qn⟩|⟨go,N,hN,step⟩
 ·obtain⟨f0,f1,f2',f3,f4,f5⟩:=stat fr3;obtain⟨ys,hq3,hx3⟩:=stop;obtain⟨its3,rv3,p3,hz3⟩:=I3.tuple hq3;have hl3:=rv3.length;obtain⟨o,e1,e2,e3⟩:=st3;refine cU hp (Jx (hc.ctx I3) ⟨o,e1,e2,e3⟩ p3 (by simp;omega) fun h' eb=>?_);have I4:Inv X pins σ3 H3 { s3 with heap:=h' }:=I3.turned (t':=s3.toks) (fun b o hb e=>eb b o hb e) f0 f1 f3 f4 f5;exact ft ⟨σ3,H3,I4,qn⟩
 ·obtain⟨f0,f1,f2',f3,f4,f5⟩:=stat fr3;obtain⟨ys,x,hq3,hx3⟩:=go;obtain⟨its3,rv3,p3,hz3⟩:=I3.tuple hq3;obtain⟨u,hu,ru⟩:=rv3.get hx3;refine cU hp (qf st3 (show s3.heap.IsTuple a its3.toArray from p3) (x:=u) (by simpa using hu) fun h' st5 sb=>?_);have I5:Inv X pins σ3 H3 { s3 with heap:=h' }:=I3.turned (t':=s3.toks) (fun b o hb e=>(sb.2 b hb).trans e) f0 f1 f3 f4 f5;obtain⟨o,e,c,d⟩:=id st5;have y5:(Di X.K a).CI i H3 x H3:=⟨rfl,fun ys' hy=>by rw[I3.tP hy hq3];exact hx3⟩;refine cU hp (yZ (s:={ s3 with heap:=h' }) e c d (by decide) ?_);have I5':Inv X (pins++[(it,o)]) σ3 H3 { s3 with heap:=h' }:=I5.xy fun p hp=>(bL.mp hp).elim (fun z=>I5.pin p (aY _ z)) fun z=>by
   have ez:p=(it,o):=by simpa using z
   subst ez;exact⟨e,f0,f1,f2',fun v z=>by rw[d] at z;cases z⟩
  refine cU hp (bJ (hg _ _ σ3 H3 x u _ I5' ru (step x H3 y5)) fun _ s6 ⟨σ6,H6,I6,q6⟩=>?_);refine cU hp (bJ (hb _ s6 σ6 H6 _ I6 q6) fun f s7 q7=>?_);have again:∀{σ7:St} {H7:Hp},Inv X (pins++[(it,o)]) σ7 H7 s7->N σ7 H7->∃m,m<n/\∃i σ' H',Inv X pins σ' H' s7/\s7.heap.IsTupleIter it a i/\H' it=none/\W i m σ' H':=fun {σ7 H7} I7 n7=>by
   obtain⟨m',hm,w7⟩:=hN σ7 H7 n7;have pin:=I7.pin (it,o) (aY _ (aY _ (by simp)));exact⟨m',hm,i+1,σ7,H7,I7.lb,⟨o,pin.1,c,d⟩,pin.2.1,w7⟩
  cases f with
  |next=>obtain⟨σ7,H7,I7,n7⟩:=q7;exact again I7 n7
  |cont=>obtain⟨σ7,H7,I7,n7⟩:=q7;exact again I7 n7
  |brk=>obtain⟨σ7,H7,I7,q7⟩:=q7;exact⟨σ7,H7,I7.lb,q7⟩
  |ret v=>obtain⟨x7,σ7,H7,I7,r7,q7⟩:=q7;exact⟨x7,σ7,H7,I7.lb,r7,q7⟩
end
end L2
namespace L2
open PySem PySem.Spec PyProof.Rows
def Cv(A:aE)(outer:List cK)(h:Ψ)(H:Hp):Prop:=∃e oe vs,A.handled=some (.ref e)/\h.get? e=some oe/\oe.data=.fields vs/\vs[2]?=some .none/\H e=none/\e∉fD outer
structure sI(P:Ω)(w:ah)(K:θ)(mg:ν->Option ε)(base:Ψ)(k:Nat)(f:ζ)(fd:ag)(ps:List ν)(sp:Sp):Prop where
 len:∀vs H Q E,sp vs H Q E->vs.length=ps.length
 run:∀(A:aE) (outer:List cK) (s:η) (H:Hp) (args:Args) (us:List ε) (vs:List V) (Q:VK) (E:XK),df k A->Cv A outer s.heap H->pM P w K mg base A outer s H->mY s fd args (ps.zip us)->bp vs us->sp vs H Q E ->
  fA (model P w) A (.call (.ref f) args) (CR oA outer P w H s Q E) s
def ui(P:Ω)(w:ah)(K:θ)(mg:ν->Option ε)(base:Ψ)(N:List ν)(qual:ν)(scope:eS)(f:ζ)(cd:ε)(A:aE)(outer:List cK)(s:η)(H:Hp)(E:XK)(e:ζ)(oe:aP):Cx:=
 { Aa P w K mg base N qual scope f cd A outer s H E with pn:=[(e,oe)]}
section
variable {P:Ω} {w:ah} {K:θ} {mg:ν->Option ε} {base:Ψ} {j k:Nat} {f:ζ} {fd:ag} {ps:List ν} {sp:Sp}
theorem sI.mono(F:sI P w K mg base j f fd ps sp)(h:j≤k):sI P w K mg base k f fd ps sp:=⟨F.len,fun A outer s H args us vs Q E hr=>F.run A outer s H args us vs Q E (hr.mono h)⟩
end
theorem Qk{P:Ω}{w:ah}{K:θ}{mg:ν->Option ε}{base:Ψ}{k:Nat}{x qual:ν}{st:aQ}{f:ζ}{fd:ag}{N ps:List ν}{sp:Sp}(F:dQ K x qual st f fd)(S:bz N ps (ω st))(len:∀vs H Q E,sp vs H Q E->vs.length=ps.length)
  (fk:∀(cdv:ε) (A:aE) (outer:List cK) (s:η) (H:Hp) (vs:List V) (Q:VK) (E:XK) (e:ζ) (oe:aP),df k (A.deeper (envOfC qual (ω st) s.heap.objs.size f cdv))->gq (ui P w K mg base N qual (ω st) f cdv A outer s H E e oe)->sp vs H Q E ->
   ∃t,ma (ui P w K mg base N qual (ω st) f cdv A outer s H E e oe) (eE st) t/\t { nx:=fun _ H'=>Q .aC H',rt:=Q } (start N vs) H):
  sI P w K mg base (k+1) f fd ps sp:=by
 obtain⟨oc,od,kV,doc,pm,an,cdv,ct,osl,rfl,lk,iq⟩:=F.ex;refine⟨len,fun A outer s H args us vs Q E hr hA e0 hb r qm=>?_⟩;have hl:=len _ _ _ _ qm;have KX:K.In s.heap:=e0.mod.pH.keeps fun b o e=>(e0.bs b o e).1;have lim:s.heap.NoLimit:=e0.mod.nolimit.keeps fun b o e=>(e0.bs b o e).1;have hkind:∀y∈ps.zip us,(ω st).names.lookup y.1=some .local∨((ω st).names.lookup y.1=some .cell/\((cellsFrom (s.heap.objs.size+1) (ω st).names []).lookup y.1).isSome=true):=fun⟨n,v⟩ hy=>by
  rcases S.par n (fu hy).1 with q|q
  ·exact .inl q
  ·exact .inr ⟨q,ig _ _ _ (.inl q)⟩
 refine iJ hr.depth (KX _ _ lk) rfl S.co S.gen rfl (j6 KX iq) (hb _ _ _ _ ?_);refine gu S.kind hkind fun env he s1 x=>?_;subst he;refine⟨lim.keeps x.toInCall.keep,pQ ?_⟩;obtain⟨e,oe,ws,h1,h2,h3,h4,h5,h6⟩:=hA;have HX:gq (ui P w K mg base N qual (ω st) f cdv A outer s H E e oe):=⟨e,oe,ws,h1,by simp[ui],h3,h4⟩;obtain⟨t,ht,hq⟩:=fk cdv A outer s H vs Q E e oe (hr.deeper _) HX qm;have e1:pM P w K mg base { A with handled:=none } outer s H:=⟨e0.frames,e0.mod,e0.bs,e0.qt,e0.ll,e0.wF,e0.bF,e0.bare⟩;have I0:Inv (ia oA P w K mg base N qual (ω st) f cdv { A with handled:=none } outer s H E) [] (start N vs) H s1:=EV S rfl e1 hl r x;have I1:=I0.loud (A:=A) e0.frames;have I:Inv (ui P w K mg base N qual (ω st) f cdv A outer s H E e oe) [] (start N vs) H s1:=by
  obtain⟨ok,a1,a2,a3,a4,a5,a6,a7,a8,a9,a10⟩:=I1;obtain⟨o1,o2,o3,o4,o5,o6,o7,o8,o9,o10,o11,o12,o13,o14,o15,o16,o17,o18⟩:=ok;refine⟨⟨o1,o2,o3,o4,o5,o6,o7,o8,o9,o10,o11,o12,o13,o14,o15,o16,o17,o18⟩,a1,a2,a3,a4,a5,a6,a7,fun p hp=>?_,a9,a10⟩;have ez:p=(e,oe):=by simpa [ui] using hp
  subst ez;exact⟨x.toInCall.keep _ _ h2,h5,aW (Ξ h2),h6,fun v z=>by rw[h3] at z;cases z⟩
 refine cb (ht [] s1 (start N vs) H _ I hq) (fun fl s' hs=>?_) fun e s' hs=>hs.elim;have fin:∀{σ':St} {H':Hp} {v:V} {u:ε},Inv (ui P w K mg base N qual (ω st) f cdv A outer s H E e oe) [] σ' H' s'->RelV v u->Q v H'->CE outer P w H s Q u s':=
  fun {σ' H' v u} J rv q=>⟨v,H',J.os,J.bare,J.base,J.bF,rv,q⟩
 cases fl with
 |ret u=>
  obtain⟨v,σ',H',J,rv,q⟩:=hs;exact fin J rv q
 |next=>
  obtain⟨σ',H',J,q⟩:=hs;exact fin (v:=V.aC) (u:=aS) J rfl q
 |brk=>
  obtain⟨_,_,_,q⟩:=hs;exact br q
 |cont=>
  obtain⟨_,_,_,q⟩:=hs;exact br q
section
variable {X:Cx} {k:Nat} {f:ζ} {fd:ag} {ps:List ν} {sp:Sp} {E:XK} {x:ν} {p pos:aO} {e:ρ} {es:List ρ} {t:TA}
theorem gq.atA{pins:List (ζ×aP)}{σ:St}{H:Hp}{s:η}(h:gq X)(I:Inv X pins σ H s):Cv X.A X.stack s.heap H:=by
 obtain⟨e,oe,vs,a,b,c,d⟩:=h;obtain⟨p1,p2,p3,p4,_⟩:=I.pin (e,oe) (cY _ b);refine⟨e,oe,vs,a,p1,c,d,p2,fun z=>?_⟩;rcases I.ok.zR with q|⟨q,q2⟩
 ·rw[q] at z;exact p4 z
 ·rw[q] at z;unfold fD at z;rw[eP,q2] at z;rcases Δ.mp z with z|z
  ·exact p3 z
  ·exact p4 z
theorem Qj{pins:List (ζ×aP)}{σ:St}{H:Hp}{s:η}{Q:VK}{us:List ε}{vs:List V}(F:sI X.prog X.w X.K X.mg X.base k f fd ps sp)(hr:df k X.A)(hA:gq X)(hb:Binds X.K fd ps [])
  (I:Inv X pins σ H s) (r:bp vs us) (h:sp vs H Q E):ξ (model X.prog X.w) X.A (call (.ref f) us) (EP X pins σ Q) X.xe s:=by
 have hl:(us++[]).length=ps.length:=by rw[bh,←r.length];exact F.len _ _ _ _ h
 have hb':=hb s us I.gk hl;rw[bh] at hb';refine fZ (ed (F.run X.A X.stack s H ⟨us,[]⟩ us vs Q E hr (hA.atA I) I.FC hb' r h) fun r s' hq=>?_);cases r with
 |error e=>exact br hq
 |ok fl=>
  cases fl with
  |ret u=>exact I.after hq
  |next=>exact br hq
  |brk=>exact br hq
  |cont=>exact br hq
theorem Qi(F:sI X.prog X.w X.K X.mg X.base k f fd ps sp)(hr:df k X.A)(hA:gq X)(hg:Gl X x)(hm:X.mg x=some (.ref f))(hk:bD X.K (.ref f)=true)(hb:Binds X.K fd ps [])
  (ha:PA X (e::es) t) (hdb:(x==("__debug__":ν))=false:=by decide) (he:bM (e::es) X.env=(false,eval e X.env)::bM es X.env:=by rfl) (hpl:(backTo pos (bM es X.env)).any (·.1)=false:=by rfl):
  PE X (.Call (.Name x p) (e::es) [] pos) (xZ sp [] E t):=by
 intro pins s σ H Q I h;refine cG (qK I hg hm ?_ hdb);refine er (h₀:=X.base) I.ok.mod.pH hk (bJ (ha pos pins s σ H _ I h) fun us s1 ⟨vs,H1,I1,r,q⟩=>⟨I1.gk,?_⟩) he hpl;have q':sp (vs++[]) H1 Q E:=q;rw[bh] at q';exact Qj F hr hA hb I1 r q'
end
end L2
namespace L3
open PySem PySem.Spec PyProof.Rows L2
abbrev sH(P:Ω)(w:ah)(K:θ)(mg:ν->Option ε)(base:Ψ)(k:Nat)(f:ζ)(fd:ag)(ps:List ν)(sp:dJ):Prop:=sI P w K mg base k f fd ps (kW K sp)
section
variable {X:Cx} {k:Nat} {f:ζ} {fd:ag} {ps:List ν} {sp:dJ} {x:ν} {p pos:aO} {e iter tg:ρ} {es:List ρ} {t:cM}
theorem Qh(F:sH X.prog X.w X.K X.mg X.base k f fd ps sp)(hr:df k X.A)(hA:gq X)(hm:X.mg x=some (.ref f))(hk:bD X.K (.ref f)=true)(hb:Binds X.K fd ps [])(ha:jc X (e::es) t)(hg:Gl X x:=by rfl)
  (hdb:(x==("__debug__":ν))=false:=by decide) (he:notStar e=true:=by rfl) (hpl:es.all notStar=true:=by rfl):
  bT X (.Call (.Name x p) (e::es) [] pos) (bA sp t):=jS (Qi (E:=E0) F hr hA hg hm hk hb ha hdb (eB he) (kD hpl)) fun σ H Q h=>EN h
theorem aat{P:Ω}{w:ah}{K:θ}{mg:ν->Option ε}{base:Ψ}{x qual:ν}{st:aQ}{f:ζ}{fd:ag}{N ps:List ν}{k:Nat}{sp:dJ}(F:dQ K x qual st f fd)(S:bz N ps (ω st))(hN:ps.length≤N.length)(len:∀ds G Q,sp ds G Q->ds.length=ps.length)(tb:az)
  (fk:∀(cdv:ε) (A:aE) (outer:List cK) (s:η) (H:Hp) (E:XK) (e:ζ) (oe:aP),df k (A.deeper (envOfC qual (ω st) s.heap.objs.size f cdv))->gq (ui P w K mg base N qual (ω st) f cdv A outer s H E e oe) ->
   jZ (ui P w K mg base N qual (ω st) f cdv A outer s H E e oe) (eE st) tb)
  (oq:∀ds G Q,sp ds G Q->tb (bf Q) (bc N ds) G):sH P w K mg base (k+1) f fd ps sp:=by
 refine Qk F S (fun vs H Q E h=>?_) (fun cdv A outer s H vs Q E e oe hr hA h=>?_)
 ·obtain⟨ds,G,Q3,h1,h2,h3,h4⟩:=h;rw[←h1.length];exact len _ _ _ h3
 ·obtain⟨ds,G,Q3,h1,h2,h3,h4⟩:=h;refine⟨_,fk cdv A outer s H E e oe hr hA,bc N ds,G,bf Q3,.start h1 ?_,h2,oq _ _ _ h3,⟨?_,?_,?_,?_⟩⟩
  ·rw[←h1.length,len _ _ _ h3];exact hN
  ·exact fun τ σ G' H' a b c ⟨G0,s0,q⟩=>h4 _ H' .aC G0 (by simp[Hv]) (b.trans (.sub s0)) (c.sub s0) q
  ·exact fun τ σ G' H' a b c q=>q.elim
  ·exact fun τ σ G' H' a b c q=>q.elim
  ·exact fun d v G' H' a b c ⟨G0,s0,q⟩=>h4 _ H' d G0 a (b.trans (.sub s0)) (c.sub s0) q
theorem Qg{k:Nat}{t:mP}{n:Nat}(hc:gq X)(h:xJ X es t)(hn:(assignEach es X.env).length=n:=by rfl)(hst:(assignEach es X.env).findIdx? (·.1)=none:=by rfl):uq X (.Tuple es k pos) (qQ n t):=
 A8 (Qn hc h hn hst) fun v σ H Q ⟨d,τ,G,Q3,hd,RS,RG,h,k⟩=>by
  cases d with
  |tup ds=>
   unfold Hv at hd;obtain⟨a,vs,e1,e2,e3⟩:=hd;exact⟨a,vs,e1,e2,by rw[←e3.length];exact h.1,ds,τ,G,Q3,e3,RS,RG,h.2,k⟩
  |_=>exact h.elim
def BA(te:aU):nA:=fun τ G R=>te τ G fun x G1=>match x with
 |.tup ds=>R ⟨ds,fun _=>True⟩ G1
 |_=>False
theorem Qf{body:List aQ}{te:aU}{g:iu}{tb:az}(hp:g9 (model X.prog X.w) X.A X.env X.xe)(hc:gq X)(hi:bT X iter te)(hg:uq X tg g)(hb:jZ X body tb)
  (hs:∀x,foldedSetIterable iter X.env x=pure x:=by intro _;rfl):nC X (.For tg iter body [] pos) (hX (BA te) g tb):=mI (Ql hp hc hi hg hb hs) fun D2 σ H ⟨τ,G,D3,RS,RG,h,k⟩=>by
 refine⟨τ,G,_,RS,RG,h,fun v H1 d G1 hv S1 R1 q1=>?_⟩;cases d with
 |tup ds=>
  unfold Hv at hv;obtain⟨a,vs,rfl,e2,e3⟩:=hv;have ok:yk X.K H1 (Di X.K a) ⟨ds,fun _=>True⟩:=by
   refine⟨?_,?_⟩
   ·intro i d H' G' E' RG' hg hi;obtain⟨v',y1,y2⟩:=e3.get hi;refine⟨⟨vs,v',cC.ext E' e2,y1⟩,fun x H'' hy=>?_⟩;obtain⟨rfl,hy⟩:=hy;have:=hy vs (cC.ext E' e2);rw[y1] at this;cases this;exact⟨y2.ext E',.refl _ _,RG'⟩
   ·intro i H' G' E' RG' hg hi;exact⟨vs,cC.ext E' e2,by rw[←e3.length];exact hi⟩
  refine⟨a,rfl,⟨vs,e2⟩,?_⟩;obtain⟨S,hS⟩:∃S:Src,S=⟨ds,fun _=>True⟩:=⟨_,rfl⟩;rw[←hS] at ok;have q1:iY S.guard g tb D3 S.items τ G1:=by rw[hS];exact q1
  refine⟨fun i m σ' H'=>∃τ' G',dB X.K τ' σ' H'/\aJ X.K G' H'/\Step H G H' G'/\Ext H1 H'/\iY S.guard g tb D3 (S.items.drop i) τ' G'/\m+i=S.items.length,⟨S.items.length,τ,G1,RS.ext (S1.ext RG),R1,S1,.refl H1,by simpa using q1,by lia⟩,?_⟩;rintro i m σ' H' ⟨τ',G',RS',RG',S',E',q,hm⟩;by_cases hlt:i<S.items.length
  ·have hd:S.items.drop i=S.items[i]::S.items.drop (i+1):=jJ hlt;have hget:S.items[i]?=some S.items[i]:=aB hlt;rw[hd] at q;obtain⟨hgd,q⟩:=q;obtain⟨z1,z2⟩:=ok.go i _ H' G' E' RG' hgd hget;refine .inr ⟨z1,fun σ2 H2=>∃τ2 G2,dB X.K τ2 σ2 H2/\aJ X.K G2 H2/\Step H G H2 G2/\Ext H1 H2/\iY S.guard g tb D3 (S.items.drop (i+1)) τ2 G2,fun σ2 H2 ⟨τ2,G2,a1,a2,a3,a4,a5⟩=>⟨m-1,by lia,τ2,G2,a1,a2,a3,a4,a5,by lia⟩,fun x H2 hy=>?_⟩;obtain⟨y1,y2,y3⟩:=z2 x H2 hy;refine⟨S.items[i],τ',G',_,y1,RS'.ext (y2.ext RG'),y3,q,fun τ3 σ3 G3 H3 b1 b2 b3 b4=>?_⟩;refine⟨τ3,G3,_,b1,b3,b4,⟨?_,?_,?_,?_⟩⟩
   ·exact fun τ4 σ4 G4 H4 c1 c2 c3 c4=>⟨τ4,G4,c1,c3,((S'.trans y2).trans b2).trans c2,((E'.trans (y2.ext RG')).trans (b2.ext y3)).trans (c2.ext b3),c4⟩
   ·exact fun τ4 σ4 G4 H4 c1 c2 c3 c4=>k.nx τ4 σ4 G4 H4 c1 (((S'.trans y2).trans b2).trans c2) c3 c4
   ·exact fun τ4 σ4 G4 H4 c1 c2 c3 c4=>⟨τ4,G4,c1,c3,((S'.trans y2).trans b2).trans c2,((E'.trans (y2.ext RG')).trans (b2.ext y3)).trans (c2.ext b3),c4⟩
   ·exact fun d v G4 H4 c1 c2 c3 c4=>k.rt d v G4 H4 c1 (((S'.trans y2).trans b2).trans c2) c3 c4
  ·have hd:S.items.drop i=[]:=ik (by lia);rw[hd] at q;exact .inl ⟨ok.stop i H' G' E' RG' q.1 (by lia),k.nx τ' σ' G' H' RS' S' RG' q.2⟩
 |_=>exact q1.elim
def zA(a:ζ)(sp:dJ)(t:cM):aU:=fun τ G Q=>t τ G fun ds G1=>(∃x fs,G1 a=some (.gen (jr x fs)))/\sp ds eW fun d G'=>∀G2,Joins G1 G' G2->Q d G2
theorem Pt{pins:List (ζ×aP)}{σ:L2.St}{H:Hp}{s:η}{Q:VK}{G1:Gp}{Q3:V3}{ds:List D}{us:List ε}{vs:List V}{a:ζ}{z:ν}{fs:List (ν×Int)}(F:sH X.prog X.w X.K X.mg X.base k f fd ps sp)(hr:df k X.A)(hA:X.A.handled=some (.ref a))(hb:Binds X.K fd ps [])
  (I:Inv X pins σ H s) (r:bp vs us) (hd:aF X.K H ds vs) (R1:aJ X.K G1 H) (hz:G1 a=some (.gen (jr z fs))) (h:sp ds eW fun d G'=>∀G2,Joins G1 G' G2->Q3 d G2) (kk:∀v H' d G',Hv X.K H' d v->Step H G1 H' G'->aJ X.K G' H'->Q3 d G'->Q v H'):
  ξ (model X.prog X.w) X.A (call (.ref f) us) (EP X pins σ Q) X.xe s:=by
 have hq:kW X.K sp vs (hide H) (fun v H'=>∃d G',Hv X.K H' d v/\Step (hide H) eW H' G'/\aJ X.K G' H'/\∀G2,Joins G1 G' G2->Q3 d G2) (fun _ _ _=>False):=
  ⟨ds,eW,_,hd.ou,(fun _ _ e=>nomatch e),h,fun v H' d G' a b c q=>⟨d,G',a,b,c,q⟩⟩
 have hl:(us++[]).length=ps.length:=by rw[bh,←r.length];exact F.len _ _ _ _ hq
 have e0:pM X.prog X.w X.K X.mg X.base X.A X.stack s (hide H):=⟨I.ok.frames,I.ok.mod,fun b o e=>⟨(I.bs b o e).1,vA (I.bs b o e).2⟩,aA I.ok.qt I.sz,I.stack,fun b hb=>vA (I.fw b hb),K6 I.bF,I.bare⟩;have hb':=hb s us I.gk hl;rw[bh] at hb';obtain⟨C,dx,c1,c2,c3⟩:=(R1 a _ hz).1;obtain⟨⟨oe,ws,q1,q2,q3,q4,q5⟩,_⟩:=(show bV X.prog X.w H s.heap a (.ext (ug a C dx)) from I.bF a _ c2);have HA:Cv X.A X.stack s.heap (hide H):=⟨a,oe,ws,hA,q1,q4,q5,Eg c2 rfl,fun z=>by rw[I.fw a z] at c2;cases c2⟩;refine fZ (ed (F.run X.A X.stack s (hide H) ⟨us,[]⟩ us vs _ (fun _ _ _=>False) hr HA e0 hb' r hq) fun r s' hq'=>?_);cases r with
 |error e=>exact br hq'
 |ok fl=>
  cases fl with
  |ret u=>
   obtain⟨v,H',os,bare,un,bF,rv,d,G',a,b,c,q⟩:=hq';obtain⟨un2,ok2⟩:=AJ I.bF I.fw un bF;obtain⟨z1,z2,z3,z4⟩:=Ee I.bF I.fw un bF R1 a b c;exact I.after ⟨v,joined H H',os,bare,un2,ok2,rv,kk v _ d _ z1 z2 z3 (q _ z4)⟩
  |next=>exact br hq'
  |brk=>exact br hq'
  |cont=>exact br hq'
theorem Pq{a:ζ}(F:sH X.prog X.w X.K X.mg X.base k f fd ps sp)(hr:df k X.A)(hA:X.A.handled=some (.ref a))(hm:X.mg x=some (.ref f))(hk:bD X.K (.ref f)=true)(hb:Binds X.K fd ps [])(ha:jc X (e::es) t)(hg:Gl X x:=by rfl)
  (hdb:(x==("__debug__":ν))=false:=by decide) (he:notStar e=true:=by rfl) (hpl:es.all notStar=true:=by rfl):
  bT X (.Call (.Name x p) (e::es) [] pos) (zA a sp t):=by
 intro pins s σ H Q I ⟨τ,G,Q3,RS,RG,h,kk⟩;refine cG (qK I hg hm ?_ hdb);refine er (h₀:=X.base) I.ok.mod.pH hk (bJ (ha pos pins s σ H (fun vs H1=>∃ds G1,aF X.K H1 ds vs/\Step H G H1 G1/\aJ X.K G1 H1/\(∃x fs,G1 a=some (.gen (jr x fs)))/\sp ds eW fun d G'=>∀G2,Joins G1 G' G2->Q3 d G2) I
  ⟨τ,G,_,RS,RG,h,fun vs H1 ds G1 a b c q=>⟨ds,G1,a,b,c,q⟩⟩) fun us s1 ⟨vs,H1,I1,r,ds,G1,hd,S1,R1,⟨z,fs,hz⟩,q⟩=>⟨I1.gk,?_⟩) (eB he) (kD hpl)
 exact Pt F hr hA hb I1 r hd R1 hz q fun v H' d G' a b c q=>kk v H' d G' a (S1.trans b) c q
end
end L3
namespace L3
open PySem PySem.Spec PyProof.Rows L2
section
variable {X:Cx} {k:Nat} {f:ζ} {fd:ag} {ps:List ν} {sp3:dJ} {x:ν} {p pos:aO} {a b e c iter tg:ρ} {es:List ρ} {t:cM} {te:aU} {ta:sW} {g:iu}
theorem Pp(F:sH X.prog X.w X.K X.mg X.base k f fd ps sp3)(hr:df k X.A)(hA:gq X)(hm:X.mg x=some (.ref f))(hk:bD X.K (.ref f)=true)(hb:Binds X.K fd ps [])(ha:QA X (e::es) t)(hg:Gl X x:=by rfl)
  (hdb:(x==("__debug__":ν))=false:=by decide) (he:notStar e=true:=by rfl) (hpl:es.all notStar=true:=by rfl):QE X (.Call (.Name x p) (e::es) [] pos) (bA sp3 t):=⟨Qh F hr hA hm hk hb ha.of hg hdb he hpl⟩
theorem Po{z:ζ}(F:sH X.prog X.w X.K X.mg X.base k f fd ps sp3)(hr:df k X.A)(hA:X.A.handled=some (.ref z))(hm:X.mg x=some (.ref f))(hk:bD X.K (.ref f)=true)(hb:Binds X.K fd ps [])(ha:QA X (e::es) t)(hg:Gl X x:=by rfl)
  (hdb:(x==("__debug__":ν))=false:=by decide) (he:notStar e=true:=by rfl) (hpl:es.all notStar=true:=by rfl):QE X (.Call (.Name x p) (e::es) [] pos) (zA z sp3 t):=⟨Pq F hr hA hm hk hb ha.of hg hdb he hpl⟩
theorem Pn{k:Nat}{t:mP}{n:Nat}(hc:gq X)(h:Dc X es t)(hn:(assignEach es X.env).length=n:=by rfl)(hst:(assignEach es X.env).findIdx? (·.1)=none:=by rfl):QG X (.Tuple es k pos) (qQ n t):=⟨Qg hc h.of hn hst⟩
theorem Pm{body:List aQ}{tb:az}(hp:g9 (model X.prog X.w) X.A X.env X.xe)(hc:gq X)(hi:QE X iter te)(hg:QG X tg g)(hb:oz X body tb)
  (hs:∀x,foldedSetIterable iter X.env x=pure x:=by intro _;rfl):QS X (.For tg iter body [] pos) (hX (BA te) g tb):=⟨Qf hp hc hi.of hg.of hb.of hs⟩
theorem Pl{i j:Nat}{x y:ν}{px py pt:aO}{kt k2 pt2}(hc:gq X)(hN:X.N.Nodup)(hi:X.N[i]?=some x)(hj:X.N[j]?=some y)(hij:i≠j)(hx:X.env.scope.names.lookup x=some .local)(hy:X.env.scope.names.lookup y=some .local)(ha:QA X [a,b] t)
  (hw:swappedStores [.Tuple [.Name x px,.Name y py] kt pt] (.Tuple [a,b] k2 pt2) X.env=pure (some [x,y]))
  (hs:swapsWithSole [.Tuple [.Name x px,.Name y py] kt pt] (.Tuple [a,b] k2 pt2) pos.line X.env=pure false:=by rfl):
  QS X (.Assign [.Tuple [.Name x px,.Name y py] kt pt] (.Tuple [a,b] k2 pt2) pos) (Aj i j t):=⟨Lh (Qm hc hN hi hj hij hx hy ha.of hw hs)⟩
theorem Pk{i:Nat}{cx en:ν}{names:List ν}{body suite rs:List aQ}{b₀:aQ}{np hpos:aO}{th:ζ->az}{tq:az}{B:ζ}(F:Frame X)(T7:Cr X.K names B)(hm:X.mg cx=some (.ref B))(hN:X.N.Nodup)(hb:xT X body ta)(hh:∀e,oz (X.lX e) (b₀::suite) (th e))(hr:oz X rs tq)
  (hi:X.N[i]?=some en:=by rfl) (hl:X.env.scope.names.lookup en=some .local:=by rfl) (hg:Gl X cx:=by rfl) (hdb:(cx==("__debug__":ν))=false:=by decide):
  oz X (.Try body [.ExceptHandler (some (.Name cx np)) (some en) (b₀::suite) hpos] [] [] pos::rs) (Ai names i ta th tq):=⟨Rx F T7 hm hN hb.of (fun e=>(hh e).of) hr.of hi hl hg hdb⟩
end
theorem L7{P:Ω}{w:ah}{K:θ}{mg:ν->Option ε}{base:Ψ}{x qual:ν}{st:aQ}{f:ζ}{fd:ag}{N ps:List ν}{k:Nat}{sp:dJ}(F:dQ K x qual st f fd)(S:bz N ps (ω st))(hN:ps.length≤N.length)(len:∀ds G Q,sp ds G Q->ds.length=ps.length)(tb:az)
  (fk:∀(cdv:ε) (A:aE) (outer:List cK) (s:η) (H:Hp) (E:XK) (e:ζ) (oe:aP),df k (A.deeper (envOfC qual (ω st) s.heap.objs.size f cdv))->gq (ui P w K mg base N qual (ω st) f cdv A outer s H E e oe) ->
   oz (ui P w K mg base N qual (ω st) f cdv A outer s H E e oe) (eE st) tb)
  (oq:∀ds G Q,sp ds G Q->tb (bf Q) (bc N ds) G):sH P w K mg base (k+1) f fd ps sp:=aat F S hN len tb (fun cdv A outer s H E e oe hr hA=>(fk cdv A outer s H E e oe hr hA).of) oq
end L3
namespace My
open PySem L2 L3
def Pj:az:=ck (bx uI (bx lJ (υ 1) (υ 2)) (bA vS (ο (υ 1) (ο (υ 2) (ae))))) (hName 1)
def Ph:az:=cz (υ 1)
def Pg:az:=bH (hX (BA (υ 0)) (qQ 2 (jH (hName 2) (jH (hName 3) (uf)))) (Pj)) Ph
def Jw:az:=bH (ck (eC (.int 1)) (hName 1)) Pg
theorem Pf:∀ds G Q,rW ds G Q->Jw (bf Q) (bc ["clocks","found","step","rest"] ds) G:=by
 rintro ds G Q ⟨cs,rfl,ok,hl,q⟩;exact Kq _ _ _ ⟨cs,rfl,ok,hl,q⟩
end My
namespace My
open PySem L2 L3
def Jv:dJ:=fun ds G Q=>∃p:ζ,ds=[.obj p]/\G p=some .ny/\∀cs,vk cs->10000<dy cs->Q (fW cs) G
def Pe:az:=cz (eH t8 (ο (eH vD (ο (sT (υ 1) (lR) (kl (bx gU (eC (.int 2)) (bA kO (ο (υ 0) (ο (eC (.int 3)) (ae))))))) (ae))) (ae)))
def Pd:az:=bH (ck (jv (ο (fH (ο (eC (.int 101)) (ο (bA kO (ο (υ 0) (ο (eC (.int 101)) (ae)))) (ae)))) (ο (fH (ο (eC (.int 103)) (ο (bA kO (ο (υ 0) (ο (eC (.int 103)) (ae)))) (ae)))) (ο (fH (ο (eC (.int 997)) (ο (bA kO (ο (υ 0) (ο (eC (.int 997)) (ae)))) (ae)))) (ο (fH (ο (eC (.int 2)) (ο (eC (.int 1)) (ae)))) (ae)))))) (hName 1)) Pe
theorem Pc{cs:List aG}{a b:Int}(h1:(101,a)∈cs)(h2:(103,b)∈cs)(hp:∀z∈cs,0<z.1):10000<dy cs:=by
 have d1:101∣dy cs:=Kk h1;have d2:103∣dy cs:=Kk h2;have d3:101*103∣dy cs:=Nat.Coprime.mul_dvd_of_dvd_of_dvd (by decide) d1 d2;have:=jh (JH hp) d3;lia
theorem Pb:∀ds G Q,Jv ds G Q->Pd (bf Q) (bc ["pen","some"] ds) G:=by
 rintro ds G Q ⟨p,rfl,hp,q⟩;refine⟨p,101,rfl,hp,⟨by decide,jR (by decide) (by decide)⟩,fun r1 a1 b1=>⟨p,103,rfl,hp,⟨by decide,jR (by decide) (by decide)⟩,fun r2 a2 b2=>⟨p,997,rfl,hp,⟨by decide,jR (by decide) (by decide)⟩,fun r3 a3 b3=>?_⟩⟩⟩;intro q0 G0 hq0;refine⟨p,3,rfl,hq0.sub _ _ hp,⟨by decide,jR (by decide) (by decide)⟩,fun r a b=>⟨_,hq0.at_,fun p1 G1 hp1=>?_⟩⟩;have ec:jw [.tup [.int 101,.int r1],.tup [.int 103,.int r2],.tup [.int 997,.int r3],.tup [.int 2,.int 1]] none (some (2+r))=(qT [(101,r1),(103,r2),(997,r3),(2,1)] none (some (2+r))).map cD:=rX cD [(101,r1),(103,r2),(997,r3),(2,1)] _ _;rw[ec] at hp1;obtain⟨k,hk⟩:∃k:Nat,2+r=((k+2:Nat):Int):=⟨r.toNat,by lia⟩;rw[hk,xp] at hp1;have hk2:k≤2:=by lia
 have hl:([(101,r1),(103,r2),(997,r3),(2,1)]:List aG).length=4:=rfl;refine⟨_,DZ hp1.at_,by rw[π,bW];lia,D0,fun p2 mss G2 hp2 hpm hr=>?_⟩;have nd:([(101,r1),(103,r2),(997,r3),(2,1)]:List aG).Nodup:=by simp
 obtain⟨cs',rfl,hmem,hr,hlen⟩:=Qp hpm (List.Nodup.sublist (kL (k+2) _) nd) hr;rw[bW] at hlen;rw[AA] at hp2;have ok:xK 1000 cs':=fun c hc=>by
  have:=eF ((hmem c).mp hc);simp at this;rcases this with rfl|rfl|rfl|rfl
  ·exact⟨⟨(by decide:(0:Int)<101),a1,b1⟩,(by decide:(101:Int)≤1000)⟩
  ·exact⟨⟨(by decide:(0:Int)<103),a2,b2⟩,(by decide:(103:Int)≤1000)⟩
  ·exact⟨⟨(by decide:(0:Int)<997),a3,b3⟩,(by decide:(997:Int)≤1000)⟩
  ·exact⟨⟨by decide,by decide,by decide⟩,by decide⟩
 refine⟨_,hp2.at_,mH ((hq0.sub.trans hp1.sub).trans hp2.sub) (q cs' ⟨ok,by lia⟩ (Pc (a:=r1) (b:=r2) ((hmem _).mpr (by simp[List.take])) ((hmem _).mpr (by simp[List.take])) fun z hz=>(ok z hz).1.1))⟩
end My
namespace My
open PySem L2 L3
abbrev yL:=Jv
def Pa:az:=cz (eH t8 (ο (eH vD (ο (sT (υ 1) (lR) (kl (bx gU (eC (.int 2)) (bA kO (ο (υ 0) (ο (eC (.int 3)) (ae))))))) (ae))) (ae)))
def Ju:az:=bH (ck (jv (ο (fH (ο (eC (.int 101)) (ο (bA kO (ο (υ 0) (ο (eC (.int 101)) (ae)))) (ae)))) (ο (fH (ο (eC (.int 103)) (ο (bA kO (ο (υ 0) (ο (eC (.int 103)) (ae)))) (ae)))) (ο (fH (ο (eC (.int 997)) (ο (bA kO (ο (υ 0) (ο (eC (.int 997)) (ae)))) (ae)))) (ο (fH (ο (eC (.int 2)) (ο (eC (.int 1)) (ae)))) (ae)))))) (hName 1)) Pa
theorem O9:∀ds G Q,yL ds G Q->Ju (bf Q) (bc ["pen","some"] ds) G:=fun ds G Q h=>Pb ds G Q h
end My
namespace My
open PySem L2 L3
theorem O8:∀ns:List Int,dP (ns.map D.int)=some (ns.map Dat.D.int):=by
 intro ns
 induction ns with
 |nil=>rfl
 |cons n ns ih=>
  show dP (D.int n::ns.map D.int)=_;rw[dP,ih];rfl
def tX(ns:List Int):Dat.D:=.tup (ns.map Dat.D.int)
theorem Ay{G:Gp}(ns:List Int):rR G (tupI ns)=some (tX ns):=by
 show iE (.tup (ns.map D.int))=_;rw[iE,O8];rfl
theorem DV(nss:List (List Int)):dP (nss.map tupI)=some (nss.map tX):=by
 induction nss with
 |nil=>rfl
 |cons ns nss ih=>
  show dP (tupI ns::nss.map tupI)=_;have h:iE (tupI ns)=some (tX ns):=Ay (G:=fun _=>none) ns;rw[dP,h,ih];rfl
theorem O7(ms ns:List Int):Dat.ju (ms.map Dat.D.int) (ns.map Dat.D.int)=decide (ms=ns):=by
 induction ms generalizing ns with
 |nil=>cases ns<;>rfl
 |cons m ms ih=>
  cases ns with
  |nil=>rfl
  |cons n ns=>
   show ((m==n)&&Dat.ju (ms.map Dat.D.int) (ns.map Dat.D.int))=_;rw[ih,jM];simp
theorem DU(ms ns:List Int):(tX ms).fm (tX ns)=decide (ms=ns):=O7 ms ns
theorem DT(ns:List Int):Dat.fI (ns.map Dat.D.int)=0:=by
 induction ns with
 |nil=>rfl
 |cons n ns ih=>
  show max 0 (Dat.fI (ns.map Dat.D.int))=0;lia
theorem O6(nss:List (List Int)):Dat.fI (nss.map tX)≤1:=by
 induction nss with
 |nil=>exact ba _
 |cons ns nss ih=>
  show max (Dat.fI (ns.map Dat.D.int)+1) (Dat.fI (nss.map tX))≤1;rw[DT];lia
def O5:az:=cz (eH t7 (ο (fX ["ahead","place"] [] (Bz (ο (υ 1) (ο (sT (υ 1) (kl (eC (.int 1))) (lR)) (ae)))) (qQ 2 (jH (hName 0) (jH (hName 1) (uf)))) (eI) (bx rV (υ 0) (υ 1))) (ae)))
def Jt:az:=bH (kA (sU (jV (b9 (qo "tuple" (υ 1)))) (jV (b9 (eH t7 (ο (fX ["place"] [0] (iW (υ 1)) (hName 0) (eI) (bA P8 (ο (υ 1) (ο (υ 0) (ae))))) (ae)))))) (cz (eC (.bl false))) (fJ)) O5
theorem O4{ps:List Int}(h:ps.Pairwise (· < ·)):((ps.zip (ps.drop 1)).all fun p=>decide (p.1<p.2))=true:=by
 rw[eY];intro p hp;obtain⟨i,hi,e⟩:=gV hp;rw[mo,fV] at hi;rw[List.getElem_zip,List.getElem_drop] at e;rw[←e];exact decide_eq_true (dO.mp h i (1+i) (by lia) (by lia) (by lia))
end My
namespace L2
open PySem PySem.Spec PyProof.Rows
section
variable {X:Cx} {pins:List (ζ×aP)} {σ:St} {H:Hp} {s:η} {a:ζ} {y v:V} {u r:ε} {o:Option V} {A:aE} {E:ε->η->Prop}
theorem Inv.big(I:Inv X pins σ H s):sysModules<s.heap.objs.size:=by
 have h:aT<s.heap.objs.size:=(I.mod.glob.keeps I.bk).lt;exact mj (by decide) h
theorem O3{h':Ψ}{t':Nat}{ob:HO}(I:Inv X pins σ H s)(mu:Dg (H a))(hs:et a s.heap h')(he:∃q,h'.get? a=some q)(new:bV X.prog X.w (upd H a ob) h' a ob):
  Inv X pins σ (upd H a ob) { s with heap:=h',toks:=t' }:=
 I.write (x:=a) (e:=a) mu (.inl rfl) (fun b q hb z=>(hs.2 b hb).trans z) he new
end
end L2
namespace L3
open PySem PySem.Spec PyProof.Rows L2
abbrev su:=List Int×ζ×ε
def pI(a:ζ)(xs:List su):Ψ->Prop:=fun h=>∃P w o es ep,h.get? a=some o/\o.ExactDict/\o.data=.dict es ep/\es.toList=xs.map (entryOfKey (tupleKind (intKind P w)))/\(xs.map (·.1)).Nodup/\(a==sysModules)=false
def uh(ks:List (List Int)):θ->ζ->Hp->Prop:=fun K a H=>∃xs:List su,H a=some (.ext (pI a xs))/\xs.map (·.1)=ks/\∀x∈xs,cC K H x.2.1 (x.1.map V.int)
def qP(ks:List (List Int))(k:List Int):List (List Int):=if k∈ks then ks else ks++[k]
section
variable {K:θ} {H:Hp} {G:Gp} {a p:ζ} {ks:List (List Int)}
theorem Js(h:uh ks K a H):ur K H a (.gen (uh ks)):=
 ⟨h,let ⟨xs,e,_⟩:=h;⟨_,e,fun _=>nofun,fun _ _=>nofun⟩,fun H1 H2 h1 h2 e ⟨xs,z,r,q⟩=>⟨xs,e.trans z,r,fun x hx=>cC.ext ⟨h1,h2⟩ (q x hx)⟩⟩
theorem Ext.we{φ:Ψ->Prop}{o:HO}(h:H p=some (.ext φ)):Ext H (upd H p o):=
 ⟨fun b ys e=>by
  rw[dz fun z=>by rw[z,h] at e;cases e];exact e,fun b x u e=>by
  rw[dz fun z=>by rw[z,h] at e;cases e];exact e⟩
theorem aJ.we{φ:Ψ->Prop}{o:HO}{g:GO}(R:aJ K G H)(h:H p=some (.ext φ))(new:ur K (upd H p o) p g):aJ K (dG G p g) (upd H p o):=fun a u e=>by
 by_cases z:a=p
 ·subst z;rw[jT] at e;cases e;exact new
 ·rw[mE z] at e;exact (R a u e).ext (Ext.we h) (dz z)
theorem zZ{P:Ω}{w:ah}{h:Ψ}{xs:List su}(d:pI a xs h):bV P w H h a (.ext (pI a xs)):=
 ⟨d,let ⟨_,_,o,_,_,e,_⟩:=d;⟨o,e⟩,fun h1 h2 ⟨P,w,o,es,ep,e,r⟩ kk=>⟨P,w,o,es,ep,kk _ e,r⟩⟩
theorem O1{xs:List su}(k:List Int)(b:ζ)(v:ε):(storedH xs k b v).map (·.1)=qP (xs.map (·.1)) k:=by
 have hk:(atKey xs k).isSome=decide (k∈xs.map (·.1)):=by
  unfold atKey;rw[Option.isSome_map,jM,List.find?_isSome,decide_eq_true_iff,aj];constructor
  ·rintro⟨x,hx,e⟩;exact⟨x,hx,of_decide_eq_true e⟩
  ·rintro⟨x,hx,e⟩;exact⟨x,hx,decide_eq_true e⟩
 unfold storedH qP;rw[hk];by_cases q:k∈xs.map (·.1)
 ·rw[if_pos (decide_eq_true q),if_pos q,cZ];refine eO fun x _=>?_;show (putAt k v x).1=x.1;unfold putAt;split<;>rfl
 ·rw[if_neg (by simpa using q),if_neg q,cg];rfl
theorem O0{xs:List su}{k:List Int}{b:ζ}{v:ε}{x:su}(h:x∈storedH xs k b v):(∃y∈xs,y.1=x.1/\y.2.1=x.2.1)∨(x.1=k/\x.2.1=b):=by
 unfold storedH at h;split at h
 ·obtain⟨y,hy,rfl⟩:=aj.mp h;refine .inl ⟨y,hy,?_⟩;unfold putAt;split<;>exact⟨rfl,rfl⟩
 ·rcases bL.mp h with h|h
  ·exact .inl ⟨x,h,rfl,rfl⟩
  ·rw[aV.mp h];exact .inr ⟨rfl,rfl⟩
end
section
variable {X:Cx} {pins:List (ζ×aP)} {σ:L2.St} {H:Hp} {s:η} {a b:ζ} {A:aE} {E:ε->η->Prop}
theorem Jr(I:L2.Inv X pins σ H s){k:List Int}(h:cC X.K H b (k.map V.int)):(tupleKind (intKind X.prog X.w)).is s.heap k b:=by
 obtain⟨its,rv,⟨o,h1,h2,n,h3⟩,_⟩:=I.tuple h;exact⟨o,its.toArray,n,h1,h2,h3,Fe rv⟩
theorem PH{k:List Int}{xs:List su}{r:ε}{Q:Unit->η->Prop}(hu:A.units+1<cLine)(I:L2.Inv X pins σ H s)(e:H a=some (.ext (pI a xs)))(hx:∀x∈xs,cC X.K H x.2.1 (x.1.map V.int))(hk:cC X.K H b (k.map V.int))(hl:xs.length≤1000)
  (h:∀s' ys,L2.Inv X pins σ (upd H a (.ext (pI a ys))) s'->ys.map (·.1)=qP (xs.map (·.1)) k->(∀x∈ys,cC X.K H x.2.1 (x.1.map V.int))->Q () s'):
  ξ (model X.prog X.w) A (setItem (.ref a) (.ref b) r) Q E s:=by
 obtain⟨⟨P,w,o,es,ep,z1,z2,z3,z4,z5,z6⟩,_⟩:=(show bV X.prog X.w H s.heap a _ from I.bF a _ e);have dd:s.heap.DictOfH (tupleKind (intKind X.prog X.w)) a xs:=⟨o,es,ep,z1,z2,z3,z4,fun x hm=>Jr I (hx x hm),z5⟩;refine wpAny_setItem_heap (hsz:=by rw[cH];omega) (tupleKind_room_in1 hu) (Jr I hk) dd fun h' dd' hs=>?_;obtain⟨q,es',ep',hq,y2,y3,y4,_,y5⟩:=dd';refine h _ (storedH xs k b r) (O3 I (by rw[e];exact oU) hs ⟨q,hq⟩ (zZ ⟨X.prog,X.w,q,es',ep',hq,y2,y3,y4,y5,z6⟩)) (O1 k b r) fun x hm=>?_;rcases O0 hm with⟨y,hy,e1,e2⟩|⟨e1,e2⟩
 ·rw[←e1,←e2];exact hx y hy
 ·rw[e1,e2];exact hk
theorem PF{d:ζ}{o:aP}{es:Array uD}{ep:Nat}{prog:Ω}{w:ah}{Q:ε->η->Prop}(hd:(d==sysModules)=false)(ho:s.heap.get? d=some o)(hc:o.ExactDict)(hdat:o.data=.dict es ep)(hfit:(es.size:Int)<2^63)
  (h:Q (.int es.size (s.toks+1)) { s with toks:=s.toks+1+1 }):ξ (model prog w) A (call (.builtin "len") [.ref d]) Q E s:=by
 have hT:s.TypeIs (.ref d) "dict":=⟨o,ho,hc.1⟩;refine oX kind_len plain_len entry_len (args_len1 _) ?_;unfold cS.«len»;refine δ (m:=oneArg "len" _) (μ ?_);have hm:MeetsIn prog w (cS.«dict.__len__» ⟨[.ref d],[]⟩) (fun _ R s=>∃o es ep,s.heap.get? d=some o/\o.data=.dict es ep/\R (.ok (.ret (.int es.size s.toks))) { s with toks:=s.toks+1 }):=.of_wp fun A R s ⟨o,es,ep,ho,hdat,h⟩=>by
  show ξ _ _ (dictSize d >>= _) _ _ s;unfold dictSize;refine δ (δ (wpAny_dictEntries ho hdat (μ ?_)));show ξ _ _ (cS.Dict.pendingCount d >>= _) _ _ s;refine δ (wpAny_pendingCount_other hd ?_);refine wpAny_ret_mkInt ?_;rw[Nat.add_zero];exact h
 refine δ (m:=callSpecial? (.ref d) (ee "__len__")) (bS (name:=ee "__len__") hT F.slot_dict_len
  (call_meetsIn F.slot_dict_len hT F.entry_dict_len (F.args_dict_len_1 _) hm ⟨o,es,ep,ho,hdat,?_⟩))
 show ξ _ _ _ _ _ { s with toks:=s.toks+1 };refine δ (aZ (μ ?_));refine δ (eQ ?_);show ξ _ _ (if ((es.size:Nat):Int)<0 then _ else _) _ _ _;rw[if_neg (by omega)];show ξ _ _ (if ((es.size:Nat):Int)≥2^63 then _ else _) _ _ _;rw[if_neg (by omega)];exact δ (wpAny_mkInt (μ ⟨_,rfl,h⟩))
end
section
variable {X:Cx} {o i e:ρ} {pos pos' p:aO} {to ti tv ta:aU}
def B2:aU:=fun _ G Q=>∀p G2,eD G p (.gen (uh [])) G2->Q (.obj p) G2
theorem PD:PE X (.Dict [] [] pos) (fun _ H Q=>∀p,H p=none->Q (.ref p) (upd H p (.ext (pI p [])))):=fun pins s σ H Q I h=>
 wpAny_Dict_empty ⟨.ref s.heap.objs.size,_,I.laid (a:=s.heap.objs.size) (o:=.ext (pI s.heap.objs.size [])) (t':=s.toks) (fun _ _ q=>ι _ q) (Θ _) (zZ ⟨X.prog,X.w,_,#[],0,af _ rfl,⟨rfl,rfl,rfl⟩,rfl,rfl,mW,beq_eq_false_iff_ne.mpr (di (aW I.big))⟩),rfl,h _ (I.bF.fresh (Θ _))⟩
theorem PC:bT X (.Dict [] [] pos) B2:=jS PD fun σ H Q ⟨τ,G,Q3,RS,RG,h,k⟩ p hp=>
 k _ _ (.obj p) _ vI (.jG hp) (RG.jG hp (Js ⟨[],iO,rfl,fun x hx=>nomatch hx⟩)) (h p _ (.mk' (RG.free hp)))
def Ak(to ti tv:aU):az:=fun D τ G=>tv τ G fun _ G1=>to τ G1 fun o G2=>ti τ G2 fun x G3=>match o,x with
 |.obj p,.tup ds=>∃ks k,G3 p=some (.gen (uh ks))/\ds=k.map .int/\ks.length≤1000/\D.nx τ (dG G3 p (.gen (uh (qP ks k))))
 |_,_=>False
theorem PB{td ty tv:TE}(hu:X.A.units+1<cLine)(ho:PE X o td)(hi:PE X i ty)(hv:PE X e tv)(hs:swapsWith e (some (.Subscript o i pos')) pos.line X.env=pure false):
  PS X (.Assign [.Subscript o i pos'] e pos) (fun D σ H=>tv σ H fun v H1=>td σ H1 fun x H2=>ty σ H2 fun y H3=>∃a b xs k,x=.ref a/\y=.ref b/\H3 a=some (.ext (pI a xs))/\(∀x∈xs,cC X.K H3 x.2.1 (x.1.map V.int))/\cC X.K H3 b (k.map V.int)/\xs.length≤1000 ∧
   ∀ys:List su,ys.map (·.1)=qP (xs.map (·.1)) k->(∀x∈ys,cC X.K H3 x.2.1 (x.1.map V.int))->D.nx σ (upd H3 a (.ext (pI a ys)))):=by
 intro pins s σ H D I h;refine wpAny_Assign_Subscript (bJ (hv pins s σ H _ I h) fun r s1 ⟨v,H1,I1,rv,q1⟩=>bJ (ho pins s1 σ H1 _ I1 q1) fun u s2 ⟨x,H2,I2,rx,q2⟩=>bJ (hi pins s2 σ H2 _ I2 q2) fun iv s3 ⟨y,H3,I3,ry,a,b,xs,k,ex,ey,z1,z2,z3,z4,q3⟩=>?_) hs;subst ex ey;obtain rfl:u=aH a:=rx;obtain rfl:iv=aH b:=ry;exact PH hu I3 z1 z2 z3 z4 fun s4 ys I4 y1 y2=>⟨σ,_,I4,q3 ys y1 y2⟩
theorem Pz(hu:X.A.units+64<cLine)(ho:bT X o to)(hi:bT X i ti)(hv:bT X e tv)(hs:swapsWith e (some (.Subscript o i pos')) pos.line X.env=pure false:=by rfl):
  nC X (.Assign [.Subscript o i pos'] e pos) (Ak to ti tv):=
 mI (PB (fc (by omega) hu) ho hi hv hs) fun D σ H ⟨τ,G,D3,RS,RG,h,k⟩=>
  ⟨τ,G,_,RS,RG,h,fun v H1 dv G1 hv S1 R1 q1=>⟨τ,G1,_,RS.ext (S1.ext RG),R1,q1,fun x H2 d2 G2 h2 S2 R2 q2=>
   ⟨τ,G2,_,(RS.ext (S1.ext RG)).ext (S2.ext R1),R2,q2,fun y H3 d3 G3 h3 S3 R3 q3=>by
    cases d2 with
    |obj p=>
     cases d3 with
     |tup ds=>
      obtain⟨ks,key,e1,rfl,l1,q⟩:=q3;obtain⟨⟨xs,z1,z2,z3⟩,_⟩:=R3 p _ e1;obtain⟨b,vs,rfl,t1,t2⟩:=lQ h3;have hvs:vs=key.map V.int:=by
       refine vH t2 ?_;clear t2 t1 h3 q
       induction key with
       |nil=>rfl
       |cons n ns ih=>simp[intsOf,ih]
      subst hvs;have hx:x=.ref p:=ip h2;refine⟨p,b,xs,key,hx,rfl,z1,z3,t1,?_,fun ys y1 y2=>?_⟩
      ·have:=congrArg ij z2;rw[π] at this;omega
      ·have E3:=Ext.we (o:=.ext (pI p ys)) z1;refine k.nx τ σ _ _ ?_ ?_ (R3.we z1 (Js ⟨ys,iO,by rw[y1,z2],fun x hx=>cC.ext E3 (y2 x hx)⟩)) q
       ·exact ((((RS.ext (S1.ext RG)).ext (S2.ext R1)).ext (S3.ext R2))).ext E3
       ·exact ((S1.trans S2).trans S3).trans (Step.wrote e1)
     |_=>exact q3.elim
    |_=>exact q3.elim⟩⟩⟩
def B1(ta:aU):aU:=fun τ G Q=>ta τ G fun o G1=>match o with
 |.obj a=>∃ks,G1 a=some (.gen (uh ks))/\ks.length≤1000/\Q (.int (ks.length:Nat)) G1
 |_=>False
theorem Py:jI X (.builtin "len") (fun vs H Q=>∃(a:ζ) (xs:List su),vs=[.ref a]/\H a=some (.ext (pI a xs))/\xs.length≤1000/\Q (.int (xs.length:Nat)) H):=by
 intro pins s σ H vs us Q I r ⟨a,xs,e1,ha,hz,q⟩;subst e1;obtain⟨u,rfl,ru⟩:=vals1 r;cases ru;obtain⟨⟨P,w,o,es,ep,z1,z2,z3,z4,z5,z6⟩,_⟩:=(show bV X.prog X.w H s.heap a _ from I.bF a _ ha);have hsz:es.size=xs.length:=size_of_entries z4;refine PF z6 z1 z2 z3 (by rw[hsz];omega) ?_;rw[hsz];exact⟨.int xs.length,H,I.tok _,⟨_,rfl⟩,q⟩
theorem Px(hu:X.A.units+64<cLine)(ha:bT X e ta)(hm:X.mg "len" = none)(hg:Gl X "len":=by rfl)(he:notStar e=true:=by rfl):
  bT X (.Call (.Name "len" p) [e] [] pos) (B1 ta):=
 jS (qJ Py hg hm rfl (pC ha t9 (eB he)) (he:=eB he)) fun σ H Q ⟨τ,G,Q3,RS,RG,h,k⟩=>⟨τ,G,_,RS,RG,h,fun v H1 d G1 h1 S1 R1 q1=>by
  cases d with
  |obj a=>
   obtain⟨ks,e1,hz,q⟩:=q1;obtain⟨⟨xs,z1,z2,z3⟩,_⟩:=R1 a _ e1;have hl:xs.length=ks.length:=by rw[←z2,π]
   refine⟨a,xs,by rw[ip h1],z1,by omega,k _ _ (.int xs.length) G1 lL S1 R1 ?_⟩;rw[hl];exact q
  |_=>exact q1.elim⟩
theorem Pw:QE X (.Dict [] [] pos) B2:=⟨PC⟩
theorem Pu(hu:X.A.units+64<cLine)(ho:QE X o to)(hi:QE X i ti)(hv:QE X e tv)(hs:swapsWith e (some (.Subscript o i pos')) pos.line X.env=pure false:=by rfl):
  QS X (.Assign [.Subscript o i pos'] e pos) (Ak to ti tv):=⟨Pz hu ho.of hi.of hv.of hs⟩
theorem OP(hu:X.A.units+64<cLine)(ha:QE X e ta)(hm:X.mg "len" = none)(hg:Gl X "len":=by rfl)(he:notStar e=true:=by rfl):
  QE X (.Call (.Name "len" p) [e] [] pos) (B1 ta):=⟨Px hu ha.of hm hg he⟩
end
end L3
namespace My
open PySem L2 L3
def RPl(n:Nat)(d:D):Prop:=∃ns:List Int,d=tupI ns/\(∀x∈ns,0≤x/\x<(n:Int))/\ns.Pairwise (· < ·)
def Short(d:D):Prop:=∀ds,d=.tup ds->ds.length≤1000
def OO:dJ:=fun ds G Q=>∃(cs:List aG) (d:D),ds=[fW cs,d]/\zF G d/\Short d/\∀b,(b=true↔RPl cs.length d)->Q (.bl b) G
abbrev ON:=Jt
theorem Jq{n:Nat}:∀{ds:List D},ds.all (pE n)=true->∃ns:List Int,ds=ns.map D.int/\∀x∈ns,0≤x/\x<(n:Int)
 |[],_=>⟨[],rfl,nofun⟩
 |d::ds,h=>by
  rw[nV,bQ] at h;obtain⟨ns,rfl,hn⟩:=Jq h.2;cases d with
  |int i=>
   have h1:(decide (0≤i)&&decide (i<(n:Int)))=true:=h.1;rw[bQ,decide_eq_true_iff,decide_eq_true_iff] at h1;refine⟨i::ns,rfl,fun x hx=>?_⟩;rcases Δ.mp hx with rfl|hx
   ·exact h1
   ·exact hn x hx
  |_=>exact absurd h.1 (by simp[pE])
theorem Jp:∀{ns:List Int},((ns.zip (ns.drop 1)).all fun p=>decide (p.1<p.2))=true->ns.Pairwise (· < ·)
 |[],_=>.nil
 |[a],_=>fK _ _
 |a::b::ns,h=>by
  have h:(decide (a<b)&&(((b::ns).zip ((b::ns).drop 1)).all fun p=>decide (p.1<p.2)))=true:=h;rw[bQ,decide_eq_true_iff] at h;have ih:=Jp h.2;refine dw.mpr ⟨fun x hx=>?_,ih⟩;rcases Δ.mp hx with rfl|hx
  ·exact h.1
  ·exact Int.lt_trans h.1 ((dw.mp ih).1 x hx)
theorem OM{ms ns:List Int}(h:tupI ms=tupI ns):ms=ns:=by
 have h1:ms.map D.int=ns.map D.int:=by
  unfold tupI at h;exact D.tup.inj h
 exact (List.map_inj_right fun a b e=>D.int.inj e).mp h1
theorem abl:∀ds G Q,OO ds G Q->ON (bf Q) (bc ["things","thing"] ds) G:=by
 rintro ds G Q ⟨cs,d,rfl,hk,hs,q⟩;have not_tup:(∀ds,d≠.tup ds)->Jt (bf Q) (bc ["things","thing"] [fW cs,d]) G:=by
  intro hn;show match iV "tuple" G d with
   |some b=>_
   |none=>False
  rw[Ku hk hn];exact⟨fun _=>⟨fun _=>e7 (q false ⟨nofun,fun⟨ns,e,_⟩=>absurd e (hn _)⟩),nofun⟩,nofun⟩
 cases d with
 |tup ds=>
  have hl:=hs ds rfl;refine⟨nofun,fun _=>⟨dY hl,Q2 (js:=[0]) (τ:=[some (fW cs),some (.tup ds)]) (f:=pE cs.length) hl (fun x hx y K k=>⟨cs,x,rfl,hk x hx,k⟩) fun p1 G1 n1=>⟨_,_,n1.at_,xn _ _,?_⟩⟩⟩;rw[all_map];refine⟨fun h=>?_,fun h=>?_⟩
  ·have h':(!(ds.all (pE cs.length)))=true:=h;refine mH n1.sub (q false ⟨nofun,fun⟨ns,e,hb,_⟩=>?_⟩);have e':ds=ns.map D.int:=D.tup.inj e;have:ds.all (pE cs.length)=true:=by
    rw[e',List.all_map];refine eY.mpr fun x hx=>?_;show (decide (0≤x)&&decide (x<(cs.length:Nat)))=true;rw[decide_eq_true (hb x hx).1,decide_eq_true (hb x hx).2];rfl
   rw[this] at h';cases h'
  ·have h':(!(ds.all (pE cs.length)))=false:=h;obtain⟨ps,rfl,hb⟩:=Jq (by simpa using h');have hcut:jw (ps.map D.int) (some 1) none=(ps.drop 1).map D.int:=by
    rw[rX,show (some (1:Int))=some ((1:Nat):Int) from rfl,J3]
   rw[π] at hl;refine⟨_,_,rfl,rfl,?_⟩;rw[hcut];rw[Az D.int D.int];refine⟨?_,?_⟩
   ·show ((ps.zip (ps.drop 1)).map _).length≤au;rw[π,mo];exact dY (by lia)
   refine lM (fun τ=>∃x y,τ=[x,y]) (fun p:Int×Int=>D.tup [D.int p.1,D.int p.2]) (fun _=>true) (fun p=>.bl (decide (p.1<p.2))) (G:=G1) ⟨rfl,rfl⟩ (ps.zip (ps.drop 1)) [] _ ⟨none,none,rfl⟩ ?_ ?_
   ·rintro⟨a,b⟩ hm τ K1 K2 ⟨x,y,rfl⟩ h1 h2;exact⟨rfl,fun _=>h1 rfl _ ⟨_,_,rfl⟩,nofun⟩
   ·intro p2 G2 n2;rw[filter_all,cW] at n2;refine⟨_,_,n2.at_,xn _ _,?_⟩;rw[all_map];refine mH (n1.sub.trans n2.sub) (q _ ⟨fun h=>⟨ps,rfl,hb,Jp h⟩,fun⟨ns,e,_,hp⟩=>?_⟩);rw[OM e];exact O4 hp
 |_=>exact not_tup nofun
def sV(cs:List aG)(z:Int):aG:=(cs[z.toNat]?).getD (1,0)
def kz(cs:List aG)(ps:List Int):List aG:=ps.map (sV cs)
structure uo(cs:List aG)(ps:List Int):Prop where
 s:vk cs
 nd:cs.Nodup
 b:∀x∈ps,0≤x/\x<(cs.length:Int)
 r:ps.Pairwise (· < ·)
theorem vR{cs:List aG}{z:Int}(h:0≤z/\z<(cs.length:Int)):cs[z.toNat]?=some (sV cs z):=by
 have hl:z.toNat<cs.length:=by lia
 unfold sV;rw[aB hl];rfl
theorem at8{cs:List aG}{z:Int}(h:0≤z/\z<(cs.length:Int)):kF (cs.map cD) z=some (cD (sV cs z)):=by
 have e:z=((z.toNat:Nat):Int):=by lia
 have:=yY (xs:=cs.map cD) (j:=z.toNat) (v:=cD (sV cs z)) (by rw[aI,vR h];rfl);rw[←e] at this;exact this
theorem OL{cs:List aG}{ps:List Int}(hb:∀x∈ps,0≤x/\x<(cs.length:Int)):∀c∈kz cs ps,c∈cs:=fun c hc=>by
 obtain⟨z,hz,rfl⟩:=aj.mp hc;exact bE (vR (hb z hz))
theorem DS{n:Nat}:∀{ps:List Int},(∀x∈ps,0≤x/\x<(n:Int))->ps.Pairwise (· < ·)->ps.length≤n:=fun {ps} hb hr=>by
 have hnd:ps.Nodup:=hr.imp fun {a b} q e=>by lia
 have hsub:∀z∈ps,z∈(ao n).map fun i:Nat=>(i:Int):=fun z hz=>by
  have:=hb z hz;exact aj.mpr ⟨z.toNat,ax.mpr (by lia),by lia⟩
 have:=hnd.length_le_of_subset hsub;rwa [π,fB] at this
theorem uo.len{cs:List aG}{ps:List Int}(h:uo cs ps):ps.length≤cs.length:=DS h.b h.r
theorem OK(cs:List aG)(ps:List Int):(kz cs ps).length=ps.length:=π _
theorem uo.us{cs:List aG}{ps:List Int}(h:uo cs ps):vk (kz cs ps):=⟨fun c hc=>h.s.1 c (OL h.b c hc),by
 have h1:=h.len;have h2:=h.s.2;rw[OK];lia⟩
theorem uo.nodup{cs:List aG}{ps:List Int}(h:uo cs ps):(kz cs ps).Nodup:=by
 unfold kz;show kX _ _;rw[cm];refine gQ (fun {a b} ha hb hab e=>?_) h.r;have h1:=h.b a ha;have h2:=h.b b hb;have e1:=vR h1;have e2:=vR h2;rw[e] at e1;have:=(oG (by lia) h.nd).mp (e1.trans e2.symm);lia
def FT(us:List aG)(N:Nat):Prop:=(∀x:Nat,x<N->us.filter (eV (x:Int))≠[])/\∀c∈us,∃x:Nat,x<N/\us.filter (eV (x:Int))=[c]
theorem OJ{G:Gp}{cs:List aG}{ps:List Int}{Q:List D->Gp->Prop}(hb:∀z∈ps,0≤z/\z<(cs.length:Int))(q:Q ((kz cs ps).map cD) G):
  g6 (fun _=>True) (hName 0) eI (bx fG (υ 1) (υ 0)) Q (ps.map D.int) [] [none,some (fW cs)] G:=by
 refine lM (guard:=fun _=>True) (fun τ=>∃x,τ=[x,some (fW cs)]) D.int (fun _=>true) (fun z=>cD (sV cs z)) (G:=G) trivial ps [] _ ⟨none,rfl⟩ ?_ ?_
 ·rintro z hz τ K1 K2 ⟨x,rfl⟩ g1 g2;exact⟨fun _=>⟨_,at8 (hb z hz),g1 rfl _ ⟨_,rfl⟩⟩,nofun⟩
 ·rw[filter_all,cW,show (ps.map fun z=>cD (sV cs z))=(kz cs ps).map cD by unfold kz;rw[cZ];rfl];exact q
def yK:dJ:=fun ds G Q=>∃(p:ζ) (cs:List aG) (n:Int),ds=[.obj p,.int n]/\G p=some (.lst (cs.map cD))/\(∀c∈cs,0<c.1)/\cs.length≤1000/\∀q G',eD G q (.lst ((cs.filter (eV n)).map cD)) G'->Q (.obj q) G'
def Jo:az:=cz (fX ["clock"] [1] (iW (υ 0)) (hName 0) (b9 (bx (fQ false) (bx oJ (bx yb (υ 1) (bx fG (υ 0) (eC (.int 1)))) (bx fG (υ 0) (eC (.int 0)))) (eC (.int 0)))) (υ 0))
theorem OI:∀ds G Q,yK ds G Q->Jo (bf Q) (bc ["clocks","number"] ds) G:=by
 rintro ds G Q ⟨p,cs,n,rfl,hp,hc,hz,q⟩;refine⟨_,hp,by show (cs.map cD).length≤au;rw[π];exact dY hz,?_⟩;refine lM (fun τ=>∃x,τ=[x,some (.int n)]) cD (eV n) cD (G:=G) hp cs [] _ ⟨none,rfl⟩ ?_ ?_
 ·rintro⟨s,r⟩ hm τ K1 K2 ⟨x,rfl⟩ h1 h2;exact⟨_,rfl,_,rfl,hc _ hm,_,_,rfl,rfl,ba _,fun e=>h1 e _ ⟨_,rfl⟩,fun e=>h2 e _ ⟨_,rfl⟩⟩
 ·exact fun p G' hp=>e7 (q p G' hp)
end My
namespace L3
open PySem PySem.Spec PyProof.Rows L2
section
variable {X:Cx} {K:θ}
abbrev yc:R3:=yz (fun _ _=>True) fun i j=>.int (dj i j)
theorem DR:fR K yc (rI (fun _ _=>True) fun i j=>.int (dj i j)):=A5 fun _ _ _=>lL
theorem Et:fF X (binaryOp .BitAnd) (rI (fun _ _=>True) fun i j=>.int (dj i j)):=CZ fun _ _ _ _ _ _ _ _ q=>and_int q
end
end L3
namespace My
open PySem L2 L3
theorem Es:∀{x y:List Int},gp.lx x y=false->gp.lx y x=false->x=y
 |[],[],_,_=>rfl
 |[],_::_,h,_=>by cases h
 |_::_,[],_,h=>by cases h
 |a::as,b::bs,h,h'=>by
  rw[gp.lx] at h h';by_cases e:a=b
  ·rw[if_pos e] at h;rw[if_pos e.symm] at h';rw[e,Es h h']
  ·rw[if_neg e] at h;rw[if_neg fun z=>e z.symm] at h';have h1:=of_decide_eq_false h;have h2:=of_decide_eq_false h';lia
theorem Jn:∀{as bs:List (List Int)},as.Perm bs->kn as->kn bs->as=bs
 |[],bs,p,_,_=>(List.nil_perm.mp p).symm
 |a::as,[],p,_,_=>absurd p.length_eq (by simp)
 |a::as,b::bs,p,ha,hb=>by
  have ha':=dw.mp ha;have hb':=dw.mp hb;have hab:a=b:=by
   have m1:a∈b::bs:=p.mem_iff.mp χ;have m2:b∈a::as:=p.mem_iff.mpr χ;rcases Δ.mp m1 with h|h
   ·exact h
   ·rcases Δ.mp m2 with h2|h2
    ·exact h2.symm
    ·exact Es (hb'.1 _ h) (ha'.1 _ h2)
  subst hab;rw[Jn (List.Perm.cons_inv p) ha'.2 hb'.2]
theorem Jm{as bs:List Int}(ha:as.Pairwise (· < ·))(hb:bs.Pairwise (· < ·))(h:∀z,z∈as↔z∈bs):as=bs:=by
 induction as generalizing bs with
 |nil=>cases bs with
  |nil=>rfl
  |cons b bs=>exact absurd ((h b).mpr χ) (by simp)
 |cons a as ih=>cases bs with
  |nil=>exact absurd ((h a).mp χ) (by simp)
  |cons b bs=>
   have ha':=dw.mp ha;have hb':=dw.mp hb;have e:a=b:=by
    rcases Δ.mp ((h a).mp χ) with e|e
    ·exact e
    ·rcases Δ.mp ((h b).mpr χ) with e2|e2
     ·exact e2.symm
     ·have h1:=hb'.1 a e;have h2:=ha'.1 b e2;lia
   subst e;rw[ih ha'.2 hb'.2 fun z=>?_];constructor
   ·intro hz;rcases Δ.mp ((h z).mp (ψ _ hz)) with e|e
    ·have:=ha'.1 z hz;lia
    ·exact e
   ·intro hz;rcases Δ.mp ((h z).mpr (ψ _ hz)) with e|e
    ·have:=hb'.1 z hz;lia
    ·exact e
theorem OH(n:Nat):∀p:Nat->Bool,∃m,m<2^n/\∀i,i<n->m.testBit i=p i:=by
 induction n with
 |zero=>exact fun p=>⟨0,by decide,fun i hi=>absurd hi (by lia)⟩
 |succ n ih=>
  intro p;obtain⟨m,h1,h2⟩:=ih fun i=>p (i+1);have hb:(p 0).toNat≤1:=by cases p 0<;>decide
  refine⟨m*2+(p 0).toNat,by rw[eR];lia,fun i hi=>?_⟩;cases i with
  |zero=>
   rw[Nat.testBit_zero,show (m*2+(p 0).toNat)%2=(p 0).toNat by lia];cases p 0<;>rfl
  |succ i=>
   rw[Nat.testBit_succ,show (m*2+(p 0).toNat) / 2=m by lia];exact h2 i (by lia)
end My
namespace My
open PySem L2 L3
structure rG(us:List aG)(ys:List Nat)(ks:List (List Int)):Prop where
 vf:∀x∈ys,us.filter (eV (x:Int))≠[]
 nd:ks.Nodup
 mem:∀k,k∈ks↔∃c∈us,k=il c/\∃x∈ys,us.filter (eV (x:Int))=[c]
theorem rG.sub{us:List aG}{ys:List Nat}{ks:List (List Int)}(h:rG us ys ks):∀k∈ks,k∈us.map il:=fun k hk=>by
 obtain⟨c,hc,rfl,_⟩:=(h.mem k).mp hk;exact tH hc
theorem rG.len{us:List aG}{ys:List Nat}{ks:List (List Int)}(h:rG us ys ks):ks.length≤us.length:=by
 have:=h.nd.length_le_of_subset h.sub;rwa [π] at this
theorem OG{ks:List (List Int)}{k:List Int}(h:ks.Nodup):(qP ks k).Nodup:=by
 unfold qP;split
 ·exact h
 ·rename_i hk;rw[List.nodup_append];refine⟨h,by simp,fun a ha b hb e=>?_⟩;rw[aV.mp hb] at e;exact hk (e▸ha)
theorem OF{ks:List (List Int)}{k j:List Int}:j∈qP ks k↔j∈ks∨j=k:=by
 unfold qP;split
 ·rename_i hk;exact⟨.inl,fun h=>h.elim id fun e=>e▸hk⟩
 ·rw[bL,aV]
theorem rG.one{us:List aG}{ys:List Nat}{ks:List (List Int)}(h:rG us ys ks){x:Nat}{c:aG}(e:us.filter (eV (x:Int))=[c]):rG us (ys++[x]) (qP ks (il c)):=by
 have hc:c∈us:=(bK.mp (by rw[e];exact χ:c∈us.filter (eV (x:Int)))).1;refine⟨fun y hy=>?_,OG h.nd,fun k=>?_⟩
 ·rcases bL.mp hy with hy|hy
  ·exact h.vf y hy
  ·rw[aV.mp hy,e];nofun
 ·rw[OF,h.mem];constructor
  ·rintro (⟨z,hz,ek,y,hy,ey⟩|ek)
   ·exact⟨z,hz,ek,y,cY _ hy,ey⟩
   ·exact⟨c,hc,ek,x,aY _ χ,e⟩
  ·rintro⟨z,hz,ek,y,hy,ey⟩;rcases bL.mp hy with hy|hy
   ·exact .inl ⟨z,hz,ek,y,hy,ey⟩
   ·rw[aV.mp hy,e] at ey;cases ey;exact .inr ek
theorem rG.more{us:List aG}{ys:List Nat}{ks:List (List Int)}(h:rG us ys ks){x:Nat}(e:(us.filter (eV (x:Int))).length≠1)(e0:us.filter (eV (x:Int))≠[]):rG us (ys++[x]) ks:=by
 refine⟨fun y hy=>?_,h.nd,fun k=>?_⟩
 ·rcases bL.mp hy with hy|hy
  ·exact h.vf y hy
  ·rw[aV.mp hy];exact e0
 ·rw[h.mem];constructor
  ·rintro⟨z,hz,ek,y,hy,ey⟩;exact⟨z,hz,ek,y,cY _ hy,ey⟩
  ·rintro⟨z,hz,ek,y,hy,ey⟩;rcases bL.mp hy with hy|hy
   ·exact⟨z,hz,ek,y,hy,ey⟩
   ·rw[aV.mp hy] at ey;rw[ey] at e;exact absurd rfl e
theorem rG.fin{us:List aG}{N:Nat}{ks:List (List Int)}(nd:us.Nodup)(h:rG us (ao N) ks):ks.length=us.length↔FT us N:=by
 have ndt:(us.map il).Nodup:=by
  show kX _ _;rw[cm];exact u6 (fun {a b} hab e=>hab (zb e)) nd
 constructor
 ·intro e;refine⟨fun x hx=>h.vf x (ax.mpr hx),fun c hc=>?_⟩;have hk:il c∈ks:=by
   refine aK fun hn=>?_;have:=(dm.mpr ⟨hn,h.nd⟩).length_le_of_subset (l₂:=us.map il) fun k hk=>by
    rcases Δ.mp hk with rfl|hk
    ·exact tH hc
    ·exact h.sub k hk
   rw[π,aL] at this;lia
  obtain⟨z,hz,ez,x,hx,ex⟩:=(h.mem _).mp hk;rw[←zb ez] at ex;exact⟨x,ax.mp hx,ex⟩
 ·rintro⟨_,h2⟩;have:=ndt.length_le_of_subset (l₂:=ks) fun k hk=>by
   obtain⟨c,hc,rfl⟩:=aj.mp hk;obtain⟨x,hx,e⟩:=h2 c hc;exact (h.mem _).mpr ⟨c,hc,rfl,x,ax.mpr hx,e⟩
  rw[π] at this;have:=h.len;lia
def yJ:dJ:=fun ds G Q=>∃(cs:List aG) (ps:List Int),ds=[fW cs,tupI ps]/\uo cs ps/\dy cs≤10000/\∀b G',Sub G G'->(b=true↔FT (kz cs ps) (dy cs))->Q (.bl b) G'
def OE:az:=kA (b9 (bx (fQ false) (eH oj (ο (υ 5) (ae))) (eC (.int 1)))) (Ak (υ 3) (bx fG (υ 5) (eC (.int 0))) (eC (.bl true))) (fJ)
def OD:az:=bH (kA (b9 (bx (fQ false) (υ 5) (jv (ae)))) (cz (eC (.bl false))) (fJ)) OE
def OC:az:=bH (ck (bA yK (ο (υ 2) (ο (υ 4) (ae)))) (hName 5)) OD
def OB:az:=cz (bx (fQ false) (B1 (υ 3)) (eH oj (ο (υ 2) (ae))))
def OA:az:=bH (hX (iX (ο (bA rW (ο (υ 0) (ae))) (ae))) (hName 4) (OC)) OB
def Oz:az:=bH (ck (B2) (hName 3)) OA
def Jl:az:=bH (ck (fX ["place"] [0] (iW (υ 1)) (hName 0) (eI) (bx fG (υ 1) (υ 0))) (hName 2)) Oz
theorem Oy:∀ds G Q,yJ ds G Q->Jl (bf Q) (bc ["clocks","places","some","alone","number","now"] ds) G:=by
 rintro ds G Q ⟨cs,ps,rfl,P,hn,q⟩;have hl:=P.len;have Mz:=P.s.2;have hu:=P.us;refine⟨by rw[π];exact dY (by lia),OJ P.b fun p2 G2 n2=>?_⟩;intro p3 G3 n3;refine⟨cs,rfl,P.s.1,Mz,⟨by lia,by lia⟩,?_⟩;show iY _ _ _ _ (iF 0 ((dy cs:Nat):Int).toNat) _ _;rw[bC,vz];refine nv (fun ds τ G'=>∃(xs ys:List Nat) (ks:List (List Int)) (x4 x5:Option D),ds=xs.map nD/\ys++xs=ao (dy cs)/\rG (kz cs ps) ys ks/\eD G2 p3 (.gen (uh ks)) G'/\τ=[some (fW cs),some (tupI ps),some (.obj p2),some (.obj p3),x4,x5]) (fun _ _ _ _=>trivial) ?_ ?_ _ _ _ ⟨_,[],[],_,_,rfl,rfl,⟨nofun,mW,fun k=>⟨nofun,fun⟨c,_,_,x,hx,_⟩=>nomatch hx⟩⟩,n3,rfl⟩
 ·rintro d ds τ G4 N ⟨xs,ys,ks,x4,x5,e,hxy,hA,n4,rfl⟩ hN;cases xs with
  |nil=>cases e
  |cons x xs=>
   cases e;have hkl:=hA.len;have hul:(kz cs ps).length≤12:=hu.2;have hxy':(ys++[x])++xs=ao (dy cs):=by rw[fC];exact hxy
   refine⟨p2,kz cs ps,(x:Int),rfl,n4.sub _ _ n2.at_,fun c hc=>(hu.1 c hc).1.1,by lia,fun p5 G5 n5=>?_⟩;intro p6 G6 n6;have e5:=n6.sub _ _ n5.at_;have m6:eD G2 p3 (.gen (uh ks)) G6:=⟨n4.aC,n4.sub.trans (n5.sub.trans n6.sub),n6.sub _ _ (n5.sub _ _ n4.at_)⟩;refine⟨_,_,qM e5 (D7 _),qM n6.at_ rfl,J4 _,fun h=>?_,fun h=>?_⟩
   ·have h':(Dat.D.lst (((kz cs ps).filter (eV (x:Int))).map cX)).fm (.lst [])=true:=h;rw[D6,pZ,List.isEmpty_iff] at h';refine e7 (q false G6 (n2.sub.trans m6.sub) ⟨nofun,fun hL=>absurd h' (hL.1 x ?_)⟩);have:x∈ao (dy cs):=by rw[←hxy];exact aY _ χ
    exact ax.mp this
   ·have h':(Dat.D.lst (((kz cs ps).filter (eV (x:Int))).map cX)).fm (.lst [])=false:=h;rw[D6,pZ,List.isEmpty_eq_false_iff] at h';refine⟨_,e5,_,_,rfl,rfl,ba _,fun g=>?_,fun g=>?_⟩
    ·have g':(((((kz cs ps).filter (eV (x:Int))).map cD).length:Nat):Int)==1:=g;rw[π] at g';have g1:((kz cs ps).filter (eV (x:Int))).length=1:=by
      have:=eq_of_beq g';lia
     obtain⟨c,ec⟩:=kS.mp g1;refine⟨_,cD c,e5,by rw[ec];rfl,ks,il c,m6.at_,rfl,by lia,?_⟩;exact hN _ _ ⟨xs,ys++[x],_,_,_,rfl,hxy',hA.one ec,wrote m6,rfl⟩
    ·have g':((((((kz cs ps).filter (eV (x:Int))).map cD).length:Nat):Int)==1)=false:=g;rw[π,beq_eq_false_iff_ne] at g';exact hN _ _ ⟨xs,ys++[x],_,_,_,rfl,hxy',hA.more (by lia) h',m6,rfl⟩
 ·rintro τ G4 ⟨xs,ys,ks,x4,x5,e,hxy,hA,n4,rfl⟩;have:xs=[]:=by
   cases xs with
   |nil=>rfl
   |cons z zs=>cases e
  subst this;rw[bh] at hxy;subst hxy;have hkl:=hA.len;have hul:(kz cs ps).length≤12:=hu.2;refine⟨ks,n4.at_,by lia,_,n4.sub _ _ n2.at_,_,_,rfl,rfl,ba _,?_⟩;refine e7 (q _ G4 (n2.sub.trans n4.sub) ?_);show (((ks.length:Nat):Int)==((((kz cs ps).map cD).length:Nat):Int))=true↔_;rw[π,beq_iff_eq,←hA.fin P.nodup];lia
end My
namespace My
open PySem L2 L3
theorem near{t:Int}{a b:Int}(h:t∣a-b)(h1:a-b<t)(h2:b-a<t):a=b:=by
 have:(a-b).natAbs=0:=Nat.eq_zero_of_dvd_of_lt (Int.natAbs_dvd_natAbs.mpr h) (by lia);lia
end My
namespace My
open PySem L2 L3
def zE(cs:List aG):Prop:=∀n:Int,(cs.filter (eV n)).length=1
theorem Ox{c:aG}{os:List aG}(hc:0<c.1)(h:zE os)(n:Int):((os.map (yr c)).filter (eV n)).length=if eV n c=true then 1 else 0:=by
 by_cases q:eV n c=true
 ·rw[if_pos q];obtain⟨m,hm⟩:=mG.mp q;rw[List.filter_map,π,←h m];refine congrArg ij (List.filter_congr fun y _=>?_);show eV n (yr c y)=eV m y;rw[show n=c.2+c.1*m by lia];exact PY hc m
 ·rw[if_neg q,gX,List.filter_eq_nil_iff];intro z hz e;obtain⟨y,_,rfl⟩:=aj.mp hz;refine q (mG.mpr ?_);have d:=mG.mp e;have d1:c.1∣n-(c.2+c.1*y.2):=Int.dvd_trans (oH c.1 y.1) d;have:=Int.dvd_add d1 (oH c.1 y.2);rwa [show n-(c.2+c.1*y.2)+c.1*y.2=n-c.2 by lia] at this
theorem Ow{cs:List aG}{i:Nat}{c:aG}(hi:cs[i]?=some c):cs=cs.take i++c::cs.drop (i+1):=by
 obtain⟨hl,e⟩:=ak.mp hi;rw[←e,rf,lF]
theorem Ov{cs os:List aG}{i:Nat}{c:aG}(hc:0<c.1)(hi:cs[i]?=some c)(ho:zE os)(n:Int):((An cs i++os.map (yr c)).filter (eV n)).length=(cs.filter (eV n)).length:=by
 have e:(cs.filter (eV n)).length=((cs.take i).filter (eV n)).length+((if eV n c=true then 1 else 0)+((cs.drop (i+1)).filter (eV n)).length):=by
  conv=>lhs;rw[Ow hi]
  rw[fe,aq];by_cases q:eV n c=true
  ·rw[kJ q,aL,if_pos q];lia
  ·rw[qk q,if_neg q];lia
 rw[e,fe,aq,Ox hc ho];unfold An;rw[fe,aq];lia
end My
namespace My
open PySem L2 L3
def Df(cs:List aG):Prop:=wb cs/\zE cs/\∀c∈cs,c.1≤((2^(cs.length-1):Nat):Int)
theorem Hh:Df [(1,0)]:=by
 refine⟨fun c hc=>?_,fun n=>?_,fun c hc=>?_⟩
 ·rw[aV.mp hc];exact⟨⟨by decide,by decide,by decide⟩,by decide,by decide⟩
 ·have:eV n (1,0)=true:=mG.mpr (Int.one_dvd _);rw[kJ this];rfl
 ·rw[aV.mp hc];decide
theorem Ou{k:Nat}(hk:0<k):zE ((ao k).map fun i:Nat=>((k:Int),(i:Int))):=fun n=>by
 rw[List.filter_map,π];have h0:0≤n%(k:Int):=gr _ (by lia);have h1:n%(k:Int)<k:=fg _ (by lia);have hp:((ao k).filter (eV n ∘ fun i:Nat=>((k:Int),(i:Int)))).Perm [(n%(k:Int)).toNat]:=(ji (lq.filter _) (by simp)).mpr fun i=>by
  rw[bK,ax,aV];show (i<k/\eV n ((k:Int),(i:Int))=true)↔_;rw[mG];show (i<k/\(k:Int)∣n-(i:Int))↔_;have e:=Int.mul_ediv_add_emod n (k:Int);constructor
  ·rintro⟨h2,h3⟩;have d:(k:Int)∣n%(k:Int)-(i:Int):=by
    have:=Int.dvd_sub h3 (oH (k:Int) (n / (k:Int)));rwa [show n-(i:Int)-(k:Int)*(n / (k:Int))=n%(k:Int)-(i:Int) by lia] at this
   have:=near d (by lia) (by lia);lia
  ·intro h2;refine⟨by lia,⟨n / (k:Int),?_⟩⟩;lia
 rw[hp.length_eq];rfl
theorem Hi{cs:List aG}{j k:Nat}{s r:Int}(hv:Valid (s,r))(ok:Df cs)(hj:cs[((j:Nat):Int).toNat]?=some (s,r))(hk:(k:Int)=2∨(k:Int)=3)(h6:s*(k:Int)<25):
  Df (cs.take j++((ao ((k:Nat):Int).toNat).map fun i:Nat=>(s*(k:Int),r+s*(0+(i:Int))))++cs.drop (j+1)):=by
 rw[bC] at hj ⊢;have hs:0<s:=hv.1;have hjl:j<cs.length:=(ak.mp hj).1;have hm:=bE hj;have em:((ao k).map fun i:Nat=>(s*(k:Int),r+s*(0+(i:Int))))=((ao k).map fun i:Nat=>((k:Int),(i:Int))).map (yr (s,r)):=by
  rw[cZ];refine eO fun i _=>?_;show (s*(k:Int),r+s*(0+(i:Int)))=(s*(k:Int),r+s*(i:Int));rw[Int.zero_add]
 have hlen:(cs.take j++((ao k).map fun i:Nat=>(s*(k:Int),r+s*(0+(i:Int))))++cs.drop (j+1)).length=cs.length-1+k:=by
  rw[aq,aq,bW,fV,π,fB];lia
 have cases3:∀c∈cs.take j++((ao k).map fun i:Nat=>(s*(k:Int),r+s*(0+(i:Int))))++cs.drop (j+1),c∈cs∨∃i:Nat,i<k/\c=(s*(k:Int),r+s*(0+(i:Int))):=fun c hc=>by
  rcases bL.mp hc with hc|hc
  ·rcases bL.mp hc with hc|hc
   ·exact .inl (eF hc)
   ·obtain⟨i,hi,rfl⟩:=aj.mp hc;exact .inr ⟨i,ax.mp hi,rfl⟩
  ·exact .inl (List.mem_of_mem_drop hc)
 refine⟨fun c hc=>?_,fun n=>?_,fun c hc=>?_⟩
 ·rcases cases3 c hc with h|⟨i,hi,rfl⟩
  ·exact ok.1 c h
  ·exact⟨QM hv (by lia) (by lia),by show s*(k:Int)≤24;lia,Hn hs (ok.1 _ hm).2.2 hk h6⟩
 ·have e:=Ov hs hj (Ou (k:=k) (by lia)) n;rw[ok.2.1 n] at e;unfold An at e;rw[em,fe,fe,aq,aq];rw[fe,fe,aq,aq] at e;lia
 ·rw[hlen];have hp:∀a b:Nat,a≤b->((2^a:Nat):Int)≤((2^b:Nat):Int):=fun a b h=>Int.ofNat_le.mpr (cE (by decide) h);rcases cases3 c hc with h|⟨i,hi,rfl⟩
  ·exact qb (ok.2.2 c h) (hp _ _ (by lia))
  ·have h1:s≤((2^(cs.length-1):Nat):Int):=ok.2.2 _ hm;show s*(k:Int)≤_;have h2:s*(k:Int)≤((2^(cs.length-1):Nat):Int)*(k:Int):=Int.mul_le_mul_of_nonneg_right h1 (by lia);have h3:(k:Int)≤((2^(k-1):Nat):Int):=by
    rcases hk with h|h
    ·rw[show k=2 by lia];decide
    ·rw[show k=3 by lia];decide
   have h4:((2^(cs.length-1):Nat):Int)*(k:Int)≤((2^(cs.length-1):Nat):Int)*((2^(k-1):Nat):Int):=mC h3 (kh _);rw[←mv (2^(cs.length-1)) (2^(k-1)),←Nat.pow_add] at h4;exact qb h2 (qb h4 (hp _ _ (by lia)))
def xk:dJ:=fun ds G Q=>∃(p:ζ) (t:Int),ds=[.obj p,.int t]/\G p=some .ny/\(0≤t/\t≤1000)/\∀q cs G',Df cs->1≤cs.length->cs.length≤12->eD G q (.lst (cs.map cD)) G'->Q (.obj q) G'
def Ot:az:=kA (zB (b9 (bx rV (bx gU (eH oj (ο (υ 2) (ae))) (υ 5)) (eC (.int 13)))) (b9 (bx rV (bx lJ (υ 6) (υ 5)) (eC (.int 25))))) (ck (bx gU (bx gU (sT (υ 2) (lR) (kl (υ 4))) (fX ["part"] [6,5,7] (iX (ο (υ 5) (ae))) (hName 0) (eI) (fH (ο (bx lJ (υ 1) (υ 2)) (ο (bx gU (υ 3) (bx lJ (υ 1) (υ 0))) (ae)))))) (sT (υ 2) (kl (bx gU (υ 4) (eC (.int 1)))) (lR))) (hName 2)) (fJ)
def Oq:az:=bH (ck (bx fG (υ 2) (υ 4)) (qQ 2 (jH (hName 6) (jH (hName 7) (uf))))) Ot
def Oo:az:=bH (ck (rz (ο (eC (.int 2)) (ο (eC (.int 2)) (ο (eC (.int 3)) (ae)))) (bA kO (ο (υ 0) (ο (eC (.int 3)) (ae))))) (hName 5)) Oq
def Om:az:=bH (ck (bA kO (ο (υ 0) (ο (eH oj (ο (υ 2) (ae))) (ae)))) (hName 4)) Oo
def OZ:az:=cz (υ 2)
def OY:az:=bH (hX (iX (ο (υ 1) (ae))) (hName 3) (Om)) OZ
def Jk:az:=bH (ck (jv (ο (fH (ο (eC (.int 1)) (ο (eC (.int 0)) (ae)))) (ae))) (hName 2)) OY
theorem OX:∀ds G Q,xk ds G Q->Jk (bf Q) (bc ["pen","times","found","turn","spot","k","step","rest"] ds) G:=by
 rintro ds G Q ⟨p,t,rfl,hp,ht,q⟩;intro q0 G0 hq0;refine⟨⟨by lia,by lia⟩,?_⟩;refine nv (fun _ τ G'=>∃q cs x3 x4 x5 x6 x7,τ=[some (.obj p),some (.int t),some (.obj q),x3,x4,x5,x6,x7]/\eD G q (.lst (cs.map cD)) G'/\Df cs/\1≤cs.length/\cs.length≤12) (fun _ _ _ _=>trivial) ?_ ?_ _ _ _ ?_
 ·rintro d ds τ G1 N ⟨q1,cs,x3,x4,x5,x6,x7,rfl,n1,ok,l1,l2⟩ hN;have e1:=n1.at_;have hp1:=n1.sub p _ hp;refine⟨_,e1,p,_,rfl,hp1,⟨?_,?_⟩,fun spot h1 h2=>?_⟩
  ·rw[π];lia
  ·exact jR (by rw[π];lia) (by rw[π];lia)
  rw[π] at h2;refine⟨p,3,rfl,hp1,⟨by decide,jR (by decide) (by decide)⟩,fun r h3 h4=>?_⟩;obtain⟨k,hk,ek⟩:=AB (ns:=[2,2,3]) h3 h4;refine⟨.int k,ek,?_⟩;obtain⟨c,ec1,hc,ec⟩:=D4 cD h1 h2;obtain⟨s,r'⟩:=c;refine⟨_,cD (s,r'),e1,ec,rfl,?_⟩;have hv:=(ok.1 _ hc).1;have hs24:=(ok.1 _ hc).2.1;have hs720:=(ok.1 _ hc).2.2;have hk':k=2∨k=3:=by simp at hk;lia
  have again:N [some (.obj p),some (.int t),some (.obj q1),some d,some (.int spot),some (.int k),some (.int s),some (.int r')] G1:=
   hN _ _ ⟨q1,cs,_,_,_,_,_,rfl,n1,ok,l1,l2⟩
  refine⟨_,e1,fun h5=>⟨⟨jR ?_ ?_,jR ?_ ?_⟩,fun h6=>?_,fun h6=>again⟩,fun h5=>⟨nofun,fun _=>again⟩⟩
  ·have:=hv.1;simp only at this;lia
  ·simp only at hs24;lia
  ·lia
  ·lia
  have h5':((cs.map cD).length:Int)+k<13:=of_decide_eq_true h5;have h6':s*k<25:=of_decide_eq_true h6;rw[π] at h5';refine⟨_,e1,fun p1 G2 a1=>⟨⟨by lia,by lia⟩,?_,?_⟩⟩
  ·show (iF 0 k.toNat).length≤au;rw[vN];exact dY (by lia)
  refine lM (fun τ=>∃x,τ=[x,some (.int s),some (.int k),some (.int r')]) (fun i:Nat=>D.int (0+(i:Int))) (fun _=>true) (fun i:Nat=>cD (s*k,r'+s*(0+(i:Int)))) trivial (ao k.toNat) [] _ ⟨none,rfl⟩ ?_ ?_
  ·rintro i hi τ K1 K2 ⟨x,rfl⟩ g1 g2;have hi':(i:Int)<k:=by have:=ax.mp hi;lia
   have b1:kG s:=jR (by have:=hv.1;simp only at this;lia) (by simp only at hs24;lia);refine⟨fun _=>⟨⟨b1,jR (by lia) (by lia)⟩,⟨b1,jR (by lia) (by lia)⟩,?_⟩,nofun⟩;exact g1 rfl _ ⟨_,rfl⟩
  ·intro p2 G3 a2;obtain⟨j,rfl⟩:∃j:Nat,spot=(j:Int):=⟨spot.toNat,by lia⟩;have hj:j<cs.length:=by lia
   have el:(jw (cs.map cD) none (some (j:Int))++([]++((ao k.toNat).filter fun _=>true).map fun i:Nat=>cD (s*k,r'+s*(0+(i:Int))))++jw (cs.map cD) (some ((j:Int)+1)) none) =
     (cs.take j++((ao k.toNat).map fun i:Nat=>(s*k,r'+s*(0+(i:Int))))++cs.drop (j+1)).map cD:=by
    rw[rX,rX,xp,show ((j:Int)+1)=((j+1:Nat):Int) by lia,J3,tK.mpr (fun _ _=>rfl)];simp[cg,cZ]
   have hlen:(cs.take j++((ao k.toNat).map fun i:Nat=>(s*k,r'+s*(0+(i:Int))))++cs.drop (j+1)).length=cs.length-1+k.toNat:=by
    rw[aq,aq,bW,fV,π,fB];lia
   have hle:(jw (cs.map cD) none (some (j:Int))++([]++((ao k.toNat).filter fun _=>true).map fun i:Nat=>cD (s*k,r'+s*(0+(i:Int))))++jw (cs.map cD) (some ((j:Int)+1)) none).length≤12:=by
    rw[el,π,hlen];lia
   refine⟨_,_,a2.sub _ _ a1.at_,a2.at_,?_,fun p3 G4 a3=>?_⟩
   ·rw[aq,aq] at hle;exact dY (by lia)
   refine⟨_,a3.sub _ _ (a2.sub _ _ (a1.sub _ _ e1)),fun p4 G5 a4=>?_⟩;refine⟨_,_,a4.sub _ _ a3.at_,a4.at_,?_,fun p5 G6 a5=>?_⟩
   ·rw[←aq];exact dY (by lia)
   ·rw[el] at a5;have s4:=((n1.sub.trans a1.sub).trans a2.sub).trans (a3.sub.trans a4.sub);refine hN _ _ ⟨p5,_,_,_,_,_,_,rfl,⟨s4.of_none a5.aC,s4.trans a5.sub,a5.at_⟩,?_,by lia,by lia⟩;obtain⟨kk,rfl⟩:∃kk:Nat,k=(kk:Int):=⟨k.toNat,by lia⟩;exact Hi hv ok ec1 hk' h6'
 ·rintro τ G1 ⟨q1,cs,x3,x4,x5,x6,x7,rfl,n1,ok,l1,l2⟩;exact e7 (q q1 cs _ ok l1 l2 n1)
 ·exact⟨q0,[(1,0)],_,_,_,_,_,rfl,hq0,Hh,by decide,by decide⟩
def yI:dJ:=fun ds G Q=>∃p:ζ,ds=[.obj p]/\G p=some .ny/\∀cs,wb cs->cs.length≤12->qU cs->Q (fW cs) G
def OW:az:=kA (zB (b9 (bx (fQ false) (υ 1) (eC (.int 1)))) (b9 (bx (fQ true) (υ 2) (jv (ae))))) (rT (eM LK (υ 2) (ο (bA kO (ο (υ 0) (ο (eH oj (ο (υ 2) (ae))) (ae)))) (ae)))) (fJ)
def OV:az:=rT (eM Bm (υ 2) (ο (fH (ο (υ 5) (ο (bA kO (ο (υ 0) (ο (υ 5) (ae)))) (ae)))) (ae)))
def OU:az:=bH (ck (bx fG (υ 3) (bA kO (ο (υ 0) (ο (eC (.int 10)) (ae))))) (hName 5)) OV
def OT:az:=cz (eH t8 (ο (sT (sC (υ 2)) (lR) (kl (eC (.int 12)))) (ae)))
def OS:az:=bH (hX (iX (ο (rz (ο (eC (.int 0)) (ο (eC (.int 1)) (ο (eC (.int 2)) (ο (eC (.int 3)) (ο (eC (.int 5)) (ο (eC (.int 9)) (ae))))))) (υ 1)) (ae))) (hName 4) (OU)) OT
def Jj:az:=bH (ck (jv (ο (eC (.int 2)) (ο (eC (.int 3)) (ο (eC (.int 4)) (ο (eC (.int 5)) (ο (eC (.int 6)) (ο (eC (.int 8)) (ο (eC (.int 9)) (ο (eC (.int 12)) (ο (eC (.int 18)) (ο (eC (.int 24)) (ae)))))))))))) (hName 3)) OS
def OR:az:=bH (kA (b9 (bx rV (υ 1) (eC (.int 4)))) (bH (ck (bA xk (ο (υ 0) (ο (bA kO (ο (υ 0) (ο (eC (.int 6)) (ae)))) (ae)))) (hName 2)) OW) (fJ)) Jj
def OQ:az:=bH (ck (jv (ae)) (hName 2)) OR
def Ji:az:=bH (ck (bA kO (ο (υ 0) (ο (eC (.int 6)) (ae)))) (hName 1)) OQ
theorem Ax{G:Gp}{Q:V3}{p:ζ}(hp:G p=some .ny)(q:∀cs,wb cs->cs.length≤12->qU cs->Q (fW cs) G){G1:Gp}{q1:ζ}{cs:List aG}{way:Int}{x3 x4 x5:Option D}(hw:0≤way/\way<6)
  (n1:eD G q1 (.lst (cs.map cD)) G1) (ok:wb cs) (hl:cs.length≤12):Jj (bf Q) [some (.obj p),some (.int way),some (.obj q1),x3,x4,x5] G1:=by
 intro st G0 hst;obtain⟨n,hn,en⟩:=AB (ns:=[0,1,2,3,5,9]) hw.1 hw.2;refine⟨.int n,en,?_⟩;have hn':0≤n/\n≤9:=by simp at hn;lia
 refine⟨⟨by lia,by lia⟩,?_⟩;refine nv (fun ds τ G'=>∃cs x4 x5,τ=[some (.obj p),some (.int way),some (.obj q1),some (.obj st),x4,x5]/\eD G q1 (.lst (cs.map cD)) G'/\G' st=some (.lst (([2,3,4,5,6,8,9,12,18,24]:List Int).map D.int))/\wb cs/\cs.length+ds.length≤21) (fun _ _ _ _=>trivial) ?_ ?_ _ _ _ ?_
 ·rintro d ds τ G2 N ⟨cs,x4,x5,rfl,n2,e3,ok,hl⟩ hN;have hp2:=n2.sub p _ hp;have e2:=n2.at_;refine⟨p,10,rfl,hp2,⟨by decide,jR (by decide) (by decide)⟩,fun r h1 h2=>?_⟩;obtain⟨stp,hm,es⟩:=AB (ns:=[2,3,4,5,6,8,9,12,18,24]) h1 h2;have hs:2≤stp/\stp≤24:=by simp at hm;omega
  refine⟨_,.int stp,e3,es,⟨q1,_,rfl,e2⟩,p,stp,rfl,hp2,⟨by lia,jR (by lia) (by lia)⟩,fun r2 h3 h4=>?_⟩;refine⟨_,e2,by rw[π];exact fc (show cs.length≤21 by lia) (by decide),?_⟩;have bZ:st≠q1:=fun z=>by
   rw[z,e2] at e3;cases cs with
   |nil=>simp at e3
   |cons c cs=>simp[cD] at e3
  refine hN _ _ ⟨cs++[(stp,r2)],_,_,rfl,⟨n2.aC,Sub.tN n2.sub n2.aC,?_⟩,?_,fun c hc=>?_,?_⟩
  ·rw[jT,cg];rfl
  ·rw[mE bZ];exact e3
  ·rcases bL.mp hc with hc|hc
   ·exact ok c hc
   ·have:c=(stp,r2):=by simpa using hc
    subst this;exact⟨⟨by show 0<stp;lia,h3,h4⟩,hs.2,Hq hm⟩
  ·rw[aq,iN];simp only[aL] at hl;lia
 ·rintro τ G2 ⟨cs,x4,x5,rfl,n2,e3,ok,hl⟩;refine⟨_,DZ n2.at_,by rw[π];lia,D0,fun p1 mss G3 hp1 hmem nd hr hlen=>?_⟩;obtain⟨cs',rfl,hmem,hr,hlen⟩:=JZ hmem nd hr hlen;rw[AA] at hp1;refine⟨_,hp1.at_,fun p2 G4 hp2=>⟨_,hp2.at_,?_⟩⟩;rw[rX,show (some (12:Int))=some ((12:Nat):Int) from rfl,xp];refine mH ((n2.sub.trans hp1.sub).trans hp2.sub) (q _ (fun c hc=>ok c ((hmem c).mp (eF hc))) ?_ (hr.take 12));rw[bW];lia
 ·refine⟨cs,_,_,rfl,⟨n1.aC,n1.sub.trans hst.sub,hst.sub _ _ n1.at_⟩,hst.at_,ok,?_⟩;show cs.length+(iF 0 n.toNat).length≤21;rw[vN];lia
theorem ZP:∀ds G Q,yI ds G Q->Ji (bf Q) (bc ["pen","way","found","steps","turn","step"] ds) G:=by
 rintro ds G Q ⟨p,rfl,hp,q⟩;refine⟨p,6,rfl,hp,⟨by decide,jR (by decide) (by decide)⟩,fun way h1 h2 q0 G0 n0=>⟨fun hw=>?_,fun hw=>?_⟩⟩
 ·have hp0:=n0.sub p _ hp;refine⟨p,6,rfl,hp0,⟨by decide,jR (by decide) (by decide)⟩,fun t h3 h4=>⟨p,t,rfl,hp0,⟨by lia,by lia⟩,fun q1 cs G1 ok3 l1 l2 n1=>?_⟩⟩;have ok:=ok3.1;have m1:eD G q1 (.lst (cs.map cD)) G1:=⟨n0.sub.of_none n1.aC,n0.sub.trans n1.sub,n1.at_⟩;refine⟨_,_,rfl,rfl,ba _,fun hw1=>?_,fun hw1=>⟨nofun,fun _=>?_⟩⟩
  ·intro q2 G2 n2;have e2:=n2.sub _ _ m1.at_;have m2:eD G q1 (.lst (cs.map cD)) G2:=⟨m1.aC,m1.sub.trans n2.sub,e2⟩;refine⟨_,_,qM e2 (D7 cs),qM n2.at_ rfl,J4 cs,fun bZ=>?_,fun bZ=>?_⟩
   ·refine⟨⟨q1,_,rfl,e2⟩,_,e2,p,_,rfl,m2.sub p _ hp,⟨by rw[π];lia,jR (by rw[π];lia) (by rw[π];lia)⟩,fun r h5 h6=>?_⟩;rw[π] at h6;obtain⟨c,ec,hc,_⟩:=D4 cD h5 h6;refine⟨_,r.toNat,cD c,e2,⟨by lia,by lia⟩,?_,by rw[aI,ec];rfl,?_⟩
    ·rw[π];exact QK h5 h6
    ·refine Ax (cs:=cs.eraseIdx r.toNat) hp q ⟨h1,h2⟩ ⟨m2.aC,Sub.tN m2.sub m2.aC,?_⟩ (fun c hc=>ok c (List.mem_of_mem_eraseIdx hc)) ?_
     ·rw[jT,JY]
     ·exact aA (ET cs _) l2
   ·exact Ax hp q ⟨h1,h2⟩ m2 ok l2
  ·exact Ax hp q ⟨h1,h2⟩ m1 ok l2
 ·exact Ax (cs:=[]) hp q ⟨h1,h2⟩ n0 (fun c hc=>nomatch hc) (by decide)
end My
namespace L3
open PySem PySem.Spec PyProof.Rows L2
section
variable {prog:Ω} {w:ah} {A:aE} {R:Result->η->Prop} {I:ζ} {fp wr:List ζ} {Gs:Array ly->Array ly->Prop} {n:Nat} {P:Nat->ε->Prop} {St:Nat->η->Prop}
abbrev kE(kf:Nat->Int):Nat->Nat->Bool:=fun i j=>decide (kf i<kf j)
theorem ZO(W:rL prog w A.in1 I fp wr Gs n P St)(kw:List (ν×ε))(kf:Nat->Int)(S:ζ)(hSf:S∉fp)(s0:η)
  (ue:∀(i:Nat) (v:ε) (s':η),P i v->dU (S::wr) Gs s0 s'->∀(Q:ε->η->Prop) (E:ε->η->Prop),Q (.int (kf i) (s'.toks+1)) { s' with toks:=s'.toks+1+1 }->ξ (model prog w) A.in1 (call (.builtin "len") [v]) Q E s'):
  ∀(k j:Nat) (s:η) (vb:ε) (tb:Tok) (c:Nat),n-(j+1)=k->j+1≤n->St (j+1) s->P (argBest (kE kf) j) vb ->
  s.heap.get? S=some { cls:=.type "list",dict:=none,data:=.seq #[vb,.int (kf (argBest (kE kf) j)) tb] c,slots:=#[]}->dU (S::wr) Gs s0 s ->
  (∀v s',P (argBest (kE kf) (n-1)) v->dU (S::wr) Gs s s'->R (.ok (.ret v)) s')->fA (model prog w) A (.builtin "min.loop" ⟨[.ref I,.builtin "len",.ref S],kw⟩) R s:=by
 have hSw:S∉wr:=fun h=>hSf (W.sub _ h);have hsub:∀b∈wr,b∈S::wr:=fun b hb=>ψ _ hb;have hname:(toString "min" ++ toString ".loop":String)="min.loop":=by decide
 have notS:∀{b:ζ},b∉S::wr->S≠b:=fun hb h=>hb (by rw[h];exact χ);intro k
 induction k with
 |zero=>
  intro j s vb tb c hk hj hst hPb hS hM hR;have hin:j+1=n:=by lia
  refine cJ F.entry_min_loop ?_;rw[bX F.plain_min_loop _];show ξ _ A.in1 (seqItems? (.ref S) >>= _) _ _ s;refine δ (bY hS rfl ?_);show ξ _ A.in1 (tryCatch (pyNext (.ref I)) _ >>= _) _ _ s;refine δ (dD (W.done s _ _ (hin▸hst) fun s' hm=>?_));have hS':=hm.heap S _ hSw hS;show ξ _ A.in1 (updateSeq S (fun _=>#[]) >>= _) _ _ _;refine δ ?_;refine fq hS' rfl (δ (eQ (μ ?_)));exact hR vb _ (by rw[←hin];exact hPb) ((hm.mono hsub).then_heap (tk:=s'.toks) (Θ _) fun b o hb e=>(ay _ _ (notS hb)).trans e)
 |succ k ih=>
  intro j s vb tb c hk hj hst hPb hS hM hR;have hlt:j+1<n:=by lia
  refine cJ F.entry_min_loop ?_;rw[bX F.plain_min_loop _];show ξ _ A.in1 (seqItems? (.ref S) >>= _) _ _ s;refine δ (bY hS rfl ?_);show ξ _ A.in1 (tryCatch (pyNext (.ref I)) _ >>= _) _ _ s;refine δ (dD (W.item (j+1) s _ _ hlt hst fun v s' hP hst' hm=>?_));have hS':=hm.heap S _ hSw hS;have hM':dU (S::wr) Gs s0 s':=fj W.gtrans hM (hm.mono hsub);show ξ _ A.in1 (tryCatch (holding [v] (call (.builtin "len") [v])) _ >>= _) _ _ _;refine δ (dD (aZ (ue (j+1) v s' hP hM' _ _ ?_)));show ξ _ A.in1 (tryCatch (holding [v,.int (kf (j+1)) (s'.toks+1)] (ie .Lt (.int (kf (j+1)) (s'.toks+1)) (.int (kf (argBest (kE kf) j)) tb) >>= _)) _ >>= _) _ _ _;refine δ (dD (aZ (δ (CmpOf.ints_lt (prog:=prog) (w:=w) (A:=A.in1) (P:=fun i v=>∃t,v=.int (kf i) t) kf (fun i v h=>h) (j+1) (argBest (kE kf) j) _ _ _ _ _ ⟨_,rfl⟩ ⟨tb,rfl⟩ ?_))));refine δ (aZ (fx ?_));refine δ (eQ (μ ?_));have hM2:dU (S::wr) Gs s { s' with toks:=s'.toks+1+1 }:=(hm.mono hsub).then_heap (tk:=s'.toks+1+1) (by lia) fun b o hb e=>e;cases hb:kE kf (j+1) (argBest (kE kf) j) with
  |true=>
   have hb':kf (j+1)<kf (argBest (kE kf) j):=of_decide_eq_true hb;simp only[hb',decide_true,if_true];refine δ ?_;refine fq (s:={ s' with toks:=s'.toks+1+1 }) hS' rfl (δ (eQ ?_));rw[hname];have hM3:dU (S::wr) Gs s { s' with heap:=s'.heap.update S (bq fun _=>#[v,.int (kf (j+1)) (s'.toks+1)]),toks:=s'.toks+1+1 }:=(hm.mono hsub).then_heap (tk:=s'.toks+1+1) (by lia) fun b o hb e=>(ay _ _ (notS hb)).trans e;have e1:argBest (kE kf) (j+1)=j+1:=by simp only[argBest,hb,if_true]
   refine μ ⟨dC F.plain_min_loop _,ih (j+1) _ v (s'.toks+1) _ (by lia) hlt (W.frame _ s' _ (s'.toks+1+1) hst' (by lia) fun b hbf o e=>?_) (by rw[e1];exact hP) (by rw[e1];exact bu _ hS' rfl) (fj W.gtrans hM hM3)
    fun v' s'' hP' hm''=>?_⟩
   ·exact (ay _ _ (fun h:S=b=>hSf (by rw[h];exact hbf))).trans e
   ·exact hR v' s'' hP' (fj W.gtrans hM3 hm'')
  |false=>
   have hb':¬kf (j+1)<kf (argBest (kE kf) j):=of_decide_eq_false hb;have e1:argBest (kE kf) (j+1)=argBest (kE kf) j:=by simp only[argBest,hb,cI,if_false]
   simp only[hb',decide_false,cI,if_false];refine δ (eQ ?_);rw[hname];refine μ ⟨dC F.plain_min_loop _,ih (j+1) _ vb tb c (by lia) hlt (W.frame _ s' _ (s'.toks+1+1) hst' (by lia) fun b hbf o e=>e) (by rw[e1];exact hPb) (by rw[e1];exact hS') (fj W.gtrans hM hM2) fun v' s'' hP' hm''=>?_⟩;exact hR v' s'' hP' (fj W.gtrans hM2 hm'')
theorem ZN(W:rL prog w A.in1 I fp wr Gs n P St)(d:ε)(kf:Nat->Int)(S:ζ)(hSf:S∉fp){s:η}{c:Nat}(hst:St 0 s)
  (hS:s.heap.get? S=some { cls:=.type "list",dict:=none,data:=.seq #[] c,slots:=#[]})
  (ue:∀(i:Nat) (v:ε) (s':η),P i v->dU (S::wr) Gs s s'->∀(Q:ε->η->Prop) (E:ε->η->Prop),Q (.int (kf i) (s'.toks+1)) { s' with toks:=s'.toks+1+1 }->ξ (model prog w) A.in1 (call (.builtin "len") [v]) Q E s')
  (h0:n=0->∀s',dU (S::wr) Gs s s'->R (.ok (.ret d)) s')
  (hR:0<n->∀v s',P (argBest (kE kf) (n-1)) v->dU (S::wr) Gs s s'->R (.ok (.ret v)) s'):fA (model prog w) A (.builtin "min.loop" ⟨[.ref I,.builtin "len",.ref S],[("default",d)]⟩) R s:=by
 have hSw:S∉wr:=fun h=>hSf (W.sub _ h);have hsub:∀b∈wr,b∈S::wr:=fun b hb=>ψ _ hb;have hname:(toString "min" ++ toString ".loop":String)="min.loop":=by decide
 have notS:∀{b:ζ},b∉S::wr->S≠b:=fun hb h=>hb (by rw[h];exact χ);refine cJ F.entry_min_loop ?_;rw[bX F.plain_min_loop _];show ξ _ A.in1 (seqItems? (.ref S) >>= _) _ _ s;refine δ (bY hS rfl ?_);show ξ _ A.in1 (tryCatch (pyNext (.ref I)) _ >>= _) _ _ s;rcases Nat.eq_zero_or_pos n with e0|hn
 ·subst e0;refine δ (dD (W.done s _ _ hst fun s' hm=>?_));refine δ (g7 (μ ?_));exact h0 rfl _ (hm.mono hsub)
 refine δ (dD (W.item 0 s _ _ hn hst fun v s' hP hst' hm=>?_));have hS':=hm.heap S _ hSw hS;show ξ _ A.in1 (tryCatch (holding [v] (call (.builtin "len") [v])) _ >>= _) _ _ _;refine δ (dD (aZ (ue 0 v s' hP (hm.mono hsub) _ _ ?_)));show ξ _ A.in1 (updateSeq S (fun _=>#[v,.int (kf 0) (s'.toks+1)]) >>= _) _ _ _;refine δ ?_;refine fq (s:={ s' with toks:=s'.toks+1+1 }) hS' rfl ?_;rw[hname];have hM3:dU (S::wr) Gs s { s' with heap:=s'.heap.update S (bq fun _=>#[v,.int (kf 0) (s'.toks+1)]),toks:=s'.toks+1+1 }:=(hm.mono hsub).then_heap (tk:=s'.toks+1+1) (by lia) fun b o hb e=>(ay _ _ (notS hb)).trans e;refine μ ⟨dC F.plain_min_loop _,ZO W _ kf S hSf s ue _ 0 _ v (s'.toks+1) _ rfl hn (W.frame _ s' _ (s'.toks+1+1) hst' (by lia) fun b hbf o e=>?_) hP (bu _ hS' rfl) hM3 fun v' s'' hP' hm''=>?_⟩
 ·exact (ay _ _ (fun h:S=b=>hSf (by rw[h];exact hbf))).trans e
 ·exact hR hn v' s'' hP' (fj W.gtrans hM3 hm'')
theorem ZM(a k v:ε):argsOk "min" ⟨[a],[("key",k),("default",v)]⟩:=by unfold argsOk;kernel_rfl
theorem ZL{E:ε->η->Prop}{s:η}{x d:ε}{Q:ε->η->Prop}
  (h:ξ (model prog w) A.in1 (pyIter x) (fun it s₂=>∃I fp wr Gs n P St kf,it=.ref I/\rL prog w A.in1 I fp wr Gs n P St/\St 0 s₂/\(∀b∈fp,b<s₂.heap.objs.size) ∧
   (∀(i:Nat) (v:ε) (s':η),P i v->(∀b o,b∉wr->s₂.heap.get? b=some o->s'.heap.get? b=some o)->∀(Q:ε->η->Prop) (E:ε->η->Prop),Q (.int (kf i) (s'.toks+1)) { s' with toks:=s'.toks+1+1 }->ξ (model prog w) A.in1 (call (.builtin "len") [v]) Q E s') ∧
   (n=0->∀s',dU wr Gs s₂ s'->Q d s')/\(0<n->∀v s',P (argBest (kE kf) (n-1)) v->dU wr Gs s₂ s'->Q v s')) E s):
  ξ (model prog w) A (call (.builtin "min") [x] [("key",.builtin "len"),("default",d)]) Q E s:=by
 have hname:(toString "min" ++ toString ".loop":String)="min.loop":=by decide
 refine kmk_tree F.kind_min F.plain_min F.entry_min (ZM _ _ _) ?_;show ξ _ A.in1 (gj "min" ["key","default"] 0 ⟨[],[("key",.builtin "len"),("default",d)]⟩ >>= _) _ _ s;refine δ (ib (show gj "min" ["key","default"] 0 ⟨[],[("key",.builtin "len"),("default",d)]⟩=pure [some (.builtin "len"),some d] from rfl) ?_);refine δ (μ ?_);refine δ (cb h (fun it s₂ h₂=>?_) fun _ _ e=>e);obtain⟨I,fp,wr,Gs,n,P,St,kf,rfl,W,hst,hfp,ue,q0,q1⟩:=h₂;refine δ (bG ?_);have hSf:s₂.heap.objs.size∉fp:=fun hm=>bU _ (hfp _ hm);rw[hname];refine μ ⟨dC F.plain_min_loop _,ZN W _ kf s₂.heap.objs.size hSf (W.frame 0 s₂ _ s₂.toks hst (Θ _) fun b _ o e=>ι _ e) (af _ rfl) (fun i v s' hP hM Q E hq=>?_) (fun e0 s' hm=>?_) fun hn v s' hP hm=>?_⟩
 ·refine ue i v s' hP (fun b o hb e=>?_) Q E hq;refine hM.heap b o (fun hm=>?_) (ι _ e);rcases Δ.mp hm with z|z
  ·exact absurd (Ξ e) (by rw[z];exact bU _)
  ·exact hb z
 ·exact q0 e0 s' (mV (tk:=s₂.toks) hm (Θ _))
 ·exact q1 hn v s' hP (mV (tk:=s₂.toks) hm (Θ _))
end
theorem JR(kf:Nat->Int):∀k j,j<argBest (kE kf) k->kf (argBest (kE kf) k)<kf j
 |0,j,h=>by cases h
 |k+1,j,h=>by
  have ih:=JR kf k;obtain⟨h1,h2⟩:=argBest_lt kf k;by_cases hc:kf (k+1)<kf (argBest (kE kf) k)
  ·have e:argBest (kE kf) (k+1)=k+1:=if_pos (decide_eq_true hc);rw[e] at h ⊢;exact Int.lt_of_lt_of_le hc (h2 j (by lia))
  ·have e:argBest (kE kf) (k+1)=argBest (kE kf) k:=if_neg (by rw[decide_eq_true_iff];exact hc);rw[e] at h ⊢;exact ih j h
section
variable {X:Cx} {e:ρ} {te:aU} {p p2 pos kp kp2 cp:aO} {j:Option ν}
def Mi(Q:V3):V3:=fun x G1=>match x with
 |.obj a=>∃dss:List (List D),G1 a=some (.lst (dss.map .tup))/\(dss=[]->Q .aC G1)/\∀ds,ds∈dss->(∀es∈dss,ds.length≤es.length)->(∃i:Nat,dss[i]?=some ds/\∀(j:Nat),j<i->∀es:List D,dss[j]?=some es->ds.length<es.length)->Q (.tup ds) G1
 |_=>False
def B0(te:aU):aU:=fun τ G Q=>te τ G (Mi Q)
theorem Er{K:θ}{H:Hp}:∀{ds:List D} {vs:List V} {i:Nat} {d:D},aF K H ds vs->ds[i]?=some d->∃v,vs[i]?=some v/\Hv K H d v
 |[],vs,i,d,_,e=>by cases e
 |x::ds,vs,i,d,h,e=>by
  obtain⟨v,r,rfl,h1,h2⟩:=h.inv;cases i with
  |zero=>
   cases e;exact⟨v,rfl,h1⟩
  |succ i=>exact Er (i:=i) h2 e
theorem ZK{kj}(hc:X.calm=true)(he:bT X e te)(hm:X.mg "min" = none)(hl:X.mg "len" = none)(hg:Gl X "min":=by rfl)(hgl:Gl X "len":=by rfl)(hs:notStar e=true:=by rfl):
  bT X (.Call (.Name "min" p) [e] [⟨some "key",.Name "len" p2,kp⟩,⟨some "default",.Constant .none kj cp,kp2⟩] pos) (B0 te):=by
 intro pins s σ H Q I ⟨τ,G,Q3,RS,RG,h,k⟩;refine cG (se I hg hm rfl ?_ (by decide) (by decide));refine callWith_kw (bJ ((pC he t9 (eB hs)) pos pins s σ H (fun vs H1=>∃v d G1,vs=[v]/\Hv X.K H1 d v/\Step H G H1 G1/\aJ X.K G1 H1/\Mi Q3 d G1) I ⟨τ,G,_,RS,RG,h,fun v H1 d G1 a b c q=>⟨v,d,G1,rfl,a,b,c,q⟩⟩) fun us s1 ⟨vs,H1,I1,r1,v,d,G1,ev,hd,S1,R1,q⟩=>?_) (by rw[eB hs];rfl) (by rw[eB hs];rfl);subst ev;obtain⟨u,rfl,ru⟩:=vals1 r1;refine kws_cons (se I1 hgl hl rfl ?_ (by decide) (by decide));refine kws_cons (bJ (L6 pins s1 σ H1 (fun v H'=>v=.aC/\H'=H1) I1 ⟨rfl,rfl⟩) fun du s2 ⟨dv,H2,I2,rd,e1,e2⟩=>kws_nil ?_);subst e1 e2;cases (show du=aS from rd);cases d with
 |obj a=>
  obtain⟨dss,g1,q0,q1⟩:=q;obtain⟨ys,e3,e4⟩:=R1 a _ g1;have hv:=ip hd;subst hv;cases ru;refine ZL (Fb hc I2 (.of e3) fun its I' rv W h1 h2 h3 back=>?_);have h4:its.length=dss.length:=by rw[←rv.length,←e4.length,π]
  have hP:∀(i:Nat) (v:ε),its[i]?=some v->∃ds x,dss[i]?=some ds/\Hv X.K H2 (.tup ds) x/\RelV x v:=by
   intro i v hv;have hi:i<dss.length:=by
    have:=(ak.mp hv).1;lia
   obtain⟨x,z1,z2⟩:=Er (i:=i) (d:=.tup dss[i]) e4 (by rw[aI,aB hi];rfl);obtain⟨u',z3,z4⟩:=rv.get z1;rw[hv] at z3;cases z3;exact⟨_,x,aB hi,z2,z4⟩
  refine⟨I',_,_,_,_,_,_,fun i=>(((dss.getD i []).length:Nat):Int),rfl,W,⟨h1,h2⟩,h3,fun i v s' hv hk Q E hq=>?_,fun e0 s' hm=>?_,fun hn v s' hv hm=>?_⟩
  ·obtain⟨ds,x,z1,z2,z3⟩:=hP i v hv;obtain⟨b,xs,rfl,z4,z5⟩:=lQ z2;cases z3;obtain⟨its2,rv2,⟨ob,y1,y2,n2,y3⟩,hz⟩:=I2.tuple z4;have y4:s'.heap.get? b=some ob:=hk b ob (fun hb=>by
    have eb:b=I':=aV.mp hb;obtain⟨oi,a1,a2,_⟩:=h1;rw[←eb,ι _ y1] at a1;cases a1;rw[y2] at a2;injection a2 with z
    exact absurd z (by decide)) (ι _ y1)
   have hlen:its2.toArray.size=(dss.getD i []).length:=by
    rw[Γ,←rv2.length,←z5.length,gx,z1];rfl
   refine len_tuple (items:=its2.toArray) ⟨ob,y4,y2,n2,y3⟩ ?_ ?_
   ·have:=nz;have h5:xs.length≤au:=hz;rw[Γ,←rv2.length];lia
   ·rw[hlen];exact hq
  ·have:dss=[]:=gX.mp (by lia);exact⟨.aC,H2,back s' hm,rfl,k _ H2 .aC G1 (by simp[Hv]) S1 R1 (q0 this)⟩
  ·obtain⟨g2,g3⟩:=argBest_lt (fun i=>(((dss.getD i []).length:Nat):Int)) (its.length-1);obtain⟨ds,x,z1,z2,z3⟩:=hP _ _ hv;have key:∀(j:Nat) (es:List D),dss[j]?=some es->dss.getD j []=es:=fun j es ej=>by
    rw[gx,ej];rfl
   have e6:=key _ ds z1;refine⟨x,H2,back s' hm,z3,k _ H2 (.tup ds) G1 z2 S1 R1 (q1 ds (bE z1) (fun es hes=>?_) ⟨_,z1,fun j hj es ej=>?_⟩)⟩
   ·obtain⟨j,hj,ej⟩:=gV hes;have h5:=g3 j (by lia);have e5:=key j es (by rw[aB hj,ej]);have h6:(((dss.getD (argBest (kE fun i=>(((dss.getD i []).length:Nat):Int)) (its.length-1)) []).length:Nat):Int)≤(((dss.getD j []).length:Nat):Int):=h5;rw[e5,e6] at h6;lia
   ·have h5:=JR (fun i=>(((dss.getD i []).length:Nat):Int)) _ j hj;have h6:(((dss.getD (argBest (kE fun i=>(((dss.getD i []).length:Nat):Int)) (its.length-1)) []).length:Nat):Int)<(((dss.getD j []).length:Nat):Int):=h5;rw[key j es ej,e6] at h6;lia
 |_=>exact q.elim
theorem ZJ{kj}(hc:X.calm=true)(he:QE X e te)(hm:X.mg "min" = none)(hl:X.mg "len" = none)(hg:Gl X "min":=by rfl)(hgl:Gl X "len":=by rfl)(hs:notStar e=true:=by rfl):
  QE X (.Call (.Name "min" p) [e] [⟨some "key",.Name "len" p2,kp⟩,⟨some "default",.Constant .none kj cp,kp2⟩] pos) (B0 te):=⟨ZK hc he.of hm hl hg hgl hs⟩
end
end L3
namespace My
open PySem L2 L3
theorem xj(m i:Nat):(dj (m:Int) ((2^i:Nat):Int)==0) = !m.testBit i:=by
 have e:dj (m:Int) ((2^i:Nat):Int)=((m &&& 2^i:Nat):Int):=by
  unfold dj;rw[decide_eq_true (kh m),decide_eq_true (kh _)];rfl
 rw[e];cases hb:m.testBit i with
 |true=>
  have h1:(m &&& 2^i).testBit i=true:=by rw[Nat.testBit_and,hb,Nat.testBit_two_pow_self];rfl
  have h2:(m &&& 2^i)≠0:=fun z=>by
   rw[z,pT] at h1;cases h1
  show ((((m &&& 2^i:Nat)):Int)==0)=false;rw[beq_eq_false_iff_ne];omega
 |false=>
  have h2:(m &&& 2^i)=0:=ml fun k=>by
   rw[Nat.testBit_and,Nat.testBit_two_pow,pT];by_cases e:i=k
   ·subst e;rw[hb];rfl
   ·rw[decide_eq_false e,kx]
  rw[h2];rfl
theorem JQ(m j:Nat):m=2^(j+1)*(m / 2^(j+1))+m%2^(j+1):=(Nat.div_add_mod _ _).symm
theorem Aw{b j:Nat}(h:b<2^(j+1)):b.testBit j=decide (2^j≤b):=by
 rw[Nat.testBit_eq_decide_div_mod_eq];have hp:=mh j;rw[eR] at h;by_cases hb:2^j≤b
 ·have:b / 2^j=1:=Nat.div_eq_of_lt_le (by omega) (by omega);rw[this,decide_eq_true hb];rfl
 ·rw[Nat.div_eq_of_lt (by omega),decide_eq_false hb];rfl
theorem ZI{b j i:Nat}(h:b<2^j)(hi:i<j):(b+2^j).testBit i=b.testBit i:=by
 rw[mm];exact Nat.testBit_two_pow_add_gt hi b
theorem xi{m j:Nat}(h:m.testBit j=false)(i:Nat):(m+2^j).testBit i=(decide (i=j)||m.testBit i):=by
 have hs:=JQ m j;have hb:m%2^(j+1)<2^(j+1):=hJ _ (mh _);generalize m / 2^(j+1)=q at hs;generalize m%2^(j+1)=b at hs hb;have hbj:b.testBit j=false:=by
  rw[hs,eN _ hb,if_pos (fS j)] at h;exact h
 rw[Aw hb] at hbj;have hlt:¬2^j≤b:=of_decide_eq_false hbj;have hp:2^(j+1)=2^j*2:=eR ..;have hb2:b+2^j<2^(j+1):=by omega
 have e1:m+2^j=2^(j+1)*q+(b+2^j):=by omega
 rw[e1,eN _ hb2,hs,eN _ hb];by_cases hi:i<j+1
 ·rw[if_pos hi,if_pos hi];by_cases e:i=j
  ·subst e;rw[Aw hb2,decide_eq_true (by omega),decide_eq_true rfl];rfl
  ·rw[ZI (by omega) (by omega),decide_eq_false e];rfl
 ·rw[if_neg hi,if_neg hi,decide_eq_false (by omega)];rfl
theorem JP{m j:Nat}(h:m.testBit j=true):2^j≤m:=Nat.ge_two_pow_of_testBit h
theorem Ep{m j:Nat}(h:m.testBit j=true):(m-2^j).testBit j=false:=by
 have hs:=JQ m j;have hb:m%2^(j+1)<2^(j+1):=hJ _ (mh _);generalize m / 2^(j+1)=q at hs;generalize m%2^(j+1)=b at hs hb;have hbj:b.testBit j=true:=by
  rw[hs,eN _ hb,if_pos (fS j)] at h;exact h
 rw[Aw hb] at hbj;have hle:2^j≤b:=of_decide_eq_true hbj;have hp:2^(j+1)=2^j*2:=eR ..;have hb2:b-2^j<2^(j+1):=by omega
 have e1:m-2^j=2^(j+1)*q+(b-2^j):=by omega
 rw[e1,eN _ hb2,if_pos (fS j),Aw hb2];exact decide_eq_false (by omega)
theorem JO{m j:Nat}(h:m.testBit j=true)(i:Nat):m.testBit i=(decide (i=j)||(m-2^j).testBit i):=by
 have:=xi (Ep h) i;rw[Nat.sub_add_cancel (JP h)] at this;exact this
theorem Eo{m j n:Nat}(h:m.testBit j=false)(hm:m<2^n)(hj:j<n):m+2^j<2^n:=by
 refine oW _ fun i hi=>?_;rw[xi h,decide_eq_false (by omega),gz];exact gb (aX hm (cE (by decide) hi))
def xM(j:Nat)(f:Nat->Bool)(m:Nat):Bool:=f m||(m.testBit j&&f (m-2^j))
def xN(f:Nat->Bool):Nat->Nat->Bool
 |0=>f
 |j+1=>xM j (xN f j)
theorem ZH(f:Nat->Bool)(j:Nat):∀m,xN f j m=true↔∃r,f r=true/\(∀i,r.testBit i=true->m.testBit i=true)/\∀i,j≤i->r.testBit i=m.testBit i:=by
 induction j with
 |zero=>
  intro m;constructor
  ·intro h;exact⟨m,h,fun _ h=>h,fun _ _=>rfl⟩
  ·rintro⟨r,h,_,h2⟩;have:r=m:=ml fun i=>h2 i (ba _);rw[←this];exact h
 |succ j ih=>
  intro m;show (xN f j m||(m.testBit j&&xN f j (m-2^j)))=true↔_;rw[my,bQ,ih m,ih (m-2^j)];constructor
  ·rintro (⟨r,h1,h2,h3⟩|⟨hb,r,h1,h2,h3⟩)
   ·exact⟨r,h1,h2,fun i hi=>h3 i (by omega)⟩
   ·have key:=JO hb;refine⟨r,h1,fun i hi=>?_,fun i hi=>?_⟩
    ·rw[key,h2 i hi,mx]
    ·rw[h3 i (by omega),key i,decide_eq_false (by omega),gz]
  ·rintro⟨r,h1,h2,h3⟩;by_cases e:r.testBit j=m.testBit j
   ·refine .inl ⟨r,h1,h2,fun i hi=>?_⟩;by_cases ei:i=j
    ·subst ei;exact e
    ·exact h3 i (by omega)
   ·have hrj:r.testBit j=false:=by
     cases hr:r.testBit j with
     |false=>rfl
     |true=>rw[hr,h2 j hr] at e;exact absurd rfl e
    have hmj:m.testBit j=true:=by
     cases hm:m.testBit j with
     |true=>rfl
     |false=>rw[hrj,hm] at e;exact absurd rfl e
    have key:=JO hmj;refine .inr ⟨hmj,r,h1,fun i hi=>?_,fun i hi=>?_⟩
    ·have:=h2 i hi;rw[key i] at this;by_cases ei:i=j
     ·subst ei;rw[hrj] at hi;cases hi
     ·rw[decide_eq_false ei,gz] at this;exact this
    ·by_cases ei:i=j
     ·subst ei;rw[hrj,Ep hmj]
     ·rw[h3 i (by omega),key i,decide_eq_false ei,gz]
end My
namespace My
open PySem L2 L3
def xh:dJ:=fun ds G Q=>∃n:Nat,ds=[.int n]/\n≤60/\Q (.int ((2^n:Nat):Int)) G
def ZG:az:=Am 1 (υ 1) CU
def ZF:az:=cz (υ 1)
def ZE:az:=bH (hX (iX (ο (υ 0) (ae))) (hName 2) (ZG)) ZF
def JN:az:=bH (ck (eC (.int 1)) (hName 1)) ZE
theorem ZD:∀ds G Q,xh ds G Q->JN (bf Q) (bc ["times","number","turn"] ds) G:=by
 rintro ds G Q ⟨n,rfl,hn,q⟩;refine⟨⟨by lia,by lia⟩,?_⟩;show iY _ _ _ _ (iF 0 ((n:Int)).toNat) _ _;rw[bC,vz];refine nv (fun ds τ G'=>G'=G/\∃(k:Nat) (x2:Option D),ds.length+k=n/\τ=[some (.int n),some (.int ((2^k:Nat):Int)),x2]) (fun _ _ _ _=>trivial) ?_ ?_ _ _ _ ⟨rfl,0,none,by simp,rfl⟩
 ·rintro d ds τ G' N ⟨rfl,k,x2,hk,rfl⟩ hN;refine hN _ _ ⟨rfl,k+1,some d,by simp at hk;lia,?_⟩;show [some (D.int n),some (D.int (((2^k:Nat):Int)+((2^k:Nat):Int))),_]=_;rw[show ((2^k:Nat):Int)+((2^k:Nat):Int)=((2^(k+1):Nat):Int) by rw[eR];lia]
 ·rintro τ G' ⟨rfl,k,x2,hk,rfl⟩;have:k=n:=by simpa using hk
  rw[this];exact e7 q
def mO(i:Nat):D:=.int ((2^i:Nat):Int)
def fY(n:Nat):List D:=(ao n).map mO
def pj(x:Nat):List aG->Nat->Nat
 |[],_=>0
 |c::cs,i=>(if rg x c=true then 2^i else 0)+pj x cs (i+1)
def lA(cs:List aG)(x:Nat):Nat:=pj x cs 0
def iS(cs:List aG)(x i:Nat):Bool:=match cs[i]? with
 |some c=>rg x c
 |none=>false
theorem JM(x:Nat):∀(cs:List aG) (i k:Nat),(pj x cs i).testBit k=(decide (i≤k)&&iS cs x (k-i))
 |[],i,k=>by
  show (0:Nat).testBit k=_;rw[pT];show false=(decide (i≤k)&&false);rw[kx]
 |c::cs,i,k=>by
  have ih:=JM x cs (i+1);have h0:(pj x cs (i+1)).testBit i=false:=by rw[ih,decide_eq_false (by lia),mX]
  have hr:∀j,iS (c::cs) x (j+1)=iS cs x j:=fun j=>rfl;show ((if rg x c=true then 2^i else 0)+pj x cs (i+1)).testBit k=_;by_cases hk:k=i
  ·subst hk;rw[decide_eq_true (Θ k),Nat.sub_self,tw];show _=rg x c;by_cases hg:rg x c=true
   ·rw[if_pos hg,mm,xi h0,decide_eq_true rfl,hg];rfl
   ·rw[if_neg hg,pU,h0];cases h:rg x c with
    |false=>rfl
    |true=>exact absurd h hg
  ·have e:((if rg x c=true then 2^i else 0)+pj x cs (i+1)).testBit k=(pj x cs (i+1)).testBit k:=by
    split
    ·rw[mm,xi h0,decide_eq_false hk,gz]
    ·rw[pU]
   rw[e,ih];by_cases hik:i<k
   ·obtain⟨j,rfl⟩:∃j,k=i+1+j:=⟨k-(i+1),by lia⟩;rw[decide_eq_true (by lia),decide_eq_true (by lia),show i+1+j-(i+1)=j by lia,show i+1+j-i=j+1 by lia,hr]
   ·rw[decide_eq_false (by lia),decide_eq_false (by lia)];rfl
theorem En(cs:List aG)(x k:Nat):(lA cs x).testBit k=iS cs x k:=by
 show (pj x cs 0).testBit k=_;rw[JM,decide_eq_true (ba _)];rfl
theorem JL(cs:List aG)(x:Nat):lA cs x<2^cs.length:=oW _ fun i hi=>by
 rw[En];unfold iS;rw[rQ hi]
def gB(f:Nat->Bool)(n:Nat):List D:=(ao n).map fun x=>D.bl (f x)
theorem tZ(f:Nat->Bool)(n:Nat):(gB f n).length=n:=by simp[gB]
theorem Em{f:Nat->Bool}{n x:Nat}(h:x<n):kF (gB f n) (x:Int)=some (.bl (f x)):=yY (by
 unfold gB;rw[aI,gW h];rfl)
theorem JK{f:Nat->Bool}{n x:Nat}{v:Bool}(h:x<n):(gB f n).set x (.bl v)=gB (fun y=>if y=x then v else f y) n:=by
 refine kM fun i=>?_;unfold gB;rw[List.getElem?_set];by_cases hi:i<n
 ·by_cases hx:x=i
  ·subst hx;simp[h]
  ·have:¬i=x:=fun z=>hx z.symm;simp[hi,hx,this]
 ·have:¬x=i:=fun z=>hi (by lia);simp[hi,this]
theorem JJ{f g:Nat->Bool}{n:Nat}(h:∀x,x<n->f x=g x):gB f n=gB g n:=by
 unfold gB;refine eO fun x hx=>?_;rw[h x (ax.mp hx)]
theorem ME(n:Nat):(bo n [D.bl false]).flatten=gB (fun _=>false) n:=by
 unfold gB
 induction n with
 |zero=>rfl
 |succ n ih=>
  rw[sO,tJ,ih,List.range_succ,cg];rfl
def zX(cs:List aG)(m:Nat):Bool:=(ao (dy cs)).any fun x=>lA cs x==m
def jB(cs:List aG):Nat->Bool:=xN (zX cs) cs.length
theorem Gh{n:Nat}(h:n≤12):2^n≤4096:=aA (cE (by decide) h) (by decide)
end My
namespace My
open PySem L2 L3
def vc(f:Nat->Bool)(n m:Nat):Bool:=!f m&&(ao n).all fun j=>m.testBit j||f (m+2^j)
def yH:dJ:=fun ds G Q=>∃(q p:ζ) (f:Nat->Bool) (n m:Nat),ds=[.obj q,.obj p,.int m]/\G q=some (.lst (gB f (2^n)))/\G p=some (.lst (fY n))/\m<2^n/\n≤12/\∀G',Sub G G'->Q (.bl (vc f n m)) G'
def ZC:az:=cz (eH t7 (ο (fX ["bit"] [2,0] (iW (υ 1)) (hName 0) (b9 (bx (fQ false) (bx yc (υ 1) (υ 0)) (eC (.int 0)))) (bx fG (υ 2) (bx gU (υ 1) (υ 0)))) (ae)))
def JI:az:=bH (kA (b9 (bx fG (υ 0) (υ 2))) (cz (eC (.bl false))) (fJ)) ZC
theorem ZA{α:Type}(p f:α->Bool)(xs:List α):(xs.filter p).all f=xs.all fun x=>!p x||f x:=by
 induction xs with
 |nil=>rfl
 |cons x xs ih=>
  rw[i9,nV,←ih];cases p x with
  |true=>rfl
  |false=>rfl
theorem Zz:∀ds G Q,yH ds G Q->JI (bf Q) (bc ["wanted","bits","mark"] ds) G:=by
 rintro ds G Q ⟨qa,pb,f,n,m,rfl,hq,hp,hm,hn,q⟩;refine⟨_,.bl (f m),hq,Em hm,fun h=>?_,fun h=>?_⟩
 ·have h':f m=true:=h;have:=q G (Sub.refl _);unfold vc at this;rw[h'] at this;exact e7 this
 ·have h':f m=false:=h;refine⟨_,hp,?_,?_⟩
  ·show (fY n).length≤au;unfold fY;rw[π,fB];exact dY (by lia)
  refine lM (guard:=fun G=>G pb=some (.lst (fY n))) (fun τ=>∃x,τ=[x,some (.int m),some (.obj qa)]) mO (fun j=>!m.testBit j) (fun j=>D.bl (f (m+2^j))) (G:=G) hp (ao n) [] _ ⟨none,rfl⟩ ?_ ?_
  ·rintro j hj τ K1 K2 ⟨x,rfl⟩ g1 g2;have hj':=ax.mp hj;refine⟨trivial,_,_,rfl,rfl,ba _,fun h=>?_,fun h=>?_⟩
   ·have h':(dj (m:Int) ((2^j:Nat):Int)==0)=true:=h;rw[xj] at h';have hb:m.testBit j=false:=by simpa using h'
    exact⟨_,.bl (f (m+2^j)),hq,Em (Eo hb hm hj'),g1 h' _ ⟨_,rfl⟩⟩
   ·have h':(dj (m:Int) ((2^j:Nat):Int)==0)=false:=h;rw[xj] at h';exact g2 h' _ ⟨_,rfl⟩
  intro p1 G1 n1;rw[cW] at n1;refine⟨_,_,n1.at_,xn _ _,?_⟩;rw[all_map,ZA];have:=q G1 n1.sub;unfold vc at this;rw[h'] at this;simp only[Bool.not_false,tw] at this;simp only[uE];exact e7 this
def lT(n m:Nat):List Int:=((ao n).filter fun i=>!m.testBit i).map fun i:Nat=>(i:Int)
def yG:dJ:=fun ds G Q=>∃(p:ζ) (n m:Nat),ds=[.obj p,.int m]/\G p=some (.lst (fY n))/\n≤12/\∀G',Sub G G'->Q (tupI (lT n m)) G'
def IX:az:=cz (eH t8 (ο (fX ["place","bit"] [1] (BC (ο (υ 0) (ae))) (qQ 2 (jH (hName 0) (jH (hName 1) (uf)))) (b9 (bx (fQ false) (bx yc (υ 2) (υ 1)) (eC (.int 0)))) (υ 0)) (ae)))
theorem IW{α:Type}:∀xs:List α,xs.zip xs=xs.map fun x=>(x,x)
 |[]=>rfl
 |x::xs=>by
  show (x,x)::xs.zip xs=(x,x)::xs.map fun x=>(x,x);rw[IW xs]
theorem Zy(n:Nat):uJ (fY n)=(ao n).map fun i=>D.tup [nD i,mO i]:=by
 unfold fY;rw[Q1 mO,fB,IW,cZ];rfl
theorem Zx:∀ds G Q,yG ds G Q->IX (bf Q) (bc ["bits","mark"] ds) G:=by
 rintro ds G Q ⟨pb,n,m,rfl,hp,hn,q⟩;refine⟨_,hp,?_⟩;rw[Zy];refine⟨?_,?_⟩
 ·show ((ao n).map _).length≤au;rw[π,fB];exact dY (by lia)
 refine lM (guard:=fun G=>tT G (.obj pb) (fY n)) (fun τ=>∃x y,τ=[x,y,some (.int m)]) (fun i=>D.tup [nD i,mO i]) (fun i=>!m.testBit i) nD (G:=G) hp (ao n) [] _ ⟨none,none,rfl⟩ ?_ ?_
 ·rintro i hi τ K1 K2 ⟨x,y,rfl⟩ g1 g2;refine⟨rfl,trivial,_,_,rfl,rfl,ba _,fun h=>g1 ?_ _ ⟨_,_,rfl⟩,fun h=>g2 ?_ _ ⟨_,_,rfl⟩⟩
  ·have h':(dj (m:Int) ((2^i:Nat):Int)==0)=true:=h;rw[xj] at h';exact h'
  ·have h':(dj (m:Int) ((2^i:Nat):Int)==0)=false:=h;rw[xj] at h';exact h'
 intro p1 G1 n1;rw[cW] at n1;refine⟨_,n1.at_,?_⟩;have e:D.tup (((ao n).filter fun i=>!m.testBit i).map nD)=tupI (lT n m):=by
  unfold tupI lT;rw[cZ];rfl
 rw[e];exact e7 (q G1 n1.sub)
def iG(cs:List aG):List (List Int):=((ao (2^cs.length)).filter (vc (jB cs) cs.length)).map (lT cs.length)
end My
namespace My
open PySem L2 L3
theorem Av{cs:List aG}{x i:Nat}(h:iS cs x i=true):i<cs.length:=by
 unfold iS at h;refine aK fun hn=>?_;rw[rQ (by lia)] at h;cases h
theorem El{cs:List aG}{x i:Nat}{c:aG}(h:cs[i]?=some c):iS cs x i=rg x c:=by
 unfold iS;rw[h]
theorem Au{cs:List aG}{m:Nat}(hm:m<2^cs.length):jB cs m=true↔∃x,x<dy cs/\∀i,iS cs x i=true->m.testBit i=true:=by
 unfold jB;rw[ZH];constructor
 ·rintro⟨r,h1,h2,_⟩;obtain⟨x,hx,e⟩:=lr.mp h1;have e:lA cs x=r:=eq_of_beq e;refine⟨x,ax.mp hx,fun i hi=>h2 i ?_⟩;rw[←e,En];exact hi
 ·rintro⟨x,hx,h⟩;refine⟨lA cs x,lr.mpr ⟨x,ax.mpr hx,beq_self_eq_true _⟩,fun i hi=>h i (by rw[←En];exact hi),fun i hi=>?_⟩;have hp:2^cs.length≤2^i:=cE (by decide) hi;rw[gb (aX hm hp),gb (aX (JL cs x) hp)]
structure LC(cs:List aG)(ps:List Int):Prop where
 b:∀x∈ps,0≤x/\x<(cs.length:Int)
 r:ps.Pairwise (· < ·)
 vf:∀x,x<dy cs->∃i:Nat,((i:Nat):Int)∈ps/\iS cs x i=true
 need:∀j:Nat,((j:Nat):Int)∈ps->∃x,x<dy cs/\∀i:Nat,((i:Nat):Int)∈ps->iS cs x i=true->i=j
theorem mK{n m i:Nat}:((i:Nat):Int)∈lT n m↔i<n/\m.testBit i=false:=by
 unfold lT;rw[aj];constructor
 ·rintro⟨k,hk,e⟩;have e:k=i:=by lia
  subst e;obtain⟨h1,h2⟩:=bK.mp hk;exact⟨ax.mp h1,by simpa using h2⟩
 ·rintro⟨h1,h2⟩;exact⟨i,bK.mpr ⟨ax.mpr h1,by rw[h2];rfl⟩,rfl⟩
theorem IV{n m:Nat}:∀x∈lT n m,0≤x/\x<(n:Int):=fun x hx=>by
 obtain⟨k,hk,rfl⟩:=aj.mp hx;have:=ax.mp (bK.mp hk).1;lia
theorem IU(n m:Nat):(lT n m).Pairwise (· < ·):=by
 unfold lT;rw[cm];exact (ra.filter _).imp fun {a b} h=>by lia
theorem IT{cs:List aG}{m:Nat}(hm:m<2^cs.length):vc (jB cs) cs.length m=true↔(∀x,x<dy cs->∃i,iS cs x i=true/\m.testBit i=false)/\∀j,j<cs.length->m.testBit j=false->∃x,x<dy cs/\∀i,iS cs x i=true->i=j∨m.testBit i=true:=by
 unfold vc;rw[bQ,eY];constructor
 ·rintro⟨h1,h2⟩;constructor
  ·intro x hx;refine aK fun hn=>?_;have:jB cs m=true:=(Au hm).mpr ⟨x,hx,fun i hi=>by
    cases hb:m.testBit i with
    |true=>rfl
    |false=>exact absurd ⟨i,hi,hb⟩ hn⟩
   rw[this] at h1;cases h1
  ·intro j hj hb;have h3:=h2 j (ax.mpr hj);rw[hb,gz] at h3;obtain⟨x,hx,h4⟩:=(Au (Eo hb hm hj)).mp h3;refine⟨x,hx,fun i hi=>?_⟩;have h5:=h4 i hi;rw[xi hb,my,decide_eq_true_iff] at h5;exact h5
 ·rintro⟨h1,h2⟩;refine⟨?_,fun j hj=>?_⟩
  ·cases hw:jB cs m with
   |false=>rfl
   |true=>
    obtain⟨x,hx,h3⟩:=(Au hm).mp hw;obtain⟨i,hi,hb⟩:=h1 x hx;rw[h3 i hi] at hb;cases hb
  ·cases hb:m.testBit j with
   |true=>rfl
   |false=>
    rw[gz];have hj:=ax.mp hj;obtain⟨x,hx,h3⟩:=h2 j hj hb;refine (Au (Eo hb hm hj)).mpr ⟨x,hx,fun i hi=>?_⟩;rw[xi hb,my,decide_eq_true_iff];exact h3 i hi
theorem pG{cs:List aG}{ps:List Int}:ps∈iG cs↔LC cs ps:=by
 unfold iG;rw[aj];constructor
 ·rintro⟨m,hm,rfl⟩;obtain⟨h1,h2⟩:=bK.mp hm;have hlt:=ax.mp h1;obtain⟨h3,h4⟩:=(IT hlt).mp h2;refine⟨IV,IU _ _,fun x hx=>?_,fun j hj=>?_⟩
  ·obtain⟨i,hi,hb⟩:=h3 x hx;exact⟨i,mK.mpr ⟨Av hi,hb⟩,hi⟩
  ·obtain⟨hj1,hj2⟩:=mK.mp hj;obtain⟨x,hx,h5⟩:=h4 j hj1 hj2;refine⟨x,hx,fun i hi hr=>?_⟩;rcases h5 i hr with e|e
   ·exact e
   ·rw[(mK.mp hi).2] at e;cases e
 ·intro h;obtain⟨m,hm,hb⟩:=OH cs.length fun i=>!decide (((i:Nat):Int)∈ps);have mem:∀i:Nat,((i:Nat):Int)∈lT cs.length m↔((i:Nat):Int)∈ps:=fun i=>by
   rw[mK];constructor
   ·rintro⟨h1,h2⟩;rw[hb i h1] at h2;simpa using h2
   ·intro hi;have:=h.b _ hi;have hl:i<cs.length:=by lia
    refine⟨hl,?_⟩;rw[hb i hl,decide_eq_true hi];rfl
  have nb:∀i,i<cs.length->(m.testBit i=false↔((i:Nat):Int)∈ps):=fun i hi=>by
   rw[←mem i,mK];exact⟨fun h=>⟨hi,h⟩,fun h=>h.2⟩
  refine⟨m,bK.mpr ⟨ax.mpr hm,(IT hm).mpr ⟨fun x hx=>?_,fun j hj hbj=>?_⟩⟩,Jm (IU _ _) h.r fun z=>?_⟩
  ·obtain⟨i,hi,hr⟩:=h.vf x hx;exact⟨i,hr,(nb i (Av hr)).mpr hi⟩
  ·obtain⟨x,hx,h5⟩:=h.need j ((nb j hj).mp hbj);refine⟨x,hx,fun i hi=>?_⟩;cases hbi:m.testBit i with
   |true=>exact .inr rfl
   |false=>exact .inl (h5 i ((nb i (Av hi)).mp hbi) hi)
  ·constructor
   ·intro hz;have:=IV z hz;have e:z=((z.toNat:Nat):Int):=by lia
    rw[e] at hz ⊢;exact (mem _).mp hz
   ·intro hz;have:=h.b z hz;have e:z=((z.toNat:Nat):Int):=by lia
    rw[e] at hz ⊢;exact (mem _).mpr hz
theorem IS(cs:List aG):(iG cs).Nodup:=by
 unfold iG;show kX _ _;rw[cm];refine gQ (fun {a b} ha hb h e=>h ?_) (lq.filter _);have ha':=ax.mp (bK.mp ha).1;have hb':=ax.mp (bK.mp hb).1;refine ml fun i=>?_;by_cases hi:i<cs.length
 ·have key:((i:Nat):Int)∈lT cs.length a↔((i:Nat):Int)∈lT cs.length b:=by rw[e]
  rw[mK,mK] at key;cases h1:a.testBit i with
  |false=>exact (key.mp ⟨hi,h1⟩).2.symm
  |true=>
   cases h2:b.testBit i with
   |true=>rfl
   |false=>
    have:=(key.mpr ⟨hi,h2⟩).2;rw[h1] at this;cases this
 ·have hp:2^cs.length≤2^i:=cE (by decide) (by lia);rw[gb (aX ha' hp),gb (aX hb' hp)]
theorem Zw{cs:List aG}(hp:0<dy cs){ps:List Int}(h:LC cs ps):ps≠[]:=fun e=>by
 obtain⟨i,hi,_⟩:=h.vf 0 hp;rw[e] at hi;cases hi
def allB:Nat->List (List Bool)
 |0=>[[]]
 |n+1=>(allB n).flatMap fun l=>[true::l,false::l]
theorem Zv(n:Nat):(allB n).length=2^n:=by
 induction n with
 |zero=>rfl
 |succ n ih=>
  show ((allB n).flatMap fun l=>[true::l,false::l]).length=_;have:∀ls:List (List Bool),(ls.flatMap fun l=>[true::l,false::l]).length=ls.length*2:=fun ls=>by
   induction ls with
   |nil=>rfl
   |cons l ls ih2=>
    rw[List.flatMap_cons,aq,ih2];show 2+ls.length*2=(ls.length+1)*2;lia
  rw[this,ih,eR]
theorem IQ:∀l:List Bool,l∈allB l.length
 |[]=>aV.mpr rfl
 |b::l=>by
  show b::l∈(allB l.length).flatMap fun l=>[true::l,false::l];refine List.mem_flatMap.mpr ⟨l,IQ l,?_⟩;cases b<;>simp
def Bd(cs:List aG):Prop:=∃B:List aG,B.length≤5/\∀a∈cs,∀b∈cs,a∉B->b∉B->a≠b->∀x:Nat,¬(rg x a=true/\rg x b=true)
def vw(cs B:List aG)(ps:List Int):List Bool:=B.map fun z=>(ao cs.length).any fun i=>decide (((i:Nat):Int)∈ps)&&decide (cs[i]?=some z)
theorem IP{cs:List aG}(nd:cs.Nodup){i j:Nat}{c:aG}(h1:cs[i]?=some c)(h2:cs[j]?=some c):i=j:=
 (oG (ak.mp h1).1 nd).mp (h1.trans h2.symm)
theorem IM{cs B:List aG}(nd:cs.Nodup){ps qs:List Int}(e:vw cs B ps=vw cs B qs){j:Nat}{c:aG}(hj:cs[j]?=some c)(hc:c∈B)(h:((j:Nat):Int)∈ps):((j:Nat):Int)∈qs:=by
 have key:=List.map_inj_left.mp e c hc;have h1:((ao cs.length).any fun i=>decide (((i:Nat):Int)∈ps)&&decide (cs[i]?=some c))=true:=lr.mpr ⟨j,ax.mpr (ak.mp hj).1,by rw[decide_eq_true h,decide_eq_true hj];rfl⟩;rw[key] at h1;obtain⟨i,_,h2⟩:=lr.mp h1;rw[bQ,decide_eq_true_iff,decide_eq_true_iff] at h2;rw[IP nd hj h2.2];exact h2.1
theorem IL{cs B:List aG}(nd:cs.Nodup)(hB:∀a∈cs,∀b∈cs,a∉B->b∉B->a≠b->∀x:Nat,¬(rg x a=true/\rg x b=true)){ps qs:List Int}(hp:LC cs ps)(hq:LC cs qs)(e:vw cs B ps=vw cs B qs){j:Nat}(h:((j:Nat):Int)∈ps):((j:Nat):Int)∈qs:=by
 have hjl:j<cs.length:=by have:=hp.b _ h;lia
 have hj:=aB hjl;by_cases hc:cs[j]∈B
 ·exact IM nd e hj hc h
 refine aK fun hn=>?_;obtain⟨x,hx,hx2⟩:=hp.need j h;obtain⟨i0,hi0,hr0⟩:=hp.vf x hx;have e0:=hx2 i0 hi0 hr0;subst e0;obtain⟨i,hi,hr⟩:=hq.vf x hx;have hil:=Av hr;have hie:=aB hil;by_cases hci:cs[i]∈B
 ·have:=hx2 i (IM nd e.symm hie hci hi) hr;subst this;exact hn hi
 ·refine hB cs[i0] (i8 hjl) cs[i] (i8 hil) hc hci (fun z=>?_) x ⟨?_,?_⟩
  ·have:i0=i:=IP nd hj (z▸hie);subst this;exact hn hi
  ·rw[←El hj];exact hr0
  ·rw[←El hie];exact hr
theorem Zu{cs:List aG}(nd:cs.Nodup)(h:Bd cs):(iG cs).length<64:=by
 obtain⟨B,hB5,hB⟩:=h;have h1:((iG cs).map (vw cs B)).Nodup:=by
  show kX _ _;rw[cm];refine gQ (fun {a b} ha hb bZ e=>bZ ?_) (IS cs);have ha:=pG.mp ha;have hb:=pG.mp hb;refine Jm ha.r hb.r fun z=>⟨fun hz=>?_,fun hz=>?_⟩
  ·have:=ha.b z hz;have ez:z=((z.toNat:Nat):Int):=by lia
   rw[ez] at hz ⊢;exact IL nd hB ha hb e hz
  ·have:=hb.b z hz;have ez:z=((z.toNat:Nat):Int):=by lia
   rw[ez] at hz ⊢;exact IL nd hB hb ha e.symm hz
 have h2:((iG cs).map (vw cs B)).length≤(allB B.length).length:=h1.length_le_of_subset fun l hl=>by
  obtain⟨ps,_,rfl⟩:=aj.mp hl;have:(vw cs B ps).length=B.length:=π ..;rw[←this];exact IQ _
 rw[π,Zv] at h2;have h3:2^B.length≤2^5:=cE (by decide) hB5;lia
theorem Zt{α:Type}{a:α}:∀{l:List α},l.Nodup->a∈l->(∀b∈l,b=a)->l=[a]
 |[],_,h,_=>by cases h
 |[x],_,_,h=>by rw[h x χ]
 |x::y::l,nd,_,h=>by
  have h1:=h x χ;have h2:=h y (ψ _ χ);have:=(dm.mp nd).1;rw[h1,h2] at this;exact absurd χ this
end My
namespace My
open PySem L2 L3
structure Rt(cs:List aG):Prop where
 sm:wb cs
 r:qU cs
 l:cs.length≤12
 bd:Bd cs
theorem Rt.s{cs:List aG}(h:Rt cs):aaL cs:=⟨fun c hc=>⟨(h.sm c hc).1,by have:=(h.sm c hc).2.1;lia⟩,h.l,aA (jh (by decide) (QZ (d:=720) (Nat.one_dvd _) fun c hc=>by
 have h0:=(h.sm c hc).1.1;refine gY.mp ?_;rw[jz (by lia)];exact (h.sm c hc).2.2)) (by decide)⟩
theorem Rt.nd{cs:List aG}(h:Rt cs):cs.Nodup:=PX h.r
theorem Rt.pos{cs:List aG}(h:Rt cs):0<dy cs:=JH fun z hz=>(h.sm z hz).1.1
theorem Rt.len{cs:List aG}(h:Rt cs):(iG cs).length<64:=Zu h.nd h.bd
theorem Rt.ne{cs:List aG}(h:Rt cs):∀ns∈iG cs,ns≠[]:=fun ns hn=>Zw h.pos (pG.mp hn)
theorem Zs{cs:List aG}(ho:zE cs)(hv:∀z∈cs,Valid z){a b:aG}(ha:a∈cs)(hb:b∈cs)(bZ:a≠b)(x:Nat):¬(rg x a=true/\rg x b=true):=by
 rintro⟨h1,h2⟩;obtain⟨y,hy⟩:=kS.mp (ho (x:Int));have m1:a∈cs.filter (eV (x:Int)):=bK.mpr ⟨ha,by rw[D5 (hv a ha)];exact h1⟩;have m2:b∈cs.filter (eV (x:Int)):=bK.mpr ⟨hb,by rw[D5 (hv b hb)];exact h2⟩;rw[hy,aV] at m1 m2;exact bZ (m1.trans m2.symm)
def yF:dJ:=fun ds G Q=>∃p:ζ,ds=[.obj p]/\G p=some .ny/\∀cs,Rt cs->Q (fW cs) G
def Zr:az:=rT (eM Bm (υ 1) (ο (fH (ο (υ 3) (ο (bA kO (ο (υ 0) (ο (υ 3) (ae)))) (ae)))) (ae)))
def Zq:az:=bH (ck (rz (ο (eC (.int 1)) (ο (eC (.int 2)) (ο (eC (.int 3)) (ο (eC (.int 4)) (ο (eC (.int 6)) (ae)))))) (bA kO (ο (υ 0) (ο (eC (.int 5)) (ae))))) (hName 3)) Zr
def Zp:az:=cz (eH t8 (ο (sT (sC (υ 1)) (lR) (kl (eC (.int 8)))) (ae)))
def ZZ:az:=bH (hX (iX (ο (bA kO (ο (υ 0) (ο (eC (.int 4)) (ae)))) (ae))) (hName 2) (Zq)) Zp
def IK:az:=bH (ck (sT (bA xk (ο (υ 0) (ο (bx gU (eC (.int 1)) (bA kO (ο (υ 0) (ο (eC (.int 3)) (ae))))) (ae)))) (lR) (kl (eC (.int 6)))) (hName 1)) ZZ
theorem ZY:∀ds G Q,yF ds G Q->IK (bf Q) (bc ["pen","found","turn","step"] ds) G:=by
 rintro ds G Q ⟨pp,rfl,hpp,q⟩;refine⟨pp,3,rfl,hpp,⟨by decide,jR (by decide) (by decide)⟩,fun r r1 r2=>⟨pp,1+r,rfl,hpp,⟨by lia,by lia⟩,fun q1 as G1 hP l1 l2 n1=>⟨_,n1.at_,fun q2 G2 n2=>?_⟩⟩⟩;rw[rX,show (some (6:Int))=some ((6:Nat):Int) from rfl,xp] at n2;have m2:eD G q2 (.lst ((as.take 6).map cD)) G2:=⟨n1.sub.of_none n2.aC,n1.sub.trans n2.sub,n2.at_⟩;have hpp2:=m2.sub _ _ hpp;refine⟨pp,4,rfl,hpp2,⟨by decide,jR (by decide) (by decide)⟩,fun t t1 t2=>⟨⟨by lia,by lia⟩,?_⟩⟩;refine nv (fun ds τ G'=>∃(bs:List aG) (x2 x3:Option D),τ=[some (.obj pp),some (.obj q2),x2,x3]/\eD G q2 (.lst ((as.take 6++bs).map cD)) G'/\wb bs/\bs.length+ds.length≤3) (fun _ _ _ _=>trivial) ?_ ?_ _ _ _ ⟨[],_,_,rfl,by rw[bh];exact m2,nofun,?_⟩
 ·rintro d ds τ G3 N ⟨bs,x2,x3,rfl,m3,okb,hb⟩ hN;have hpp3:=m3.sub _ _ hpp;have e3:=m3.at_;refine⟨pp,5,rfl,hpp3,⟨by decide,jR (by decide) (by decide)⟩,fun u u1 u2=>?_⟩;obtain⟨stp,hm,es⟩:=AB (ns:=[1,2,3,4,6]) u1 u2;have hs:(1≤stp/\stp≤24)/\stp∣720:=by
   simp at hm;rcases hm with rfl|rfl|rfl|rfl|rfl<;>decide
  refine⟨.int stp,es,⟨q2,_,rfl,e3⟩,pp,stp,rfl,hpp3,⟨by lia,jR (by lia) (by lia)⟩,fun v v1 v2=>?_⟩;simp only[aL] at hb;have htl:(as.take 6).length≤6:=by rw[bW];lia
  refine⟨_,e3,by rw[π,aq];exact fc (show (as.take 6).length+bs.length≤20 by lia) (by decide),?_⟩;refine hN _ _ ⟨bs++[(stp,v)],_,_,rfl,?_,fun c hc=>?_,by rw[aq];simp;lia⟩
  ·have:=wrote (o':=.lst ((as.take 6++bs).map cD++[D.tup [.int stp,.int v]])) m3;rw[show (as.take 6++(bs++[(stp,v)])).map cD=(as.take 6++bs).map cD++[D.tup [.int stp,.int v]] by rw[←fC,cg];rfl];exact this
  ·rcases bL.mp hc with hc|hc
   ·exact okb c hc
   ·rw[aV.mp hc];exact⟨⟨by show 0<stp;lia,v1,v2⟩,hs.1.2,hs.2⟩
 ·rintro τ G3 ⟨bs,x2,x3,rfl,m3,okb,hb⟩;have htl:(as.take 6).length≤6:=by rw[bW];lia
  refine⟨_,DZ m3.at_,by rw[π,aq];simp at hb;lia,D0,fun p4 mss G4 n4 hmem nd hr hl4=>?_⟩;obtain⟨us,rfl,hmem2,hr2,hl2⟩:=JZ hmem nd hr hl4;rw[AA] at n4;refine⟨_,n4.at_,fun p5 G5 n5=>⟨_,n5.at_,?_⟩⟩;rw[rX,show (some (8:Int))=some ((8:Nat):Int) from rfl,xp];have hmm:∀z∈us.take 8,z∈as∨z∈bs:=fun z hz=>by
   rcases bL.mp ((hmem2 z).mp (eF hz)) with h|h
   ·exact .inl (eF h)
   ·exact .inr h
  refine mH (m3.sub.trans (n4.sub.trans n5.sub)) (q (us.take 8) ⟨fun c hc=>?_,hr2.take 8,by rw[bW];lia,bs,by simp at hb;lia,fun a ha b hb' na nb bZ x=>?_⟩)
  ·rcases hmm c hc with h|h
   ·exact hP.1 c h
   ·exact okb c h
  ·rcases hmm a ha with h1|h1
   ·rcases hmm b hb' with h2|h2
    ·exact Zs hP.2.1 (fun z hz=>(hP.1 z hz).1) h1 h2 bZ x
    ·exact absurd h2 nb
   ·exact absurd h1 na
 ·show ([]:List aG).length+(iF 0 t.toNat).length≤3;rw[vN];simp;lia
theorem As{cs:List aG}(h:cs.length≤6):Bd cs:=by
 refine⟨cs.tail,by rw[List.length_tail];lia,fun a ha b hb na nb bZ x=>?_⟩;exfalso;cases cs with
 |nil=>cases ha
 |cons c cs=>
  have e1:a=c:=by
   rcases Δ.mp ha with e|e
   ·exact e
   ·exact absurd e na
  have e2:b=c:=by
   rcases Δ.mp hb with e|e
   ·exact e
   ·exact absurd e nb
  exact bZ (e1.trans e2.symm)
end My
namespace My
open PySem PySem.Spec PyProof.Rows L2 L3
section
variable {prog:Ω} {w:ah} {A:aE} {R:Result->η->Prop} {I:ζ} {fp wr:List ζ} {Gs:Array ly->Array ly->Prop} {n:Nat} {P:Nat->ε->Prop} {St:Nat->η->Prop}
theorem ZX(W:rL prog w A.in1 I fp wr Gs n P St)(bt:Nat->Nat->Bool)(S:ζ)(hSf:S∉fp)(s0:η)
  (zu:∀(i j:Nat) (v u:ε) (s':η),P i v->P j u->dU (S::wr) Gs s0 s'->∀(Q:ε->η->Prop) (E:ε->η->Prop),Q (.bool (bt i j)) s'->ξ (model prog w) A.in1 (ie .Lt v u) Q E s'):
  ∀(k j:Nat) (s:η) (vb:ε) (c:Nat),n-(j+1)=k->j+1≤n->St (j+1) s->P (argBest bt j) vb ->
  s.heap.get? S=some { cls:=.type "list",dict:=none,data:=.seq #[vb,vb] c,slots:=#[]}->dU (S::wr) Gs s0 s ->
  (∀v s',P (argBest bt (n-1)) v->dU (S::wr) Gs s s'->R (.ok (.ret v)) s')->fA (model prog w) A (.builtin "min.loop" ⟨[.ref I,.none,.ref S],[]⟩) R s:=by
 have hSw:S∉wr:=fun h=>hSf (W.sub _ h);have hsub:∀b∈wr,b∈S::wr:=fun b hb=>ψ _ hb;have hname:(toString "min" ++ toString ".loop":String)="min.loop":=by decide
 have notS:∀{b:ζ},b∉S::wr->S≠b:=fun hb h=>hb (by rw[h];exact χ);intro k
 induction k with
 |zero=>
  intro j s vb c hk hj hst hPb hS hM hR;have hin:j+1=n:=by lia
  refine cJ F.entry_min_loop ?_;rw[bX F.plain_min_loop _];show ξ _ A.in1 (seqItems? (.ref S) >>= _) _ _ s;refine δ (bY hS rfl ?_);show ξ _ A.in1 (tryCatch (pyNext (.ref I)) _ >>= _) _ _ s;refine δ (dD (W.done s _ _ (hin▸hst) fun s' hm=>?_));have hS':=hm.heap S _ hSw hS;show ξ _ A.in1 (updateSeq S (fun _=>#[]) >>= _) _ _ _;refine δ ?_;refine fq hS' rfl (δ (eQ (μ ?_)));exact hR vb _ (by rw[←hin];exact hPb) ((hm.mono hsub).then_heap (tk:=s'.toks) (Θ _) fun b o hb e=>(ay _ _ (notS hb)).trans e)
 |succ k ih=>
  intro j s vb c hk hj hst hPb hS hM hR;have hlt:j+1<n:=by lia
  refine cJ F.entry_min_loop ?_;rw[bX F.plain_min_loop _];show ξ _ A.in1 (seqItems? (.ref S) >>= _) _ _ s;refine δ (bY hS rfl ?_);show ξ _ A.in1 (tryCatch (pyNext (.ref I)) _ >>= _) _ _ s;refine δ (dD (W.item (j+1) s _ _ hlt hst fun v s' hP hst' hm=>?_));have hS':=hm.heap S _ hSw hS;have hM':dU (S::wr) Gs s0 s':=fj W.gtrans hM (hm.mono hsub);show ξ _ A.in1 (tryCatch (holding [v,v] (ie .Lt v vb >>= _)) _ >>= _) _ _ _;refine δ (dD (aZ (δ (zu (j+1) (argBest bt j) v vb s' hP hPb hM' _ _ ?_))));refine δ (aZ (fx ?_));refine δ (eQ (μ ?_));cases hb:bt (j+1) (argBest bt j) with
  |true=>
   simp only[if_true];refine δ ?_;refine fq hS' rfl (δ (eQ ?_));rw[hname];have hM3:dU (S::wr) Gs s { s' with heap:=s'.heap.update S (bq fun _=>#[v,v])}:=(hm.mono hsub).then_heap (tk:=s'.toks) (Θ _) fun b o hb e=>(ay _ _ (notS hb)).trans e;refine μ ⟨dC F.plain_min_loop _,ih (j+1) _ v _ (by lia) hlt (W.frame _ s' _ s'.toks hst' (Θ _) fun b hbf o e=>?_) (by simp only[argBest,hb,if_true];exact hP) (bu _ hS' rfl) (fj W.gtrans hM hM3)
    fun v' s'' hP' hm''=>?_⟩
   ·exact (ay _ _ (fun h:S=b=>hSf (by rw[h];exact hbf))).trans e
   ·exact hR v' s'' hP' (fj W.gtrans hM3 hm'')
  |false=>
   simp only[cI,if_false];refine δ (eQ ?_);rw[hname];refine μ ⟨dC F.plain_min_loop _,ih (j+1) _ vb c (by lia) hlt hst' (by simp only[argBest,hb,cI,if_false];exact hPb) hS' hM' fun v' s'' hP' hm''=>?_⟩;exact hR v' s'' hP' (fj W.gtrans (hm.mono hsub) hm'')
theorem ZW(W:rL prog w A.in1 I fp wr Gs n P St)(bt:Nat->Nat->Bool)(S:ζ)(hSf:S∉fp)(hn:0<n){s:η}{c:Nat}(hst:St 0 s)
  (hS:s.heap.get? S=some { cls:=.type "list",dict:=none,data:=.seq #[] c,slots:=#[]})
  (zu:∀(i j:Nat) (v u:ε) (s':η),P i v->P j u->dU (S::wr) Gs s s'->∀(Q:ε->η->Prop) (E:ε->η->Prop),Q (.bool (bt i j)) s'->ξ (model prog w) A.in1 (ie .Lt v u) Q E s')
  (hR:∀v s',P (argBest bt (n-1)) v->dU (S::wr) Gs s s'->R (.ok (.ret v)) s'):fA (model prog w) A (.builtin "min.loop" ⟨[.ref I,.none,.ref S],[]⟩) R s:=by
 have hSw:S∉wr:=fun h=>hSf (W.sub _ h);have hsub:∀b∈wr,b∈S::wr:=fun b hb=>ψ _ hb;have hname:(toString "min" ++ toString ".loop":String)="min.loop":=by decide
 have notS:∀{b:ζ},b∉S::wr->S≠b:=fun hb h=>hb (by rw[h];exact χ);refine cJ F.entry_min_loop ?_;rw[bX F.plain_min_loop _];show ξ _ A.in1 (seqItems? (.ref S) >>= _) _ _ s;refine δ (bY hS rfl ?_);show ξ _ A.in1 (tryCatch (pyNext (.ref I)) _ >>= _) _ _ s;refine δ (dD (W.item 0 s _ _ hn hst fun v s' hP hst' hm=>?_));have hS':=hm.heap S _ hSw hS;show ξ _ A.in1 (updateSeq S (fun _=>#[v,v]) >>= _) _ _ _;refine δ ?_;refine fq hS' rfl ?_;rw[hname];have hM3:dU (S::wr) Gs s { s' with heap:=s'.heap.update S (bq fun _=>#[v,v])}:=(hm.mono hsub).then_heap (tk:=s'.toks) (Θ _) fun b o hb e=>(ay _ _ (notS hb)).trans e;refine μ ⟨dC F.plain_min_loop _,ZX W bt S hSf s zu _ 0 _ v _ rfl hn (W.frame _ s' _ s'.toks hst' (Θ _) fun b hbf o e=>?_) hP (bu _ hS' rfl) hM3 fun v' s'' hP' hm''=>?_⟩
 ·exact (ay _ _ (fun h:S=b=>hSf (by rw[h];exact hbf))).trans e
 ·exact hR v' s'' hP' (fj W.gtrans hM3 hm'')
theorem ZV{E:ε->η->Prop}{s:η}{x:ε}{Q:ε->η->Prop}
  (h:ξ (model prog w) A.in1 (pyIter x) (fun it s₂=>∃I fp wr Gs n P St bt,it=.ref I/\rL prog w A.in1 I fp wr Gs n P St/\St 0 s₂/\(∀b∈fp,b<s₂.heap.objs.size)/\0<n ∧
   (∀(i j:Nat) (v u:ε) (s':η),P i v->P j u->dU wr Gs s₂ s'->∀(Q:ε->η->Prop) (E:ε->η->Prop),Q (.bool (bt i j)) s'->ξ (model prog w) A.in1 (ie .Lt v u) Q E s') ∧
   ∀v s',P (argBest bt (n-1)) v->dU wr Gs s₂ s'->Q v s') E s):
  ξ (model prog w) A (call (.builtin "min") [x]) Q E s:=by
 have hname:(toString "min" ++ toString ".loop":String)="min.loop":=by decide
 refine call_function_tree F.kind_min F.plain_min F.entry_min (F.args_min1 _) ?_;show ξ _ A.in1 (gj "min" ["key","default"] 0 ⟨[],[]⟩ >>= _) _ _ s;refine δ (ib (show gj "min" ["key","default"] 0 ⟨[],[]⟩=pure [none,none] from rfl) ?_);refine δ (μ ?_);refine δ (cb h (fun it s₂ h₂=>?_) fun _ _ e=>e);obtain⟨I,fp,wr,Gs,n,P,St,bt,rfl,W,hst,hfp,hn,zu,hQ⟩:=h₂;refine δ (bG ?_);have hSf:s₂.heap.objs.size∉fp:=fun hm=>bU _ (hfp _ hm);rw[hname];refine μ ⟨dC F.plain_min_loop _,ZW W bt s₂.heap.objs.size hSf hn (W.frame 0 s₂ _ s₂.toks hst (Θ _) fun b _ o e=>ι _ e) (af _ rfl) (fun i j v u s' h1 h2 hm=>zu i j v u s' h1 h2 (mV (tk:=s₂.toks) hm (Θ _))) fun v s' hP hm=>?_⟩;exact hQ v s' hP (mV (tk:=s₂.toks) hm (Θ _))
end
abbrev Pr:=Int×List Int
def pD(q:Pr):D:=.tup [.int q.1,tupI q.2]
def pX(q:Pr):Dat.D:=.tup [.int q.1,tX q.2]
def lC(q r:Pr):Bool:=if q.1=r.1 then HT.lexLt q.2 r.2 else decide (q.1<r.1)
theorem Ar:∀xs:List Int,HT.lexLt xs xs=false
 |[]=>rfl
 |x::xs=>by
  rw[HT.si,if_pos rfl];exact Ar xs
section
open PySem.SeqAt
open PySem.AutoSeq1 (wpAny_loadPart')
open PySem.MeetsSeq PySem.MeetsSeq2 PySem.MeetsSeq3
theorem ZU(l b l2 b2:ζ)(q r:Pr)(t u:Tok)(n n2:Nat)(dd dd2:Option ζ)(sl sl2:Array (Option ε))(its its2:List ε)(hi:ff its q.2)(hj:ff its2 r.2):
  PySem.Meets (cS.«tuple.__lt__» ⟨[.ref l,.ref b],[]⟩)
   (fun A R s=>s.heap.get? l=some { cls:=.type "tuple",dict:=dd,data:=.seq #[.int q.1 t,.ref l2] n,slots:=sl }/\s.heap.get? b=some { cls:=.type "tuple",dict:=dd2,data:=.seq #[.int r.1 u,.ref b2] n2,slots:=sl2 } ∧
    iB s.heap l2 its.toArray/\iB s.heap b2 its2.toArray/\Dat.Hv s.heap (tX q.2) (.ref l2)/\Dat.Hv s.heap (tX r.2) (.ref b2)/\A.units+10<cLine/\R (.ok (.ret (.bool (lC q r)))) s):=
 .of_wp fun prog w A R s h=>by
  obtain⟨hp,g,d,tk,os⟩:=s;obtain⟨hl,hb,y1,y2,y3,y4,hu,h⟩:=h;have f2:=qd;wp_walk using wpAny_loadPart' hl,wpAny_loadPart' hb,i5 _ (fun rest b s'=>b.1=none/\s'=⟨hp,g,d,tk,os⟩/\(rest=[(lE q.1 t,lE r.1 u),(.ref l2,.ref b2)]∨(rest=[(.ref l2,.ref b2)]/\q.1=r.1)∨(rest=[]/\q.1=r.1/\q.2=r.2))) _
  case turn=>
   rintro⟨y,x⟩ rest b s' ⟨hb',rfl,hz⟩;rcases hz with hz|⟨hz,e1⟩|⟨hz,_⟩
   ·injection hz with hyx hrest;injection hyx with hy hx;subst hy hx hrest;obtain⟨e,he,hiff⟩:=HT.zy A.in1 ⟨hp,g,d,tk,os⟩ q.1 t r.1 u;refine δ (he prog w _ _ ?_);cases e with
    |true=>
     wp_walk;exact⟨rfl,rfl,.inr (.inl ⟨rfl,hiff.mp rfl⟩)⟩
    |false=>
     have bZ:¬q.1=r.1:=fun q=>absurd (hiff.mpr q) ar;have hri:=HT.yy A.in1 ⟨hp,g,d,tk,os⟩ q.1 t r.1 u prog w;unfold lC at h;rw[if_neg bZ] at h;wp_walk using hri;exact⟨_,rfl,by simpa using h⟩
   ·injection hz with hyx hrest;injection hyx with hy hx;subst hy hx hrest;have he:=Dat.vZ (s:=⟨hp,g,d,tk,os⟩) (tX q.2) (tX r.2) (.ref l2) (.ref b2) A.in1 y3 y4 (by
     show A.units+1+(Dat.fI (q.2.map Dat.D.int)+1)+1<cLine;rw[DT];lia)
    rw[DU] at he;refine δ (he prog w _ _ ?_);by_cases e2:q.2=r.2
    ·rw[decide_eq_true e2];wp_walk;exact⟨rfl,rfl,.inr (.inr ⟨rfl,e1,e2⟩)⟩
    ·rw[decide_eq_false e2];have hri:∀(E:ε->η->Prop) (Q:ε->η->Prop),Q (.bool (HT.lexLt q.2 r.2)) ⟨hp,g,d,tk,os⟩->ξ (model prog w) A.in1 (ie .Lt (.ref l2) (.ref b2)) Q E ⟨hp,g,d,tk,os⟩:=fun E Q hq=>
      HT.wC (s:=⟨hp,g,d,tk,os⟩) y1 y2 (by simpa using hi) (by simpa using hj) (by show A.units+1<cLine;lia) hq
     unfold lC at h;rw[if_pos e1] at h;wp_walk using hri;exact⟨_,rfl,by simpa using h⟩
   ·cases hz
  case fin=>
   rintro⟨b1,b2'⟩ s' ⟨hb',rfl,hz⟩;simp only at hb';subst hb';rcases hz with hz|⟨hz,e1⟩|⟨hz,e1,e2⟩
   ·cases hz
   ·cases hz
   ·unfold lC at h;rw[if_pos e1,e2,Ar] at h;wp_walk;exact⟨_,rfl,by simpa [lH] using h⟩
  case h=>
   exact⟨rfl,rfl,.inl rfl⟩
end
theorem IJ{h:Ψ}:∀{ns:List Int} {us:List ε},Dat.aF h (ns.map Dat.D.int) us->ff us ns
 |[],us,e=>by
  rw[uy] at e;unfold Dat.aF at e;subst e;exact .nil
 |n::ns,us,e=>by
  rw[bP] at e;unfold Dat.aF at e;obtain⟨u,r,rfl,h1,h2⟩:=e;unfold Dat.Hv at h1;obtain⟨t,rfl⟩:=h1;exact .cons n t (IJ h2)
theorem Ek{h:Ψ}{ns:List Int}{v:ε}(e:Dat.Hv h (tX ns) v):∃(a:ζ) (its:List ε),v=.ref a/\iB h a its.toArray/\ff its ns:=by
 unfold tX at e;unfold Dat.Hv at e;obtain⟨a,its,rfl,⟨o,h1,h2,h3⟩,h4⟩:=e;exact⟨a,its,rfl,⟨o,h1,h2,h3⟩,IJ h4⟩
theorem II{h:Ψ}{q:Pr}{v:ε}(e:Dat.Hv h (pX q) v):∃(a l2:ζ) (t:Tok) (o:aP) (n:Nat),v=.ref a/\h.get? a=some o/\o.cls=.type "tuple"/\o.data=.seq #[.int q.1 t,.ref l2] n/\Dat.Hv h (tX q.2) (.ref l2):=by
 unfold pX at e;unfold Dat.Hv at e;obtain⟨a,its,rfl,⟨o,h1,h2,n,h3⟩,h4⟩:=e;unfold Dat.aF at h4;obtain⟨u,r,rfl,h5,h6⟩:=h4;unfold Dat.aF at h6;obtain⟨u2,r2,rfl,h7,h8⟩:=h6;unfold Dat.aF at h8;subst h8;unfold Dat.Hv at h5;obtain⟨t,rfl⟩:=h5;obtain⟨l2,its2,rfl,_,_⟩:=Ek h7;exact⟨a,l2,t,o,n,rfl,h1,h2,h3,h7⟩
theorem ZT{prog:Ω}{w:ah}{A:aE}{E:ε->η->Prop}{Q:ε->η->Prop}{s:η}{q r:Pr}{u v:ε}(h1:Dat.Hv s.heap (pX q) u)(h2:Dat.Hv s.heap (pX r) v)(hu:A.units+10<cLine)(h:Q (.bool (lC q r)) s):
  ξ (model prog w) A (ie .Lt u v) Q E s:=by
 obtain⟨l,l2,t,⟨cls,dd,data,sl⟩,n,rfl,ho,hc,hd,y1⟩:=II h1;obtain⟨b,b2,t2,⟨cls2,dd2,data2,sl2⟩,n2,rfl,ho2,hc2,hd2,y2⟩:=II h2;simp only at hc hd hc2 hd2;subst hc hd hc2 hd2;obtain⟨_,its,e1,z1,z2⟩:=Ek y1;obtain⟨_,its2,e2,z3,z4⟩:=Ek y2;cases e1;cases e2;exact richCompare_meets_room (op:=.Lt) ⟨_,ho,rfl⟩ ⟨_,ho2,rfl⟩ rP qY (qg _ _) (ZU l b l2 b2 q r t t2 n n2 dd dd2 sl sl2 its its2 z2 z4)
  ⟨ho,ho2,z1,z3,y1,y2,hu,show dN (lC q r)≠sJ/\Q (.bool (lC q r)) s from⟨(fun x=>nomatch x),h⟩⟩ (by lia)
theorem Aq:∀x y:List Int,HT.lexLt x y=gp.lx x y
 |[],[]=>rfl
 |[],_::_=>rfl
 |_::_,[]=>rfl
 |x::xs,y::ys=>by
  rw[HT.si,gp.lx,Aq xs ys]
theorem ZS{x y z:List Int}(h1:gp.lx x y=true)(h2:gp.lx y z=true):gp.lx x z=true:=by
 cases h:gp.lx x z with
 |true=>rfl
 |false=>
  have:=gp.zl h (gp.zm h1);rw[h2] at this;cases this
theorem ZR(q:Pr):lC q q=false:=by
 unfold lC;rw[if_pos rfl,Ar]
theorem ZQ{q r s:Pr}(h1:lC q r=true)(h2:lC r s=true):lC q s=true:=by
 unfold lC at h1 h2 ⊢;rw[Aq] at h1 h2 ⊢;by_cases e1:q.1=r.1
 ·rw[if_pos e1] at h1;by_cases e2:r.1=s.1
  ·rw[if_pos e2] at h2;rw[if_pos (e1.trans e2)];exact ZS h1 h2
  ·rw[if_neg e2,decide_eq_true_iff] at h2;rw[if_neg (by lia),decide_eq_true_iff];lia
 ·rw[if_neg e1,decide_eq_true_iff] at h1;by_cases e2:r.1=s.1
  ·rw[if_neg (by lia),decide_eq_true_iff];lia
  ·rw[if_neg e2,decide_eq_true_iff] at h2;rw[if_neg (by lia),decide_eq_true_iff];lia
theorem IH{bt:Nat->Nat->Bool}(tr:∀i j k,bt i j=true->bt j k=true->bt i k=true)(ir:∀i,bt i i=false):∀n,argBest bt n≤n/\∀j,j≤n->bt j (argBest bt n)=false
 |0=>⟨Θ _,fun j hj=>by
  have:j=0:=by lia
  rw[this];exact ir 0⟩
 |n+1=>by
  obtain⟨h1,h2⟩:=IH tr ir n;cases hb:bt (n+1) (argBest bt n) with
  |true=>
   have e:argBest bt (n+1)=n+1:=by simp only[argBest,hb,if_true]
   rw[e];refine⟨Θ _,fun j hj=>?_⟩;by_cases ej:j=n+1
   ·rw[ej];exact ir _
   ·cases h:bt j (n+1) with
    |false=>rfl
    |true=>
     have:=h2 j (by lia);rw[tr _ _ _ h hb] at this;cases this
  |false=>
   have e:argBest bt (n+1)=argBest bt n:=by simp only[argBest,hb,cI,if_false]
   rw[e];refine⟨by lia,fun j hj=>?_⟩;by_cases ej:j=n+1
   ·rw[ej];exact hb
   ·exact h2 j (by lia)
theorem IG(q:Pr):iE (pD q)=some (pX q):=by
 have h:iE (tupI q.2)=some (tX q.2):=Ay (G:=fun _=>none) q.2;simp only[pD,pX,iE,dP,h]
section
variable {X:Cx} {K:θ} {e:ρ} {es:List ρ} {t:cM} {pos p:aO}
theorem Ze(hc:X.calm=true)(hu:X.A.units+64<cLine):jI X (.builtin "min") (fun vs H Q=>∃(a:ζ) (xs:List V) (qs:List Pr),vs=[.ref a]/\fM X.K H a xs/\aF X.K H (qs.map pD) xs/\0<qs.length/\∀q x,q∈qs->Hv X.K H (pD q) x->(∀r∈qs,lC r q=false)->Q x H):=by
 intro pins s σ H vs us Q I r h;obtain⟨a,xs,qs,rfl,hl,hx,h0,q⟩:=h;obtain⟨u,rfl,ru⟩:=vals1 r;cases ru;refine ZV (Fb hc I hl fun its I' rv W h1 h2 h3 back=>?_);have h4:its.length=qs.length:=by rw[←rv.length,←hx.length,π]
 have hg:∀i (hi:i<qs.length),qs.getD i (0,[])=qs[i]:=fun i hi=>by
  rw[gx,aB hi];rfl
 have hP:∀(i:Nat) (v:ε),its[i]?=some v->∃x,Hv X.K H (pD (qs.getD i (0,[]))) x/\RelV x v/\qs.getD i (0,[])∈qs:=by
  intro i v hv;have hi:i<qs.length:=by
   have:=(ak.mp hv).1;lia
  obtain⟨x,z1,z2⟩:=Er (i:=i) (d:=pD qs[i]) hx (by rw[aI,aB hi];rfl);obtain⟨u',z3,z4⟩:=rv.get z1;rw[hv] at z3;cases z3;rw[hg i hi];exact⟨x,z2,z4,i8 hi⟩
 refine⟨I',_,_,_,_,_,_,fun i j=>lC (qs.getD i (0,[])) (qs.getD j (0,[])),rfl,W,⟨h1,h2⟩,h3,by lia,fun i j v u s' pv pu hm Q E hq=>?_,fun v s' hv hm=>?_⟩
 ·obtain⟨x,a1,a2,_⟩:=hP i v pv;obtain⟨y,b1,b2,_⟩:=hP j u pu;have J:=back s' hm;exact ZT (qG J a1 a2 (IG _)) (qG J b1 b2 (IG _)) (by show X.A.units+1+10<cLine;lia) hq
 ·obtain⟨x,a1,a2,a3⟩:=hP _ v hv;refine⟨x,H,back s' hm,a2,q _ x a3 a1 fun r hr=>?_⟩;obtain⟨j,hj,ej⟩:=gV hr;have:=(IH (bt:=fun i j=>lC (qs.getD i (0,[])) (qs.getD j (0,[]))) (fun i j k=>ZQ) (fun i=>ZR _) (its.length-1)).2 j (by lia);rw[hg j hj,ej] at this;exact this
def Ej:C3:=fun ds G Q=>match ds with
 |[.obj a]=>∃qs:List Pr,G a=some (.lst (qs.map pD))/\0<qs.length/\∀q,q∈qs->(∀r∈qs,lC r q=false)->Q (pD q) G
 |_=>False
theorem Zd:sF K Ej (fun vs H Q=>∃(a:ζ) (xs:List V) (qs:List Pr),vs=[.ref a]/\fM K H a xs/\aF K H (qs.map pD) xs/\0<qs.length/\∀q x,q∈qs->Hv K H (pD q) x->(∀r∈qs,lC r q=false)->Q x H):=fun ds vs G H Q3 Q h RG q k=>by
 rcases ds with _|⟨d,_|⟨d2,ds⟩⟩
 ·exact q.elim
 ·obtain⟨v,rfl,hv⟩:=sx h;cases d with
  |obj a=>
   obtain⟨qs,e1,h0,q⟩:=q;obtain⟨xs,e2,e3⟩:=RG a _ e1;rw[ip hv];exact⟨a,xs,qs,rfl,.of e2,e3,h0,fun p x hp hx hm=>k x H (pD p) G hx (.refl H G) RG (q p hp hm)⟩
  |_=>exact q.elim
 ·cases d<;>exact q.elim
theorem Zc(hu:X.A.units+64<cLine)(hm:X.mg "min" = none)(ha:QA X (e::es) t)(hc:X.calm=true:=by rfl)(hg:Gl X "min":=by rfl)(he:notStar e=true:=by rfl)(hpl:es.all notStar=true:=by rfl):
  QE X (.Call (.Name "min" p) (e::es) [] pos) (eH Ej t):=⟨v7 Zd (qJ (Ze hc hu) hg hm rfl ha.of (he:=eB he) (hpl:=kD hpl))⟩
end
end My
namespace My
open PySem L2 L3
theorem sub_one{p:ζ}{o:GO}{G':Gp}(h:G' p=some o):Sub (dG eW p o) G':=fun b u e=>by
 by_cases z:b=p
 ·subst z;rw[jT] at e;rw[h];exact e
 ·rw[mE z] at e;cases e
theorem IF{p:ζ}{ds:List D}(h:jU ds=true):uS (dG eW p (.lst ds)):=fun a o e=>by
 by_cases z:a=p
 ·subst z;rw[jT] at e;cases e;exact h
 ·rw[mE z] at e;cases e
theorem DQ{α:Type}(f:α->D)(h:∀x,jE (f x)=true):∀xs:List α,jU (xs.map f)=true
 |[]=>by simp[jU]
 |x::xs=>by simp[jU,h x,DQ f h xs]
theorem Zb(f:Nat->Nat)(n:Nat):jU (jo f n)=true:=DQ (fun x=>nD (f x)) (fun _=>by simp[jE,nD]) _
theorem Za(f:Nat->Bool)(n:Nat):jU (gB f n)=true:=DQ (fun x=>D.bl (f x)) (fun _=>by simp[jE]) _
def yE:nB:=fun ds Q E=>∃cs:List aG,ds=[fW cs,.dW (fY cs.length)]/\vk cs/\(dy cs≤10000->∀p,Q (.obj p) (dG eW p (.lst (jo (lA cs) (dy cs)))))/\(10000<dy cs->GB E (dy cs))
def Y9(E:E3):az:=Al (υ 3) (υ 6) (υ 5) (· + ·)
def Y8(E:E3):az:=hX (BB (ο (bx fG (υ 4) (eC (.int 1))) (ο (υ 2) (ο (bx fG (υ 4) (eC (.int 0))) (ae))))) (hName 6) ((Y9 E))
def Y7(E:E3):az:=cz (υ 3)
def Y6(E:E3):az:=bH (hX (Bz (ο (υ 0) (ο (υ 1) (ae)))) (qQ 2 (jH (hName 4) (jH (hName 5) (uf)))) ((Y8 E))) (Y7 E)
def Y5(E:E3):az:=bH (ck (bx lJ (jv (ο (eC (.int 0)) (ae))) (υ 2)) (hName 3)) (Y6 E)
def Y4(E:E3):az:=bH (rT (rA yO E (ο (υ 2) (ο (eC (.int 10000)) (ae))))) (Y5 E)
def IE(E:E3):az:=bH (ck (bA y8 (ο (υ 0) (ae))) (hName 2)) (Y4 E)
theorem Y3:∀ds Q E,yE ds Q E->IE E (bf Q) (bc ["clocks","bits","many","marks","clock","bit","number"] ds) eW:=by
 rintro ds Q E ⟨cs,rfl,⟨ok,hl⟩,q,q2⟩;refine⟨cs,rfl,ok,by lia,((dy cs:Nat):Int),10000,rfl,fun hn G j0=>?_,fun hgt=>q2 (by lia)⟩;have hn:dy cs≤10000:=by lia
 have q:=q hn;generalize hN:dy cs=n at hn q;intro p0 G0 n0;refine⟨_,n0.at_,⟨by lia,by lia⟩,?_,fun p G1 n1=>?_⟩
 ·rw[bC];exact aA (show 1*n≤10000 by lia) (by decide)
 rw[bC,zeros] at n1;have m1:eD G p (.lst (jo (fun _=>0) n)) G1:=⟨n0.sub.of_none n1.aC,n0.sub.trans n1.sub,n1.at_⟩;refine⟨cs.map cD,fY cs.length,rfl,rfl,?_⟩;have ez:qB (cs.map cD) (fY cs.length)=(cs.zip (nj 0 cs.length)).map (fun p=>D.tup [cD p.1,mO p.2]):=by
  unfold fY;rw[Az cD mO,i7]
 rw[ez];refine nv (fun ds τ G'=>∃(zs:List aG) (i:Nat) (f:Nat->Nat) (x4 x5 x6:Option D),ds=(zs.zip (nj i zs.length)).map (fun p=>D.tup [cD p.1,mO p.2])/\τ=[some (fW cs),some (.dW (fY cs.length)),some (.int n),some (.obj p),x4,x5,x6]/\eD G p (.lst (jo f n)) G'/\(∀z∈zs,z∈cs)/\∀x,f x+pj x zs i=lA cs x) (fun _ _ _ _=>⟨rfl,rfl⟩) ?_ ?_ _ _ _ ⟨cs,0,fun _=>0,none,none,none,rfl,rfl,m1,fun _ h=>h,fun x=>pU _⟩
 ·rintro d ds τ G' N ⟨zs,i,f,x4,x5,x6,e,rfl,m2,hm,hf⟩ hN';cases zs with
  |nil=>cases e
  |cons c zs=>
   rw[aL,eX,gh,bP] at e;cases e;obtain⟨hv,h1000⟩:=ok c (hm c χ);have v1:=hv.1;have v2:=hv.2.1;have v3:=hv.2.2;refine⟨rfl,.int c.2,rfl,.int c.1,rfl,⟨by lia,by lia,by lia,by lia,v1,by lia⟩,?_⟩;show iY _ _ _ _ (rU c.2 c.1 (lW c.2 n c.1)) _ _;rw[Qd hv];refine nv (fun ds τ G'=>∃(ms:List Nat) (g:Nat->Nat) (x6:Option D),ds=ms.map nD/\τ=[some (fW cs),some (.dW (fY cs.length)),some (.int n),some (.obj p),some (cD c),some (mO i),x6]/\eD G p (.lst (jo g n)) G'/\ms.Nodup/\(∀x∈ms,x<n/\rg x c=true)/\∀x,x<n->g x=f x+(if rg x c=true/\x∉ms then 2^i else 0)) (fun _ _ _ _=>trivial) ?_ ?_ _ _ _ ⟨nums c n,f,x6,rfl,rfl,m2,Qc hv n,fun x hx=>(Km hv).mp hx,fun x hx=>?_⟩
   ·rintro d ds τ G2 N2 ⟨ms,g,x6,e,rfl,m3,nd,hr,hg⟩ hN2;cases ms with
    |nil=>cases e
    |cons x ms=>
     cases e;have nd':=dm.mp nd;obtain⟨hx,hrx⟩:=hr x χ;refine⟨_,_,m3.at_,Qa hx,?_⟩;refine⟨_,x,m3.at_,?_,?_⟩
     ·rw[Qb];exact DY hx
     ·refine hN2 _ _ ⟨ms,fun y=>if y=x then g x+2^i else g y,_,rfl,rfl,⟨m3.aC,Sub.tN m3.sub m3.aC,?_⟩,nd'.2,fun y hy=>hr y (ψ _ hy),fun y hy=>?_⟩
      ·rw[jT,←P9 hx];rfl
      ·have:=hg y hy;by_cases hyx:y=x
       ·subst hyx;rw[if_neg (fun z=>z.2 χ)] at this;rw[if_pos (⟨hrx,nd'.1⟩:rg y c=true/\y∉ms)];show (if y=y then g y+2^i else g y)=f y+2^i;rw[if_pos rfl,this];rfl
       ·show (if y=x then g x+2^i else g y)=_;rw[if_neg hyx,this];have:y∉x::ms↔y∉ms:=by simp[hyx]
        simp only[this]
   ·rintro τ G2 ⟨ms,g,x6,e,rfl,m3,nd,hr,hg⟩;have e0:ms=[]:=by cases ms with
     |nil=>rfl
     |cons z zs=>cases e
    subst e0;refine hN' _ _ ⟨zs,i+1,fun x=>f x+(if rg x c=true then 2^i else 0),_,_,_,rfl,rfl,?_,fun z hz=>hm z (ψ _ hz),fun x=>?_⟩
    ·rw[Kl (g:=g) fun x hx=>?_]
     ·exact m3
     ·rw[hg x hx];simp
    ·have:=hf x;show f x+(if rg x c=true then 2^i else 0)+pj x zs (i+1)=lA cs x;rw[←this,Nat.add_assoc];rfl
   ·rw[if_neg]
    ·rfl
    ·rintro⟨z1,z2⟩;exact z2 ((Km hv).mpr ⟨hx,z1⟩)
 ·rintro τ G' ⟨zs,i,f,x4,x5,x6,e,rfl,m2,hm,hf⟩;have e0:zs=[]:=by cases zs with
   |nil=>rfl
   |cons z zs=>
    rw[aL,eX,gh,bP] at e;cases e
  subst e0;refine mH (sub_one ?_) (q p);rw[Kl (g:=f) fun x _=>by have:=hf x;have e:pj x [] i=0:=rfl;lia];exact m2.at_
def yD:nB:=fun ds Q E=>∃cs:List aG,ds=[fW cs,.dW (fY cs.length)]/\vk cs/\(dy cs≤10000->∀p,Q (.obj p) (dG eW p (.lst (gB (jB cs) (2^cs.length)))))/\(10000<dy cs->GB E (dy cs))
def Y2(E:E3):az:=ck (eC (.bl true)) (hSub (υ 2) (υ 3))
def Y1(E:E3):az:=kA (zB (b9 (bx (fQ true) (bx yc (υ 3) (υ 4)) (eC (.int 0)))) (b9 (bx fG (υ 2) (bx yb (υ 3) (υ 4))))) (ck (eC (.bl true)) (hSub (υ 2) (υ 3))) (fJ)
def Y0(E:E3):az:=hX (iX (ο (eH oj (ο (υ 2) (ae))) (ae))) (hName 3) ((Y1 E))
def YZ(E:E3):az:=cz (υ 2)
def YY(E:E3):az:=bH (hX (iW (υ 1)) (hName 4) ((Y0 E))) (YZ E)
def YX(E:E3):az:=bH (hX (iW (wH yE E (ο (υ 0) (ο (υ 1) (ae))))) (hName 3) ((Y2 E))) (YY E)
def ID(E:E3):az:=bH (ck (bx lJ (jv (ο (eC (.bl false)) (ae))) (bA xh (ο (eH oj (ο (υ 0) (ae))) (ae)))) (hName 2)) (YX E)
theorem YW:∀ds Q E,yD ds Q E->ID E (bf Q) (bc ["clocks","bits","wanted","mark","bit"] ds) eW:=by
 rintro ds Q E ⟨cs,rfl,hs,q,q2⟩;have hlm:(cs.map cD).length=cs.length:=π ..;have hl:=hs.2;have hp:=Gh hl;intro p0 G0 n0;refine⟨cs.length,by show [D.int (((cs.map cD).length:Nat):Int)]=_;rw[hlm],by lia,?_⟩;have hp2:((2^cs.length:Nat):Int).toNat=2^cs.length:=bC _;generalize hM:2^cs.length=M at hp hp2 q;refine⟨_,n0.at_,⟨by lia,by lia⟩,?_,fun p G1 n1=>?_⟩
 ·rw[hp2];exact aA (show 1*M≤4096 by lia) (by decide)
 rw[hp2,ME] at n1;have m1:eD eW p (.lst (gB (fun _=>false) M)) G1:=⟨n0.sub.of_none n1.aC,n0.sub.trans n1.sub,n1.at_⟩;refine⟨cs,rfl,hs,fun hn pm=>⟨by simp[jE],IF (Zb _ _),fun G2 j2=>?_⟩,q2⟩;have n2:=j2.eD jT;have q:=q hn;refine⟨_,n2.at_,?_⟩;have hnm:pm≠p:=fun z=>by
  have:=n2.aC;rw[z,m1.at_] at this;cases this
 have m2:eD eW p (.lst (gB (fun _=>false) M)) G2:=⟨m1.aC,m1.sub.trans n2.sub,n2.sub _ _ m1.at_⟩;refine nv (fun ds τ G'=>∃(xs:List Nat) (f:Nat->Bool) (x3:Option D),ds=xs.map (fun x=>nD (lA cs x))/\τ=[some (fW cs),some (.dW (fY cs.length)),some (.obj p),x3,none]/\eD eW p (.lst (gB f M)) G'/\G' pm=some (.lst (jo (lA cs) (dy cs)))/\(∀m,(f m||xs.any fun x=>lA cs x==m)=zX cs m)) (fun _ _ _ h=>by
  obtain⟨_,_,_,_,_,_,h,_⟩:=h;exact h) ?_ ?_ _ _ _ ⟨ao (dy cs),fun _=>false,none,rfl,rfl,m2,n2.at_,fun m=>rfl⟩
 ·rintro d ds τ G3 N ⟨xs,f,x3,e,rfl,m3,hpm,hf⟩ hN;cases xs with
  |nil=>cases e
  |cons x xs=>
   cases e;have hx:lA cs x<M:=by rw[←hM];exact JL cs x
   refine⟨_,lA cs x,m3.at_,by rw[tZ];exact DY hx,?_⟩;refine hN _ _ ⟨xs,fun y=>if y=lA cs x then true else f y,_,rfl,rfl,⟨m3.aC,Sub.tN m3.sub m3.aC,by rw[jT,←JK hx]⟩,by rw[mE hnm];exact hpm,fun m=>?_⟩;rw[←hf m,List.any_cons];by_cases e:m=lA cs x
   ·subst e;show ((if lA cs x=lA cs x then true else f (lA cs x))||_)=_;simp
   ·show ((if m=lA cs x then true else f m)||_)=_;rw[if_neg e,show (lA cs x==m)=false by rw[beq_eq_false_iff_ne];exact fun z=>e z.symm,gz]
 ·rintro τ G3 ⟨xs,f,x3,e,rfl,m3,hpm,hf⟩;have e0:xs=[]:=by cases xs with
   |nil=>rfl
   |cons z zs=>cases e
  subst e0;have hf':∀m,f m=zX cs m:=fun m=>by
   rw[←hf m];show f m=(f m||false);rw[kZ]
  rw[JJ fun m _=>hf' m] at m3;refine nv (fun ds τ G'=>∃(j k:Nat) (x3 x4:Option D),j+k=cs.length/\ds=(nj j k).map mO/\τ=[some (fW cs),some (.dW (fY cs.length)),some (.obj p),x3,x4]/\eD eW p (.lst (gB (xN (zX cs) j) M)) G') (fun _ _ _ _=>trivial) ?_ ?_ _ _ _ ⟨0,cs.length,x3,none,by lia,by unfold fY;rw[i7],rfl,m3⟩
  ·rintro d ds τ G4 N ⟨j,k,x3,x4,hjk,e,rfl,m4⟩ hN;cases k with
   |zero=>cases e
   |succ k=>
    rw[eX,bP] at e;cases e;have hj:j<cs.length:=by lia
    generalize hF:xN (zX cs) j=F at m4;refine⟨_,m4.at_,⟨by rw[tZ];lia,by rw[tZ];lia⟩,?_⟩;show iY _ _ _ _ (iF 0 ((((gB F M).length:Nat):Int)).toNat) _ _;rw[tZ,bC,vz,i7];refine nv (fun ds τ G'=>∃(a b:Nat) (g:Nat->Bool) (x3:Option D),a+b=M/\ds=(nj a b).map nD/\τ=[some (fW cs),some (.dW (fY cs.length)),some (.obj p),x3,some (mO j)]/\eD eW p (.lst (gB g M)) G'/\∀y,g y=if y<a then xM j F y else F y) (fun _ _ _ _=>trivial) ?_ ?_ _ _ _ ⟨0,M,F,x3,by lia,rfl,rfl,m4,fun y=>by rw[if_neg (by lia)]⟩
    ·rintro d ds τ G5 N2 ⟨a,b,g,x3,hab,e,rfl,m5,hg⟩ hN2;cases b with
     |zero=>cases e
     |succ b=>
      rw[eX,bP] at e;cases e;have ha:a<M:=by lia
      have keep:F a=xM j F a->N2 [some (fW cs),some (.dW (fY cs.length)),some (.obj p),some (nD a),some (mO j)] G5:=fun hk=>by
       refine hN2 _ _ ⟨a+1,b,g,_,by lia,rfl,rfl,m5,fun y=>?_⟩;rw[hg y];by_cases h1:y<a
       ·rw[if_pos h1,if_pos (by lia)]
       ·by_cases h2:y=a
        ·subst h2;rw[if_neg h1,if_pos (by lia)];exact hk
        ·rw[if_neg h1,if_neg (by lia)]
      refine⟨trivial,_,_,rfl,rfl,ba _,fun h=>?_,fun h=>⟨nofun,fun _=>keep ?_⟩⟩
      ·have h':(!(dj (a:Int) ((2^j:Nat):Int)==0))=true:=h;rw[xj,uE] at h';have hle:=JP h';have hpos:=mh j;have hy:a-2^j<M:=fc (Nat.sub_le _ _) ha;have hya:a-2^j<a:=Nat.sub_lt (aX hpos hle) hpos;have gy:g (a-2^j)=F (a-2^j):=by
        rw[hg,if_pos hya];unfold xM;rw[Ep h',mX,kZ]
       have eix:((a:Int)-((2^j:Nat):Int))=((a-2^j:Nat):Int):=(Int.ofNat_sub hle).symm;refine⟨_,.bl (g (a-2^j)),m5.at_,?_,fun hw=>?_,fun hw=>keep ?_⟩
       ·show kF (gB g M) ((a:Int)-((2^j:Nat):Int))=_;rw[eix];exact Em hy
       ·have hw':g (a-2^j)=true:=hw;refine⟨_,a,m5.at_,by rw[tZ];exact DY ha,?_⟩;refine hN2 _ _ ⟨a+1,b,fun y=>if y=a then true else g y,_,by lia,rfl,rfl,⟨m5.aC,Sub.tN m5.sub m5.aC,by rw[jT,←JK ha]⟩,fun y=>?_⟩;show (if y=a then true else g y)=_;by_cases h2:y=a
        ·subst h2;rw[if_pos rfl,if_pos (by lia)];unfold xM;rw[h',←gy,hw',tw,mx]
        ·rw[if_neg h2,hg y];by_cases h1:y<a
         ·rw[if_pos h1,if_pos (by lia)]
         ·rw[if_neg h1,if_neg (by lia)]
       ·have hw':g (a-2^j)=false:=hw;unfold xM;rw[←gy,hw',kx,kZ]
      ·have h':(!(dj (a:Int) ((2^j:Nat):Int)==0))=false:=h;rw[xj,uE] at h';unfold xM;rw[h',mX,kZ]
    ·rintro τ G5 ⟨a,b,g,x3,hab,e,rfl,m5,hg⟩;have e0:b=0:=by cases b with
      |zero=>rfl
      |succ b=>rw[eX,bP] at e;cases e
     subst e0;refine hN _ _ ⟨j+1,k,_,_,by lia,rfl,rfl,?_⟩;rw[JJ (g:=g) fun y hy=>?_]
     ·exact m5
     ·rw[hg y,if_pos (by lia)];show xM j (xN (zX cs) j) y=_;rw[hF]
  ·rintro τ G4 ⟨j,k,x3,x4,hjk,e,rfl,m4⟩;have e0:k=0:=by cases k with
    |zero=>rfl
    |succ b=>rw[eX,bP] at e;cases e
   subst e0;refine mH (sub_one ?_) (q p);have ej:j=cs.length:=by lia
   subst ej;exact m4.at_
def vQ:nB:=fun ds Q E=>∃cs:List aG,ds=[fW cs]/\vk cs/\(dy cs≤10000->(iG cs).length<64/\(∀ns∈iG cs,ns≠[])/\∀(p:ζ) (js:List (List Int)),js.Perm (iG cs)->kn js->Q (.obj p) (dG eW p (.lst (js.map tupI))))/\(10000<dy cs->GB E (dy cs))
def YV(E:E3):az:=cz (eH vD (ο (fX ["mark"] [1] (iW (υ 3)) (hName 0) (eI) (bA yG (ο (υ 1) (ο (υ 0) (ae))))) (ae)))
def YU(E:E3):az:=bH (ck (fX ["mark"] [2,1] (iX (ο (eH oj (ο (υ 2) (ae))) (ae))) (hName 0) (b9 (bA yH (ο (υ 1) (ο (υ 2) (ο (υ 0) (ae)))))) (υ 0)) (hName 3)) (YV E)
def YT(E:E3):az:=bH (ck (wH yD E (ο (υ 0) (ο (υ 1) (ae)))) (hName 2)) (YU E)
def IC(E:E3):az:=bH (ck (fX ["place"] [] (iX (ο (eH oj (ο (υ 0) (ae))) (ae))) (hName 0) (eI) (bA xh (ο (υ 0) (ae)))) (hName 1)) (YT E)
theorem YS:∀ds Q E,vQ ds Q E->IC E (bf Q) (bc ["clocks","bits","wanted","spared"] ds) eW:=by
 rintro ds Q E ⟨cs,rfl,hs,q,q2⟩;have hlm:(cs.map cD).length=cs.length:=π ..;have hl:=hs.2;have hp12:=Gh hl;refine⟨⟨by rw[hlm];lia,by rw[hlm];lia⟩,?_,?_⟩
 ·show (iF 0 ((((cs.map cD).length:Nat):Int)).toNat).length≤au;rw[vN,hlm];exact dY (by lia)
 show g6 _ _ _ _ _ (iF 0 ((((cs.map cD).length:Nat):Int)).toNat) _ _ _;rw[hlm,bC,vz];refine lM (fun τ=>∃x,τ=[x]) nD (fun _=>true) mO (G:=eW) trivial (ao cs.length) [] _ ⟨none,rfl⟩ ?_ ?_
 ·rintro i hi τ K1 K2 ⟨x,rfl⟩ g1 g2;have:=ax.mp hi;exact⟨fun _=>⟨i,rfl,by lia,g1 rfl _ ⟨_,rfl⟩⟩,nofun⟩
 intro pb G1 n1;rw[filter_all,cW] at n1;have e1:G1 pb=some (.lst (fY cs.length)):=n1.at_;refine⟨cs,by show [fW cs,vd G1 (.obj pb)]=_;rw[JA e1],hs,fun hn pw=>⟨by simp[jE],IF (Za _ _),fun G2 j2=>?_⟩,q2⟩;have n2:=j2.eD jT;obtain⟨h64,bZ,q⟩:=q hn;have e2:=n2.sub _ _ e1;have ew:=n2.at_;refine⟨_,ew,⟨qb (by decide) (kh _),by rw[tZ];exact Int.lt_of_le_of_lt (Int.ofNat_le.mpr hp12) (by decide)⟩,?_,?_⟩
 ·show (iF 0 ((((gB (jB cs) (2^cs.length)).length:Nat):Int)).toNat).length≤au;rw[vN,tZ,bC];exact aA hp12 (by decide)
 show g6 _ _ _ _ _ (iF 0 ((((gB (jB cs) (2^cs.length)).length:Nat):Int)).toNat) _ _ _;rw[tZ,bC,vz];refine xo (fun ds acc τ G'=>Sub G2 G'/\(∃x,τ=[x,some (.obj pw),some (.obj pb)])/\∃ms as:List Nat,ds=ms.map nD/\(∀m∈ms,m<2^cs.length)/\acc=as.map nD/\as++ms.filter (vc (jB cs) cs.length)=(ao (2^cs.length)).filter (vc (jB cs) cs.length)) (fun _ _ _ _ _=>trivial) ?_ ?_ _ _ _ _ ⟨Sub.refl _,⟨none,rfl⟩,_,[],rfl,fun m hm=>ax.mp hm,rfl,rfl⟩
 ·rintro d ds acc τ G3 K1 K2 ⟨s3,⟨x,rfl⟩,ms,as,e,hms,rfl,ha⟩ g1 g2;cases ms with
  |nil=>cases e
  |cons m ms=>
   cases e;refine⟨pw,pb,jB cs,cs.length,m,rfl,s3 _ _ ew,s3 _ _ e2,hms m χ,hl,fun G4 s4=>⟨fun h=>?_,fun h=>?_⟩⟩
   ·have h':vc (jB cs) cs.length m=true:=h;rw[i9,if_pos h'] at ha;exact g1 _ _ _ ⟨s3.trans s4,⟨_,rfl⟩,ms,as++[m],rfl,fun y hy=>hms y (ψ _ hy),by rw[cg];rfl,by rw[←ha,fC];rfl⟩
   ·have h':vc (jB cs) cs.length m=false:=h;rw[i9,if_neg (by rw[h'];decide)] at ha;exact g2 _ _ ⟨s3.trans s4,⟨_,rfl⟩,ms,as,rfl,fun y hy=>hms y (ψ _ hy),rfl,ha⟩
 ·rintro acc τ G3 ⟨s3,⟨x,rfl⟩,ms,as,e,hms,rfl,ha⟩ p4 G4 n4;have e0:ms=[]:=by cases ms with
   |nil=>rfl
   |cons z zs=>cases e
  subst e0;rw[List.filter_nil,bh] at ha;have hal:as.length<64:=by
   unfold iG at h64;rw[π] at h64;rw[ha];exact h64
  have e4:=n4.sub _ _ (s3 _ _ e2);refine⟨_,n4.at_,?_,?_⟩
  ·show (as.map nD).length≤au;rw[π];exact dY (by lia)
  refine xo (fun ds acc τ G'=>Sub G4 G'/\(∃x,τ=[x,some (.obj pb)])/\∃ms bs:List Nat,ds=ms.map nD/\acc=(bs.map (lT cs.length)).map tupI/\bs++ms=as) (fun _ _ _ _ h=>h.1 _ _ n4.at_) ?_ ?_ _ _ _ _ ⟨Sub.refl _,⟨none,rfl⟩,as,[],rfl,rfl,rfl⟩
  ·rintro d ds acc τ G5 K1 K2 ⟨s5,⟨x,rfl⟩,ms,bs,e,rfl,hb⟩ g1 g2;cases ms with
   |nil=>cases e
   |cons m ms=>
    cases e;refine⟨fun _=>⟨pb,cs.length,m,rfl,s5 _ _ e4,hl,fun G6 s6=>g1 _ _ _ ⟨s5.trans s6,⟨_,rfl⟩,ms,bs++[m],rfl,?_,by rw[←hb,fC];rfl⟩⟩,nofun⟩;rw[cg,cg];rfl
  ·rintro acc τ G5 ⟨s5,⟨x,rfl⟩,ms,bs,e,rfl,hb⟩ p6 G6 n6;have e0:ms=[]:=by cases ms with
    |nil=>rfl
    |cons z zs=>cases e
   subst e0;rw[bh] at hb;subst hb;have el:bs.map (lT cs.length)=iG cs:=by
    unfold iG;rw[ha]
   rw[el] at n6;exact⟨iG cs,n6.at_,h64,bZ,fun p7 mss G7 n7 hp hr=>mH (sub_one n7.at_) (q p7 mss hp hr)⟩
def uu(L:List (List Int))(ps:List Int):Prop:=ps∈L/\(∀qs∈L,ps.length≤qs.length)/\∀qs∈L,qs.length=ps.length->gp.lx qs ps=false
theorem YR{L:List (List Int)}{ps qs:List Int}(h1:uu L ps)(h2:uu L qs):ps=qs:=by
 have e:ps.length=qs.length:=Nat.le_antisymm (h1.2.1 qs h2.1) (h2.2.1 ps h1.1);exact Es (h2.2.2 ps h1.1 e) (h1.2.2 qs h2.1 e.symm)
theorem YQ{js:List (List Int)}{ps:List Int}{i:Nat}(hr:kn js)(hi:js[i]?=some ps)(hm:∀qs∈js,ps.length≤qs.length)(hf:∀j,j<i->∀qs,js[j]?=some qs->ps.length<qs.length):uu js ps:=by
 refine⟨bE hi,hm,fun qs hq e=>?_⟩;obtain⟨j,hj,ej⟩:=gV hq;have hjs:js[j]?=some qs:=by rw[aB hj,ej]
 have hij:i≤j:=by
  refine Nat.le_of_not_lt fun h=>?_;have:=hf j h qs hjs;lia
 rcases Nat.lt_or_eq_of_le hij with h|h
 ·obtain⟨hi',ei⟩:=ak.mp hi;have:=dO.mp hr i j hi' hj h;rw[ei,ej] at this;exact this
 ·subst h;rw[hjs] at hi;cases hi;rw[←Aq];exact Ar _
theorem IB{L js:List (List Int)}{ps:List Int}(hp:js.Perm L)(h:uu js ps):uu L ps:=⟨hp.mem_iff.mp h.1,fun qs hq=>h.2.1 qs (hp.mem_iff.mpr hq),fun qs hq=>h.2.2 qs (hp.mem_iff.mpr hq)⟩
def xg:nB:=fun ds Q E=>∃cs:List aG,ds=[fW cs]/\vk cs/\(dy cs≤10000->(iG cs).length<64/\(∀ns∈iG cs,ns≠[])/\(iG cs=[]->Q .aC eW)/\∀ps,uu (iG cs) ps->Q (tupI ps) eW)/\(10000<dy cs->GB E (dy cs))
def Iz(E:E3):az:=cz (B0 (rA vQ E (ο (υ 0) (ae))))
theorem YO:∀ds Q E,xg ds Q E->Iz E (bf Q) (bc ["clocks"] ds) eW:=by
 rintro ds Q E ⟨cs,rfl,hs,q,q2⟩;refine⟨cs,rfl,hs,fun hn=>?_,q2⟩;obtain⟨h64,bZ,q0,q1⟩:=q hn;refine⟨h64,bZ,fun p js hp hr G1 j1=>?_⟩;have e1:=j1.new _ _ jT;refine⟨js.map fun ns=>ns.map D.int,by rw[e1,cZ];rfl,fun e=>?_,fun ds hd hm hf=>?_⟩
 ·have:js=[]:=by simpa using e
  rw[this] at hp;exact mH (JF _) (q0 (List.nil_perm.mp hp))
 ·obtain⟨i,hi,hf⟩:=hf;rw[aI] at hi;obtain⟨ps,hi2,rfl⟩:=Option.map_eq_some_iff.mp hi;refine mH (JF _) (q1 ps (IB hp (YQ hr hi2 (fun qs hqs=>?_) fun j hj qs hqs=>?_)))
  ·have:=hm _ (aj.mpr ⟨qs,hqs,rfl⟩);rw[π,π] at this;exact this
  ·have:=hf j hj (qs.map D.int) (by rw[aI,hqs];rfl);rw[π,π] at this;exact this
end My
namespace My
open PySem L2 L3
theorem Zo{cs:List aG}{ps:List Int}(P:uo cs ps){i j:Nat}(hi:((i:Nat):Int)∈ps)(hj:((j:Nat):Int)∈ps)(e:sV cs i=sV cs j):i=j:=by
 have h1:=P.b _ hi;have h2:=P.b _ hj;have e1:=vR h1;have e2:=vR h2;rw[e] at e1;have:=(oG (by lia) P.nd).mp (e1.trans e2.symm);lia
theorem yC{cs:List aG}{ps:List Int}(P:uo cs ps){i:Nat}(hi:((i:Nat):Int)∈ps)(x:Nat):eV (x:Int) (sV cs i)=iS cs x i:=by
 have e:=vR (P.b _ hi);have hv:=(P.s.1 _ (bE e)).1;rw[bC] at e;rw[El e];exact D5 hv _
theorem Zn{cs:List aG}{ps:List Int}(P:uo cs ps):FT (kz cs ps) (dy cs)↔LC cs ps:=by
 have nat:∀z∈ps,∃i:Nat,z=((i:Nat):Int):=fun z hz=>⟨z.toNat,by have:=P.b z hz;lia⟩;constructor
 ·rintro⟨h1,h2⟩;refine⟨P.b,P.r,fun x hx=>?_,fun j hj=>?_⟩
  ·obtain⟨c,hc⟩:=List.exists_mem_of_ne_nil _ (h1 x hx);obtain⟨hc,hr⟩:=bK.mp hc;obtain⟨z,hz,rfl⟩:=aj.mp hc;obtain⟨i,rfl⟩:=nat z hz;rw[yC P hz] at hr;exact⟨i,hz,hr⟩
  ·obtain⟨x,hx,e⟩:=h2 _ (aj.mpr ⟨_,hj,rfl⟩);refine⟨x,hx,fun i hi hr=>Zo P hi hj ?_⟩;have:sV cs i∈(kz cs ps).filter (eV (x:Int)):=bK.mpr ⟨aj.mpr ⟨_,hi,rfl⟩,by rw[yC P hi];exact hr⟩;rw[e] at this;exact aV.mp this
 ·intro h;refine⟨fun x hx e=>?_,fun c hc=>?_⟩
  ·obtain⟨i,hi,hr⟩:=h.vf x hx;have:sV cs i∈(kz cs ps).filter (eV (x:Int)):=bK.mpr ⟨aj.mpr ⟨_,hi,rfl⟩,by rw[yC P hi];exact hr⟩;rw[e] at this;cases this
  ·obtain⟨z,hz,rfl⟩:=aj.mp hc;obtain⟨j,rfl⟩:=nat z hz;obtain⟨x,hx,hn⟩:=h.need j hz;obtain⟨i,hi,hr⟩:=h.vf x hx;have ei:=hn i hi hr;subst ei;refine⟨x,hx,Zt (P.nodup.filter _) (bK.mpr ⟨hc,by rw[yC P hz];exact hr⟩) fun b hb=>?_⟩;obtain⟨hb,hrb⟩:=bK.mp hb;obtain⟨y,hy,rfl⟩:=aj.mp hb;obtain⟨k,rfl⟩:=nat y hy;rw[yC P hy] at hrb;rw[hn k hy hrb]
def fh:Nat->List (List Int)
 |0=>[[]]
 |n+1=>fh n++(fh n).map fun ps=>ps++[(n:Int)]
theorem Ap:∀n,(fh n).length=2^n
 |0=>rfl
 |n+1=>by
  show (fh n++(fh n).map fun ps=>ps++[(n:Int)]).length=_;rw[aq,π,Ap n,eR];lia
theorem qL:∀(n:Nat) (ps:List Int),ps∈fh n↔(∀x∈ps,0≤x/\x<(n:Int))/\ps.Pairwise (· < ·)
 |0,ps=>by
  show ps∈[[]]↔_;rw[aV];constructor
  ·rintro rfl;exact⟨nofun,.nil⟩
  ·rintro⟨h,_⟩;cases ps with
   |nil=>rfl
   |cons a as=>
    have:=h a χ;lia
 |n+1,ps=>by
  show ps∈fh n++(fh n).map (fun ps=>ps++[(n:Int)])↔_;rw[bL,aj];constructor
  ·rintro (h|⟨qs,h,rfl⟩)
   ·obtain⟨h1,h2⟩:=(qL n ps).mp h;exact⟨fun x hx=>by have:=h1 x hx;lia,h2⟩
   ·obtain⟨h1,h2⟩:=(qL n qs).mp h;refine⟨fun x hx=>?_,mn.mpr ⟨h2,fK _ _,fun a ha b hb=>?_⟩⟩
    ·rcases bL.mp hx with hx|hx
     ·have:=h1 x hx;lia
     ·rw[aV.mp hx];lia
    ·rw[aV.mp hb];exact (h1 a ha).2
  ·rintro⟨h1,h2⟩;rcases List.eq_nil_or_concat ps with rfl|⟨qs,a,rfl⟩
   ·exact .inl ((qL n []).mpr ⟨nofun,.nil⟩)
   ·rw[List.concat_eq_append] at h1 h2 ⊢;obtain⟨h3,_,h4⟩:=mn.mp h2;have ha:=h1 a (aY _ χ);have hlt:∀x∈qs,0≤x/\x<a:=fun x hx=>⟨(h1 x (cY _ hx)).1,h4 x hx a χ⟩;by_cases e:a=(n:Int)
    ·refine .inr ⟨qs,(qL n qs).mpr ⟨fun x hx=>?_,h3⟩,by rw[e]⟩;have:=hlt x hx;lia
    ·refine .inl ((qL n _).mpr ⟨fun x hx=>?_,h2⟩);rcases bL.mp hx with hx|hx
     ·have:=hlt x hx;lia
     ·rw[aV.mp hx];lia
theorem Iy:∀n,(fh n).Nodup
 |0=>by
  show [([]:List Int)].Nodup;simp
 |n+1=>by
  have ih:=Iy n;refine List.nodup_append.mpr ⟨ih,?_,fun a ha b hb e=>?_⟩
  ·show kX _ _;rw[cm];exact ih.imp fun {a b} h e=>h (List.append_cancel_right e)
  ·obtain⟨qs,_,rfl⟩:=aj.mp hb;subst e;have:=((qL n _).mp ha).1 (n:Int) (aY _ χ);lia
def yB:dJ:=fun ds G Q=>∃n:Nat,ds=[.int n]/\n≤12/\∀p G',eD G p (.lst ((fh n).map tupI)) G'->Q (.obj p) G'
def Zm:az:=ck (bx gU (υ 1) (fX ["some"] [2] (iW (υ 1)) (hName 0) (eI) (bx gU (υ 0) (fH (ο (υ 1) (ae)))))) (hName 1)
def Zl:az:=cz (υ 1)
def Zk:az:=bH (hX (iX (ο (υ 0) (ae))) (hName 2) (Zm)) Zl
def Iw:az:=bH (ck (jv (ο (fH (ae)) (ae))) (hName 1)) Zk
theorem Iv{n:Nat}(h:n≤12):2^n≤4096:=aA (cE (by decide) h) (by decide)
theorem Zj(ps:List Int)(i:Int):tupI (ps++[i])=D.tup (ps.map D.int++[D.int i]):=by
 unfold tupI;rw[cg];rfl
theorem Zi:∀ds G Q,yB ds G Q->Iw (bf Q) (bc ["many","found","place"] ds) G:=by
 rintro ds G Q ⟨n,rfl,hn,q⟩;intro p0 G0 n0;refine⟨⟨by lia,by lia⟩,?_⟩;show iY _ _ _ _ (iF 0 ((n:Int)).toNat) _ _;rw[bC,vz,i7];refine nv (fun ds τ G'=>∃(j k:Nat) (p:ζ) (x2:Option D),j+k=n/\ds=(nj j k).map nD/\τ=[some (.int n),some (.obj p),x2]/\eD G p (.lst ((fh j).map tupI)) G') (fun _ _ _ _=>trivial) ?_ ?_ _ _ _ ⟨0,n,p0,none,by lia,rfl,rfl,n0⟩
 ·rintro d ds τ G1 N ⟨j,k,p,x2,hjk,e,rfl,m⟩ hN;cases k with
  |zero=>cases e
  |succ k=>
   rw[eX,bP] at e;cases e;have hp:=Iv (show j+1≤12 by lia);rw[eR] at hp;refine⟨_,m.at_,?_,?_⟩
   ·show ((fh j).map tupI).length≤au;rw[π,Ap];exact aA (show 2^j≤4096 by lia) (by decide)
   refine lM (guard:=fun G'=>G' p=some (.lst ((fh j).map tupI))) (fun τ=>∃x,τ=[x,some (nD j)]) tupI (fun _=>true) (fun ps=>tupI (ps++[(j:Int)])) (G:=G1) m.at_ (fh j) [] _ ⟨none,rfl⟩ ?_ ?_
   ·rintro ps hps τ K1 K2 ⟨x,rfl⟩ g1 g2;obtain⟨h1,h2⟩:=(qL j ps).mp hps;have hl:=DS h1 h2;rw[Zj] at g1;exact⟨fun _=>⟨by show (ps.map D.int).length+1≤au;rw[π];exact dY (by lia),g1 rfl _ ⟨_,rfl⟩⟩,nofun⟩
   ·intro p2 G2 n2;rw[filter_all,cW] at n2;refine⟨_,_,n2.sub _ _ m.at_,n2.at_,?_,fun p3 G3 n3=>hN _ _ ⟨j+1,k,p3,_,by lia,rfl,rfl,?_⟩⟩
    ·rw[π,π,Ap];exact aA (show 2^j+2^j≤4096 by lia) (by decide)
    ·have e:(fh (j+1)).map tupI=(fh j).map tupI++(fh j).map fun ps=>tupI (ps++[(j:Int)]):=by
      show (fh j++(fh j).map fun ps=>ps++[(j:Int)]).map tupI=_;rw[cg,cZ];rfl
     rw[e];exact⟨(m.sub.trans n2.sub).of_none n3.aC,(m.sub.trans n2.sub).trans n3.sub,n3.at_⟩
 ·rintro τ G1 ⟨j,k,p,x2,hjk,e,rfl,m⟩;have e0:k=0:=by cases k with
   |zero=>rfl
   |succ b=>rw[eX,bP] at e;cases e
  subst e0;have ej:j=n:=by lia
  subst ej;exact e7 (q p G1 m)
def xf:dJ:=fun ds G Q=>∃ps:List Int,ds=[tupI ps,tupI ps]/\ps.length≤1000/\∀G',Sub G G'->Q (.bl true) G'
def Iu:az:=cz (uL (qo "tuple" (υ 0)) (uL (bx (fQ false) (υ 0) (υ 1)) (eH t7 (ο (fX ["one"] [] (iW (υ 0)) (hName 0) (eI) (bA vT (ο (υ 0) (ae)))) (ae)))))
theorem Zh(ps:List Int):(tX ps).jW≤50:=by
 show Dat.fI (ps.map Dat.D.int)+1≤50;rw[DT];decide
theorem Zg:∀ds G Q,xf ds G Q->Iu (bf Q) (bc ["found","due"] ds) G:=by
 rintro ds G Q ⟨ps,rfl,hl,q⟩;refine⟨fun _=>⟨_,_,Ay ps,Ay ps,Zh ps,fun _=>?_,fun h=>?_⟩,nofun⟩
 ·refine⟨by show (ps.map D.int).length≤au;rw[π];exact dY hl,?_⟩;refine lM (fun τ=>∃x,τ=[x]) D.int (fun _=>true) (fun _=>.bl true) (G:=G) trivial ps [] _ ⟨none,rfl⟩ ?_ ?_
  ·rintro o hm τ K1 K2 ⟨y,rfl⟩ g1 g2;exact⟨fun _=>⟨trivial,g1 rfl _ ⟨_,rfl⟩⟩,nofun⟩
  ·intro p3 G4 n4;rw[filter_all,cW] at n4;refine⟨_,_,n4.at_,xn (fun _:Int=>true) ps,?_⟩;have e:(ps.map fun _=>true).all id=true:=by simp
   rw[e];exact e7 (q G4 n4.sub)
 ·have h':(tX ps).fm (tX ps)=false:=h;rw[DU,decide_eq_true rfl] at h';cases h'
theorem Zf(js:List (List Int)):Dat.ju (js.map tX) (js.map tX)=true:=by
 induction js with
 |nil=>rfl
 |cons x js ih=>
  show ((tX x).fm (tX x)&&Dat.ju (js.map tX) (js.map tX))=true;rw[ih,DU,decide_eq_true rfl];rfl
theorem Ir(js:List (List Int)):(Dat.D.lst (js.map tX)).jW≤50:=by
 show Dat.fI (js.map tX)+1≤50;have:=O6 js;lia
structure wa(cs:List aG)(js:List (List Int)):Prop where
 rt:Rt cs
 pm:js.Perm (iG cs)
 r:kn js
theorem wa.len{cs:List aG}{js:List (List Int)}(h:wa cs js):js.length<64:=by rw[h.pm.length_eq];exact h.rt.len
theorem wa.one{cs:List aG}{js:List (List Int)}(h:wa cs js){ps:List Int}(hp:ps∈js):ps.length≤12:=by
 have hl:=pG.mp (h.pm.mem_iff.mp hp);exact aA (DS hl.b hl.r) h.rt.l
theorem YD{cs:List aG}(rt:Rt cs):((fh cs.length).filter fun ps=>decide (ps∈iG cs)).Perm (iG cs):=by
 refine (ji ((Iy _).filter _) (IS cs)).mpr fun ps=>?_;rw[bK,decide_eq_true_iff];refine⟨fun h=>h.2,fun h=>⟨(qL _ _).mpr ⟨(pG.mp h).b,(pG.mp h).r⟩,h⟩⟩
theorem Rt.s7{cs:List aG}(h:Rt cs):vk cs:=⟨h.s.1,h.l⟩
theorem Rt.pl{cs:List aG}(h:Rt cs){ps:List Int}(hp:ps∈fh cs.length):uo cs ps:=⟨h.s7,h.nd,((qL _ _).mp hp).1,((qL _ _).mp hp).2⟩
def vP:dJ:=fun ds G Q=>∃cs:List aG,ds=[fW cs]/\Rt cs/\∀G',Sub G G'->Q (.bl true) G'
def YC:az:=rT (eM Bm (υ 3) (ο (fH (ae)) (ae)))
def Jh:az:=bH (kA (sU (jV (b9 (qo "list" (υ 3)))) (sU (b9 (bx (fQ true) (υ 3) (υ 1))) (jV (b9 (eH t7 (ο (fX ["one"] [] (iW (υ 3)) (hName 0) (eI) (bA xf (ο (υ 0) (ο (υ 0) (ae))))) (ae))))))) (cz (eC (.bl false))) (fJ)) YC
def YB:az:=bH (ck (rA vQ Mf (ο (υ 0) (ae))) (hName 3)) Jh
def Jg:az:=cz (bA xf (ο (υ 3) (ο (bx fG (eH Ej (ο (fX ["places"] [] (iW (υ 1)) (hName 0) (eI) (fH (ο (eH oj (ο (υ 0) (ae))) (ο (υ 0) (ae))))) (ae))) (eC (.int 1))) (ae))))
def YA:az:=bH (kA (b9 (bx (fQ false) (υ 1) (jv (ae)))) (cz (bx (HR false) (υ 3) (eC .aC))) (fJ)) Jg
def Yz:az:=bH (ck (rA xg Mf (ο (υ 0) (ae))) (hName 3)) YA
def Jf:az:=bH (hX (iX (ο (eC (.int 2)) (ae))) (hName 2) (YB)) Yz
def Je:az:=bH (ck (eH vD (ο (fX ["places"] [0] (iW (bA yB (ο (eH oj (ο (υ 0) (ae))) (ae)))) (hName 0) (b9 (bA yJ (ο (υ 1) (ο (υ 0) (ae))))) (υ 0)) (ae))) (hName 1)) Jf
theorem Yy{js:List (List Int)}{qs:List Int}(hq:qs∈js)(hm:∀r∈js.map (fun x=>(((x.length:Nat):Int),x)),lC r (((qs.length:Nat):Int),qs)=false):uu js qs:=by
 have key:∀rs∈js,qs.length≤rs.length/\(rs.length=qs.length->gp.lx rs qs=false):=fun rs hr=>by
  have h:=hm _ (aj.mpr ⟨rs,hr,rfl⟩);unfold lC at h;by_cases e:rs.length=qs.length
  ·rw[if_pos (by show ((rs.length:Nat):Int)=((qs.length:Nat):Int);rw[e]),Aq] at h;exact⟨by lia,fun _=>h⟩
  ·rw[if_neg (by show ¬((rs.length:Nat):Int)=((qs.length:Nat):Int);lia),decide_eq_false_iff_not] at h;have h:¬((rs.length:Nat):Int)<((qs.length:Nat):Int):=h;exact⟨by lia,fun z=>absurd z e⟩
 exact⟨hq,fun rs hr=>(key rs hr).1,fun rs hr=>(key rs hr).2⟩
theorem Yx{Q:V3}{G1:Gp}{cs:List aG}{js:List (List Int)}{ps:List Int}{p:ζ}{x0 x2:Option D}(h:wa cs js)(hf:uu (iG cs) ps)(hp:G1 p=some (.lst (js.map tupI)))(q:∀G',Sub G1 G'->(bf Q).rt (.bl true) G'):Jg (bf Q) [x0,some (.obj p),x2,some (tupI ps)] G1:=by
 have hl:=h.len;have hpm:ps∈js:=h.pm.mem_iff.mpr hf.1;refine⟨_,hp,by rw[π];exact dY (by lia),?_⟩;refine lM (guard:=fun G'=>G' p=some (.lst (js.map tupI))) (fun τ=>∃x,τ=[x]) tupI (fun _=>true) (fun x=>pD (((x.length:Nat):Int),x)) (G:=G1) hp js [] _ ⟨none,rfl⟩ ?_ ?_
 ·rintro x hx τ K1 K2 ⟨y,rfl⟩ g1 g2;have e:pD (((x.length:Nat):Int),x)=D.tup [D.int (((x.map D.int).length:Nat):Int),tupI x]:=by
   rw[π];rfl
  rw[e] at g1;exact⟨fun _=>g1 rfl _ ⟨_,rfl⟩,nofun⟩
 ·intro p2 G2 n2;rw[filter_all,cW] at n2;refine⟨js.map fun x=>(((x.length:Nat):Int),x),by rw[n2.at_,cZ];rfl,by rw[π];exact rb hpm,fun r hr hm=>?_⟩;obtain⟨qs,hq,rfl⟩:=aj.mp hr;have e:ps=qs:=YR hf (IB h.pm (Yy hq hm));subst e;exact⟨_,rfl,ps,rfl,by have:=h.one hpm;lia,fun G3 s3=>q G3 (n2.sub.trans s3)⟩
theorem Yw{D3:ng}{G1:Gp}{cs:List aG}{js:List (List Int)}{p p3:ζ}{x2:Option D}{G0:Gp}(h:wa cs js)(hp:G0 p=some (.lst (js.map tupI)))(m:eD G0 p3 (.lst (js.map tupI)) G1)(hN:∀G',Sub G0 G'->D3.nx [some (fW cs),some (.obj p),x2,some (.obj p3)] G'):Jh D3 [some (fW cs),some (.obj p),x2,some (.obj p3)] G1:=by
 have hl:=h.len;show match iV "list" G1 (.obj p3) with
  |some b=>_
  |none=>False
 rw[Q0 m.at_];refine⟨nofun,fun _=>⟨_,_,qM m.at_ (DV js),qM (m.sub _ _ hp) (DV js),Ir js,fun g=>?_,fun _=>?_⟩⟩
 ·have g':(!(Dat.ju (js.map tX) (js.map tX)))=true:=g;rw[Zf] at g';cases g'
 refine⟨_,m.at_,by rw[π];exact dY (by lia),?_⟩;refine xo (fun ds acc τ G'=>Sub G1 G'/\(∃x,τ=[x])/\∃ms as:List (List Int),ds=ms.map tupI/\(∀x∈ms,x∈js)/\acc=as.map (fun _=>D.bl true)) (fun _ _ _ _ h=>h.1 _ _ m.at_) ?_ ?_ _ _ _ _ ⟨Sub.refl _,⟨none,rfl⟩,js,[],rfl,fun _ h=>h,rfl⟩
 ·rintro d ds acc τ G2 K1 K2 ⟨s2,⟨x,rfl⟩,ms,as,e,hms,rfl⟩ g1 g2;cases ms with
  |nil=>cases e
  |cons y ms=>
   cases e;refine⟨fun _=>⟨y,rfl,by have:=h.one (hms y χ);lia,fun G3 s3=>g1 _ _ _ ⟨s2.trans s3,⟨_,rfl⟩,ms,as++[y],rfl,fun z hz=>hms z (ψ _ hz),?_⟩⟩,nofun⟩;rw[cg];rfl
 ·rintro acc τ G2 ⟨s2,⟨x,rfl⟩,ms,as,e,hms,rfl⟩ p4 G4 n4;refine⟨_,_,n4.at_,xn (fun _=>true) as,?_⟩;have ea:(as.map fun _=>true).all id=true:=by simp
  rw[ea];have e3:=n4.sub _ _ (s2 _ _ m.at_);refine⟨nofun,fun _=>⟨⟨p3,_,rfl,e3⟩,_,e3,by rw[π];exact fc (show js.length≤64 by lia) (by decide),hN _ ?_⟩⟩;exact Sub.tN (m.sub.trans (s2.trans n4.sub)) m.aC
theorem Yv{Q:V3}{G0:Gp}{cs:List aG}{js:List (List Int)}{p:ζ}{x2 x3:Option D}(h:wa cs js)(hp:G0 p=some (.lst (js.map tupI)))(q:∀G',Sub G0 G'->(bf Q).rt (.bl true) G'):Jf (bf Q) [some (fW cs),some (.obj p),x2,x3] G0:=by
 have hn:=h.rt.s.2.2;refine⟨⟨by decide,by decide⟩,?_⟩;refine nv (fun ds τ G'=>Sub G0 G'/\∃x2 x3,τ=[some (fW cs),some (.obj p),x2,x3]) (fun _ _ _ _=>trivial) ?_ ?_ _ _ _ ⟨Sub.refl _,_,_,rfl⟩
 ·rintro d ds τ G1 N ⟨s1,x2,x3,rfl⟩ hN;refine⟨cs,rfl,h.rt.s7,fun _=>⟨h.rt.len,h.rt.ne,fun p3 js' hp' hr' G2 j2=>?_⟩,fun hgt=>absurd hn (by lia)⟩;have ej:js'=js:=Jn (hp'.trans h.pm.symm) hr' h.r;subst ej;exact Yw h (s1 _ _ hp) (j2.eD jT) fun G' s'=>hN _ _ ⟨s1.trans s',_,_,rfl⟩
 ·rintro τ G1 ⟨s1,x2,x3,rfl⟩;have hp1:=s1 _ _ hp;refine⟨cs,rfl,h.rt.s7,fun _=>⟨h.rt.len,h.rt.ne,fun e G2 j2=>?_,fun ps hf G2 j2=>?_⟩,fun hgt=>absurd hn (by lia)⟩
  ·have ej:js=[]:=by
    have:=h.pm;rw[e] at this;exact List.perm_nil.mp this
   subst ej;intro p5 G5 n5;refine⟨_,_,qM (n5.sub _ _ (j2.old _ _ hp1)) rfl,qM n5.at_ rfl,Nat.le_of_ble_eq_true rfl,fun _=>?_,nofun⟩;exact q G5 (s1.trans (j2.old.trans n5.sub))
  ·have hpm:ps∈js:=h.pm.mem_iff.mpr hf.1;intro p5 G5 n5;have e5:=n5.sub _ _ (j2.old _ _ hp1);refine⟨_,_,qM e5 (DV js),qM n5.at_ rfl,Ir js,fun g=>?_,fun _=>?_⟩
   ·have g':(Dat.D.lst (js.map tX)).fm (.lst [])=true:=g;rw[D6,pZ,List.isEmpty_iff] at g';rw[g'] at hpm;cases hpm
   ·exact Yx h hf e5 fun G' s'=>q G' (s1.trans (j2.old.trans (n5.sub.trans s')))
theorem Yu:∀ds G Q,vP ds G Q->Je (bf Q) (bc ["clocks","due","turn","found"] ds) G:=by
 rintro ds G Q ⟨cs,rfl,rt,q⟩;have hlm:(cs.map cD).length=cs.length:=π ..;have hl:=rt.l;refine⟨cs.length,by show [D.int (((cs.map cD).length:Nat):Int)]=_;rw[hlm],hl,fun p1 G1 n1=>⟨_,n1.at_,?_,?_⟩⟩
 ·show ((fh cs.length).map tupI).length≤au;rw[π,Ap];exact aA (Iv hl) (by decide)
 refine xo (fun ds acc τ G'=>Sub G1 G'/\(∃x,τ=[x,some (fW cs)])/\∃ms as:List (List Int),ds=ms.map tupI/\(∀m∈ms,m∈fh cs.length)/\acc=as.map tupI/\as++ms.filter (fun ps=>decide (ps∈iG cs))=(fh cs.length).filter fun ps=>decide (ps∈iG cs)) (fun _ _ _ _ h=>h.1 _ _ n1.at_) ?_ ?_ _ _ _ _ ⟨Sub.refl _,⟨none,rfl⟩,_,[],rfl,fun _ h=>h,rfl,rfl⟩
 ·rintro d ds acc τ G2 K1 K2 ⟨s2,⟨x,rfl⟩,ms,as,e,hms,rfl,ha⟩ g1 g2;cases ms with
  |nil=>cases e
  |cons y ms=>
   cases e;have P:=rt.pl (hms y χ);refine⟨cs,y,rfl,P,rt.s.2.2,fun b G3 s3 hb=>?_⟩;rw[Zn P,←pG] at hb;refine⟨fun h=>?_,fun h=>?_⟩
   ·have h':b=true:=h;rw[i9,if_pos (decide_eq_true (hb.mp h'))] at ha;exact g1 _ _ _ ⟨s2.trans s3,⟨_,rfl⟩,ms,as++[y],rfl,fun z hz=>hms z (ψ _ hz),by rw[cg];rfl,by rw[←ha,fC];rfl⟩
   ·have h':b=false:=h;rw[i9,if_neg (fun z=>by rw[hb.mpr (of_decide_eq_true z)] at h';cases h')] at ha;exact g2 _ _ ⟨s2.trans s3,⟨_,rfl⟩,ms,as,rfl,fun z hz=>hms z (ψ _ hz),rfl,ha⟩
 ·rintro acc τ G2 ⟨s2,⟨x,rfl⟩,ms,as,e,hms,rfl,ha⟩ p3 G3 n3;have e0:ms=[]:=by cases ms with
   |nil=>rfl
   |cons z zs=>cases e
  subst e0;rw[List.filter_nil,bh] at ha;have pm:as.Perm (iG cs):=by
   rw[ha];exact YD rt
  refine⟨as,n3.at_,by rw[pm.length_eq];exact rt.len,fun ns hn=>rt.ne ns (pm.mem_iff.mp hn),fun p4 js G4 n4 hp hr=>?_⟩;exact Yv ⟨rt,hp.trans pm,hr⟩ n4.at_ fun G' s'=>e7 (q G' ((n1.sub.trans (s2.trans (n3.sub.trans n4.sub))).trans s'))
end My
namespace My
open PySem L2 L3
def xc:dJ:=fun ds G Q=>∃(w:Int) (cs:List aG),ds=[.int w,fW cs]/\vk cs/\10000<dy cs/\Q (.bl true) G
def Jd(rs:List ν)(e0:ζ):az:=cz (bx (fQ false) (bA (yN rs) (ο (υ 2) (ae))) (fH (ο (eC (.str "great")) (ο (zA e0 rW (ο (υ 1) (ae))) (ο (eC (.int 10000)) (ae))))))
def Jc(rs:List ν):az:=Ai rs 2 (Dn (b9 (bx (fQ false) (υ 0) (eC (.int 0)))) (wm (wG vQ (ο (υ 1) (ae))) (tQ)) (wm (wG xg (ο (υ 1) (ae))) (tQ)) (tQ)) (Jd rs) (cz (eC (.bl false)))
theorem Jb{G G2:Gp}{Q:V3}{p:ζ}{w:Int}{cs:List aG}(hs:vk cs)(n:eD G p (.gen (jr "TooGreat" [("many",((dy cs:Nat):Int)),("most",10000)])) G2)(q:Q (.bl true) G):Jd ["TooGreat"] p (bf Q) [some (.int w),some (fW cs),some (.obj p)] G2:=by
 refine⟨p,_,_,rfl,n.at_,by simp,fun G3 s3=>⟨⟨_,_,s3 _ _ n.at_⟩,cs,rfl,hs.1,hs.2,fun G4 j=>⟨_,_,rfl,rfl,(by decide:1≤50),?_⟩⟩⟩;have e:(Dat.D.tup [.str "great",.int ((dy cs:Nat):Int),.int 10000]).fm (.tup [.str "great",.int ((dy cs:Nat):Int),.int 10000])=true:=by simp[Dat.D.fm,Dat.ju]
 show (bf Q).rt (.bl ((Dat.D.tup [.str "great",.int ((dy cs:Nat):Int),.int 10000]).fm (.tup [.str "great",.int ((dy cs:Nat):Int),.int 10000]))) G4;rw[e];exact mH ((n.sub.trans s3).trans j.old) q
theorem Yt:∀ds G Q,xc ds G Q->Jc ["TooGreat"] (bf Q) (bc ["way","clocks","e"] ds) G:=by
 rintro ds G Q ⟨w,cs,rfl,hs,hgt,q⟩;refine⟨_,_,rfl,rfl,ba _,fun _=>?_,fun _=>?_⟩
 ·exact⟨cs,rfl,hs,fun hn=>absurd hn (by lia),fun _=>⟨by simp,fun p G2 n=>Jb hs n q⟩⟩
 ·exact⟨cs,rfl,hs,fun hn=>absurd hn (by lia),fun _=>⟨by simp,fun p G2 n=>Jb hs n q⟩⟩
def nk:dJ:=fun ds G Q=>∃ns:List Int,ds=[.dW (ns.map .int)]/\ns.length≤63/\Q (.bl true) G
def Ys:az:=kA (jV (b9 (bA vP (ο (υ 1) (ae))))) (cz (eC (.bl false))) (fJ)
def Yr:az:=kA (sU (jV (b9 (bA xc (ο (eC (.int 0)) (ο (υ 4) (ae)))))) (jV (b9 (bA xc (ο (eC (.int 1)) (ο (υ 4) (ae))))))) (cz (eC (.bl false))) (fJ)
def Yq:az:=bH (ck (bA yL (ο (υ 3) (ae))) (hName 4)) Yr
def Ja:az:=bH (kA (sU (jV (b9 (bA vP (ο (bA yF (ο (υ 3) (ae))) (ae))))) (jV (b9 (bA vP (ο (sT (bA yI (ο (υ 3) (ae))) (lR) (kl (eC (.int 6)))) (ae)))))) (cz (eC (.bl false))) (fJ)) Yq
def Yp:az:=bH (ck (bA D8 (ο (υ 2) (ae))) (hName 3)) Ja
def Yo:az:=cz (eC (.bl true))
def Yn:az:=bH (hX (iW (bx gU (jv (ο (bA zc (ο (υ 0) (ο (eC (.int 0)) (ae)))) (ae))) (sT (υ 0) (kl (eC (.int 1))) (kl (eC (.int 4)))))) (hName 2) (Yp)) Yo
def IZ:az:=bH (hX (iW (jv (ο (fH (ae)) (ο (fH (ο (fH (ο (eC (.int 1)) (ο (eC (.int 0)) (ae)))) (ae))) (ο (fH (ο (fH (ο (eC (.int 1)) (ο (eC (.int 0)) (ae)))) (ο (fH (ο (eC (.int 2)) (ο (eC (.int 0)) (ae)))) (ο (fH (ο (eC (.int 2)) (ο (eC (.int 1)) (ae)))) (ae))))) (ae)))))) (hName 1) (Ys)) Yn
theorem Og:Rt []:=⟨nofun,.nil,by decide,As (by decide)⟩
theorem Of:Rt [(1,0)]:=⟨fun c hc=>by
 rw[aV.mp hc];exact⟨⟨by decide,by decide,by decide⟩,by decide,by decide⟩,fK _ _,by decide,As (by decide)⟩
theorem Oe:Rt [(1,0),(2,0),(2,1)]:=⟨fun c hc=>by
 simp only[Δ,aR,or_false] at hc;rcases hc with rfl|rfl|rfl<;>exact⟨⟨by decide,by decide,by decide⟩,by decide,by decide⟩,by
 refine dw.mpr ⟨fun c hc=>?_,dw.mpr ⟨fun c hc=>?_,fK _ _⟩⟩
 ·simp only[Δ,aR,or_false] at hc;rcases hc with rfl|rfl<;>exact .inl (by decide)
 ·rw[aV.mp hc];exact .inr ⟨rfl,by decide⟩,by decide,As (by decide)⟩
theorem Ym{D3:ng}{G:Gp}{pp:ζ}{x0 x1 x2 x4:Option D}(hpp:G pp=some .ny)(q:∀G' x4,Sub G G'->D3.nx [x0,x1,x2,some (.obj pp),x4] G'):Ja D3 [x0,x1,x2,some (.obj pp),x4] G:=by
 refine⟨pp,rfl,hpp,fun cs rt=>⟨cs,rfl,rt,fun G1 s1=>⟨nofun,fun _=>⟨pp,rfl,s1 _ _ hpp,fun es sm hl hr=>?_⟩⟩⟩⟩;have h6:(es.take 6).length≤6:=by rw[bW];lia
 refine⟨es.take 6,?_,⟨fun c hc=>sm c (eF hc),hr.take 6,by lia,As h6⟩,fun G2 s2=>⟨nofun,fun _=>?_⟩⟩
 ·show [D.tup (jw (es.map cD) none (some ((6:Nat):Int)))]=_;rw[rX,xp];rfl
 refine⟨pp,rfl,s2 _ _ (s1 _ _ hpp),fun ws hw hgt=>?_⟩;exact⟨0,ws,rfl,hw,hgt,nofun,fun _=>⟨1,ws,rfl,hw,hgt,nofun,fun _=>q G2 _ (s1.trans s2)⟩⟩
theorem Yl:∀ds G Q,nk ds G Q->IZ (bf Q) (bc ["script","clocks","cell","pen","wide"] ds) G:=by
 rintro ds G Q ⟨ns,rfl,hl,q⟩;intro pa Ga na;refine⟨_,na.at_,?_⟩;refine nv (fun ds τ G'=>(∃css:List (List aG),ds=css.map fW/\∀cs∈css,Rt cs)/\Sub Ga G'/\∃x1,τ=[some (.dW (ns.map .int)),x1,none,none,none]) (fun _ _ _ h=>h.2.1 _ _ na.at_) ?_ ?_ _ _ _ ⟨⟨[[],[(1,0)],[(1,0),(2,0),(2,1)]],rfl,fun cs hc=>?_⟩,Sub.refl _,_,rfl⟩
 ·rintro d ds τ G1 N ⟨⟨css,e,hc⟩,s1,x1,rfl⟩ hN;cases css with
  |nil=>cases e
  |cons cs css=>
   cases e;exact⟨cs,rfl,hc cs χ,fun G2 s2=>⟨nofun,fun _=>hN _ _ ⟨⟨css,rfl,fun z hz=>hc z (ψ _ hz)⟩,s1.trans s2,_,rfl⟩⟩⟩
 ·rintro τ Gb ⟨_,sb,x1,rfl⟩;refine⟨ns,0,rfl,fun i=>?_⟩;intro q0 G0 n0 q1 G1 n1;rw[rX] at n1;have hcl:=QN ns (some 1) (some 4);refine⟨_,_,n1.sub _ _ n0.at_,n1.at_,?_,fun q2 G2 n2=>?_⟩
  ·rw[π];exact dY (by simp;lia)
  have s2:=(na.sub.trans sb).trans ((n0.sub.trans n1.sub).trans n2.sub);refine⟨_,n2.at_,?_⟩;refine nv (fun ds τ G'=>(∃is:List Int,ds=is.map D.int)/\Sub G2 G'/\∃x1 x2 x3 x4,τ=[some (.dW (ns.map .int)),x1,x2,x3,x4]) (fun _ _ _ h=>h.2.1 _ _ n2.at_) ?_ ?_ _ _ _ ⟨⟨i::qT ns (some 1) (some 4),rfl⟩,Sub.refl _,_,_,_,_,rfl⟩
  ·rintro d ds τ G3 N ⟨⟨is,e⟩,s3,x1,x2,x3,x4,rfl⟩ hN;cases is with
   |nil=>cases e
   |cons cc is=>
    cases e;exact⟨cc,rfl,fun pp G4 n4=>Ym n4.at_ fun G5 x5 s5=>hN _ _ ⟨⟨is,rfl⟩,s3.trans (n4.sub.trans s5),_,_,_,_,rfl⟩⟩
  ·rintro τ G3 ⟨_,s3,x1,x2,x3,x4,rfl⟩;exact mH (s2.trans s3) q
 ·simp only[Δ,aR,or_false] at hc;rcases hc with rfl|rfl|rfl
  ·exact Og
  ·exact Of
  ·exact Oe
end My
namespace My
open PySem L2 L3
def top(i:Nat):aQ:=PySem.Challenge.pw_coverclocks_k27_least_covers.main.body.getD i (.Pass ⟨0,0,0,0⟩)
def Nv:aQ->aQ
 |.ClassDef _ _ _ b ..=>b.getD 0 (.Pass ⟨0,0,0,0⟩)
 |s=>s
abbrev DP:aQ:=top 11
abbrev Yk:List ν:=["many","most"]
theorem Yj:bz Yk ["many","most"] (ω DP):=⟨rfl,rfl,rfl,by decide +kernel,rfl,by decide +kernel,by decide +kernel⟩
abbrev DO:aQ:=top 12
abbrev Yi:List ν:=["times","number","turn"]
theorem wu:bz Yi ["times"] (ω DO):=⟨rfl,rfl,rfl,by decide +kernel,rfl,by decide +kernel,by decide +kernel⟩
abbrev DN:aQ:=top 13
abbrev Yh:List ν:=["one","other","left"]
theorem x9:bz Yh ["one","other"] (ω DN):=⟨rfl,rfl,rfl,by decide +kernel,rfl,by decide +kernel,by decide +kernel⟩
abbrev DM:aQ:=top 14
abbrev Yg:List ν:=["numbers","least","number"]
theorem ya:bz Yg ["numbers"] (ω DM):=⟨rfl,rfl,rfl,by decide +kernel,rfl,by decide +kernel,by decide +kernel⟩
abbrev A3:aQ:=top 16
abbrev IY:List ν:=["clocks"]
theorem Yf:bz IY ["clocks"] (ω A3):=⟨rfl,rfl,rfl,by decide +kernel,rfl,by decide +kernel,by decide +kernel⟩
abbrev xb:aQ:=top 18
abbrev A2:List ν:=["clocks","bits","wanted","spared"]
theorem x8:bz A2 ["clocks"] (ω xb):=⟨rfl,rfl,rfl,by decide +kernel,rfl,by decide +kernel,by decide +kernel⟩
abbrev DL:aQ:=top 19
abbrev Ye:List ν:=["clocks"]
theorem YN:bz Ye ["clocks"] (ω DL):=⟨rfl,rfl,rfl,by decide +kernel,rfl,by decide +kernel,by decide +kernel⟩
abbrev DK:aQ:=top 20
abbrev YM:List ν:=["clocks","bits","many","marks","clock","bit","number"]
theorem rm:bz YM ["clocks","bits"] (ω DK):=⟨rfl,rfl,rfl,by decide +kernel,rfl,by decide +kernel,by decide +kernel⟩
abbrev DJ:aQ:=top 21
abbrev YL:List ν:=["clocks","bits","wanted","mark","bit"]
theorem wo:bz YL ["clocks","bits"] (ω DJ):=⟨rfl,rfl,rfl,by decide +kernel,rfl,by decide +kernel,by decide +kernel⟩
abbrev A0:aQ:=top 22
abbrev Iq:List ν:=["wanted","bits","mark"]
theorem YK:bz Iq ["wanted","bits","mark"] (ω A0):=⟨rfl,rfl,rfl,by decide +kernel,rfl,by decide +kernel,by decide +kernel⟩
abbrev AZ:aQ:=top 23
abbrev Ip:List ν:=["bits","mark"]
theorem YJ:bz Ip ["bits","mark"] (ω AZ):=⟨rfl,rfl,rfl,by decide +kernel,rfl,by decide +kernel,by decide +kernel⟩
abbrev DI:aQ:=top 25
abbrev YI:List ν:=["script","k"]
theorem YH:bz YI ["script","k"] (ω DI):=⟨rfl,rfl,rfl,by decide +kernel,rfl,by decide +kernel,by decide +kernel⟩
abbrev DH:aQ:=top 26
abbrev YG:List ν:=["seed"]
theorem CM:bz YG ["seed"] (ω DH):=⟨rfl,rfl,rfl,by decide +kernel,rfl,by decide +kernel,by decide +kernel⟩
abbrev DG:aQ:=top 27
abbrev YF:List ν:=["cell","left"]
theorem CO:bz YF ["cell"] (ω DG):=⟨rfl,rfl,rfl,by decide +kernel,rfl,by decide +kernel,by decide +kernel⟩
abbrev DF:aQ:=top 28
abbrev YE:List ν:=["pen","many","found"]
theorem CN:bz YE ["pen","many"] (ω DF):=⟨rfl,rfl,rfl,by decide +kernel,rfl,by decide +kernel,by decide +kernel⟩
abbrev DE:aQ:=top 29
abbrev X3:List ν:=["found"]
theorem X2:bz X3 ["found"] (ω DE):=⟨rfl,rfl,rfl,by decide +kernel,rfl,by decide +kernel,by decide +kernel⟩
abbrev DD:aQ:=top 30
abbrev X1:List ν:=["e","marks"]
theorem yv:bz X1 ["e"] (ω DD):=⟨rfl,rfl,rfl,by decide +kernel,rfl,by decide +kernel,by decide +kernel⟩
abbrev DC:aQ:=top 31
abbrev X0:List ν:=["e"]
theorem XZ:bz X0 ["e"] (ω DC):=⟨rfl,rfl,rfl,by decide +kernel,rfl,by decide +kernel,by decide +kernel⟩
abbrev DB:aQ:=top 32
abbrev XY:List ν:=["one","other"]
theorem wt:bz XY ["one","other"] (ω DB):=⟨rfl,rfl,rfl,by decide +kernel,rfl,by decide +kernel,by decide +kernel⟩
abbrev DA:aQ:=top 33
abbrev XX:List ν:=["clocks","found","step","rest"]
theorem kN:bz XX ["clocks"] (ω DA):=⟨rfl,rfl,rfl,by decide +kernel,rfl,by decide +kernel,by decide +kernel⟩
abbrev AY:aQ:=top 34
abbrev Io:List ν:=["clocks","number"]
theorem XW:bz Io ["clocks","number"] (ω AY):=⟨rfl,rfl,rfl,by decide +kernel,rfl,by decide +kernel,by decide +kernel⟩
abbrev AX:aQ:=top 35
abbrev Im:List ν:=["pen","times","found","turn","spot","k","step","rest"]
theorem nq:bz Im ["pen","times"] (ω AX):=⟨rfl,rfl,rfl,by decide +kernel,rfl,by decide +kernel,by decide +kernel⟩
abbrev Dz:aQ:=top 36
abbrev XU:List ν:=["pen","way","found","steps","turn","step"]
theorem rS:bz XU ["pen"] (ω Dz):=⟨rfl,rfl,rfl,by decide +kernel,rfl,by decide +kernel,by decide +kernel⟩
abbrev Dy:aQ:=top 37
abbrev XT:List ν:=["pen","found","turn","step"]
theorem wq:bz XT ["pen"] (ω Dy):=⟨rfl,rfl,rfl,by decide +kernel,rfl,by decide +kernel,by decide +kernel⟩
abbrev AW:aQ:=top 38
abbrev Il:List ν:=["many","found","place"]
theorem wx:bz Il ["many"] (ω AW):=⟨rfl,rfl,rfl,by decide +kernel,rfl,by decide +kernel,by decide +kernel⟩
abbrev AV:aQ:=top 39
abbrev Ij:List ν:=["clocks","places","some","alone","number","now"]
theorem tV:bz Ij ["clocks","places"] (ω AV):=⟨rfl,rfl,rfl,by decide +kernel,rfl,by decide +kernel,by decide +kernel⟩
abbrev AU:aQ:=top 40
abbrev Ii:List ν:=["found","due"]
theorem XS:bz Ii ["found","due"] (ω AU):=⟨rfl,rfl,rfl,by decide +kernel,rfl,by decide +kernel,by decide +kernel⟩
abbrev Dx:aQ:=top 41
abbrev XR:List ν:=["pen","some"]
theorem FZ:bz XR ["pen"] (ω Dx):=⟨rfl,rfl,rfl,by decide +kernel,rfl,by decide +kernel,by decide +kernel⟩
abbrev xa:aQ:=top 42
abbrev AS:List ν:=["clocks","due","turn","found"]
theorem tU:bz AS ["clocks"] (ω xa):=⟨rfl,rfl,rfl,by decide +kernel,rfl,by decide +kernel,by decide +kernel⟩
abbrev Dw:aQ:=top 43
abbrev XQ:List ν:=["way","clocks","e"]
theorem CP:bz XQ ["way","clocks"] (ω Dw):=⟨rfl,rfl,rfl,by decide +kernel,rfl,by decide +kernel,by decide +kernel⟩
abbrev Dv:aQ:=top 44
abbrev XO:List ν:=["script","clocks","cell","pen","wide"]
theorem tW:bz XO ["script"] (ω Dv):=⟨rfl,rfl,rfl,by decide +kernel,rfl,by decide +kernel,by decide +kernel⟩
abbrev w9:aQ:=Nv (top 8)
theorem XN:bz ["self","many","most"] ["self","many","most"] (ω w9):=⟨rfl,rfl,rfl,by decide +kernel,rfl,by decide +kernel,by decide +kernel⟩
set_option genInjectivity false in
structure He where
 Fs:ζ
 FF:ag
 BI:ζ
 B5:ag
 Fz:ζ
 FN:ag
 FA:ζ
 FO:ag
 BM:ζ
 B9:ag
 Fv:ζ
 FI:ag
 Fu:ζ
 FH:ag
 BR:ζ
 Ce:ag
 Ft:ζ
 FG:ag
 BU:ζ
 Cg:ag
 BV:ζ
 Ci:ag
 BS:ζ
 Cf:ag
 BK:ζ
 B7:ag
 BQ:ζ
 Cd:ag
 BL:ζ
 B8:ag
 yg:ζ
 yj:ag
 BX:ζ
 Ck:ag
 Fy:ζ
 FL:ag
 ye:ζ
 yh:ag
 yf:ζ
 yi:ag
 BG:ζ
 B3:ag
 BO:ζ
 Cb:ag
 Fx:ζ
 FK:ag
 BH:ζ
 B4:ag
 BJ:ζ
 B6:ag
 BP:ζ
 Cc:ag
 Fw:ζ
 FJ:ag
 Fq:ζ
 FE:ag
 BN:ζ
 Ca:ag
 BW:ζ
 Cj:ag
 BY:ζ
 wI:ag
 lY:ζ
 qr:ζ
 oM:ζ
 qp:ζ
 uP:ζ
 oN:ζ
 sD:ζ
 de:ζ
 gF:ζ
 zM:ag
 w6:Tok
structure Txt(K:θ)(mg:ν->Option ε)(t:He):Prop where
 MQ:dQ K "refuse_above" "refuse_above" DP t.Fs t.FF
 aad:mg "refuse_above" = some (.ref t.Fs)
 aaD:Binds K t.FF ["many","most"] []
 Cy:dQ K "doubled" "doubled" DO t.BI t.B5
 Gm:mg "doubled" = some (.ref t.BI)
 GH:Binds K t.B5 ["times"] []
 MU:dQ K "common_divisor" "common_divisor" DN t.Fz t.FN
 aah:mg "common_divisor" = some (.ref t.Fz)
 aaH:Binds K t.FN ["one","other"] []
 MV:dQ K "common_multiple" "common_multiple" DM t.FA t.FO
 aai:mg "common_multiple" = some (.ref t.FA)
 aaI:Binds K t.FO ["numbers"] []
 GX:dQ K "round_of" "round_of" A3 t.BM t.B9
 Ng:mg "round_of" = some (.ref t.BM)
 NF:Binds K t.B9 ["clocks"] []
 Cw:dQ K "least_covers" "least_covers" xb t.Fv t.FI
 Fh:mg "least_covers" = some (.ref t.Fv)
 FQ:Binds K t.FI ["clocks"] []
 FU:dQ K "fewest_cover" "fewest_cover" DL t.Fu t.FH
 Mk:mg "fewest_cover" = some (.ref t.Fu)
 MH:Binds K t.FH ["clocks"] []
 G8:dQ K "ring_marks" "ring_marks" DK t.BR t.Ce
 Nk:mg "ring_marks" = some (.ref t.BR)
 NI:Binds K t.Ce ["clocks","bits"] []
 MR:dQ K "wanted_marks" "wanted_marks" DJ t.Ft t.FG
 aae:mg "wanted_marks" = some (.ref t.Ft)
 aaE:Binds K t.FG ["clocks","bits"] []
 Hc:dQ K "most_spared" "most_spared" A0 t.BU t.Cg
 Nm:mg "most_spared" = some (.ref t.BU)
 NK:Binds K t.Cg ["wanted","bits","mark"] []
 Hd:dQ K "places_kept" "places_kept" AZ t.BV t.Ci
 Nn:mg "places_kept" = some (.ref t.BV)
 NL:Binds K t.Ci ["bits","mark"] []
 G9:dQ K "_law_cell_at" "_law_cell_at" DI t.BS t.Cf
 Nl:mg "_law_cell_at" = some (.ref t.BS)
 NJ:Binds K t.Cf ["script","k"] []
 Cz:dQ K "_law_next" "_law_next" DH t.BK t.B7
 Gn:mg "_law_next" = some (.ref t.BK)
 GI:Binds K t.B7 ["seed"] []
 GZ:dQ K "_law_pen_of" "_law_pen_of" DG t.BQ t.Cd
 Nj:mg "_law_pen_of" = some (.ref t.BQ)
 NH:Binds K t.Cd ["cell"] []
 ix:dQ K "_law_draw" "_law_draw" DF t.BL t.B8
 iT:mg "_law_draw" = some (.ref t.BL)
 iZ:Binds K t.B8 ["pen","many"] []
 yo:dQ K "_law_whole" "_law_whole" DE t.yg t.yj
 Bt:mg "_law_whole" = some (.ref t.yg)
 Cq:Binds K t.yj ["found"] []
 CC:dQ K "_law_kind_of" "_law_kind_of" DD t.BX t.Ck
 Gv:mg "_law_kind_of" = some (.ref t.BX)
 GN:Binds K t.Ck ["e"] []
 MT:dQ K "_law_great_told" "_law_great_told" DC t.Fy t.FL
 aag:mg "_law_great_told" = some (.ref t.Fy)
 aaG:Binds K t.FL ["e"] []
 yl:dQ K "_law_gcd" "_law_gcd" DB t.ye t.yh
 Gk:mg "_law_gcd" = some (.ref t.ye)
 GG:Binds K t.yh ["one","other"] []
 yn:dQ K "_law_round" "_law_round" DA t.yf t.yi
 Gq:mg "_law_round" = some (.ref t.yf)
 GJ:Binds K t.yi ["clocks"] []
 GU:dQ K "_law_at" "_law_at" AY t.BG t.B3
 Nc:mg "_law_at" = some (.ref t.BG)
 NB:Binds K t.B3 ["clocks","number"] []
 CA:dQ K "_law_split" "_law_split" AX t.BO t.Cb
 Gr:mg "_law_split" = some (.ref t.BO)
 GK:Binds K t.Cb ["pen","times"] []
 MS:dQ K "_law_clocks_of" "_law_clocks_of" Dz t.Fx t.FK
 aaf:mg "_law_clocks_of" = some (.ref t.Fx)
 aaF:Binds K t.FK ["pen"] []
 GV:dQ K "_law_few" "_law_few" Dy t.BH t.B4
 Nd:mg "_law_few" = some (.ref t.BH)
 NC:Binds K t.B4 ["pen"] []
 GW:dQ K "_law_sets" "_law_sets" AW t.BJ t.B6
 Nf:mg "_law_sets" = some (.ref t.BJ)
 ND:Binds K t.B6 ["many"] []
 GY:dQ K "_law_least" "_law_least" AV t.BP t.Cc
 Nh:mg "_law_least" = some (.ref t.BP)
 NG:Binds K t.Cc ["clocks","places"] []
 FV:dQ K "_law_tuple_is" "_law_tuple_is" AU t.Fw t.FJ
 Ml:mg "_law_tuple_is" = some (.ref t.Fw)
 MI:Binds K t.FJ ["found","due"] []
 MP:dQ K "_law_wide_of" "_law_wide_of" Dx t.Fq t.FE
 aac:mg "_law_wide_of" = some (.ref t.Fq)
 aaC:Binds K t.FE ["pen"] []
 ym:dQ K "_law_right" "_law_right" xa t.BN t.Ca
 Bs:mg "_law_right" = some (.ref t.BN)
 Cp:Binds K t.Ca ["clocks"] []
 CB:dQ K "_law_refused" "_law_refused" Dw t.BW t.Cj
 Gu:mg "_law_refused" = some (.ref t.BW)
 GL:Binds K t.Cj ["way","clocks"] []
 NN:dQ K "law" "law" Dv t.BY t.wI
 Nq:mg "law" = some (.ref t.BY)
 abk:Binds K t.wI ["script"] []
 zk:mg "ClockError" = some (.ref t.lY)
 Hx:dI K "ClockError" t.lY
 C2:mg "NoClock" = some (.ref t.qr)
 Ny:dI K "NoClock" t.qr
 Bv:mg "NoNumber" = some (.ref t.oM)
 MW:dI K "NoNumber" t.oM
 C1:mg "NoPlace" = some (.ref t.qp)
 Nx:dI K "NoPlace" t.qp
 Ho:mg "NoRow" = some (.ref t.uP)
 aaz:dI K "NoRow" t.uP
 Bw:mg "NoClocks" = some (.ref t.oN)
 MX:dI K "NoClocks" t.oN
 Fi:mg "NoText" = some (.ref t.sD)
 NV:dI K "NoText" t.sD
 wB:mg "TooGreat" = some (.ref t.de)
 eA:dI K "TooGreat" t.de
 wA:uR K t.de t.lY t.gF t.zM "TooGreat.__init__" w9 ["many","most"]
 gf:gA K t.de
 tE:aw K (.ref t.de) (.ref t.qr)=some false
 sr:aw K (.ref t.de) (.ref t.oN)=some false
 sk:aw K (.ref t.de) (.ref t.oM)=some false
 tD:aw K (.ref t.de) (.ref t.qp)=some false
 uT:aw K (.ref t.de) (.ref t.uP)=some false
 uc:aw K (.ref t.de) (.ref t.sD)=some false
 sj:aw K (.ref t.de) (.ref t.de)=some true
 zI:aw K (.ref t.de) (.type "ValueError")=some true
 vY:pL K t.de "many"
 vX:pL K t.de "most"
 xD:mg "MOST_NUMBERS" = some (.int 10000 t.w6)
 zj:mg "ValueError" = none
 Bu:mg "all" = none
 Mn:mg "bool" = none
 zH:mg "enumerate" = none
 Gy:mg "int" = none
 dA:mg "isinstance" = none
 jF:mg "len" = none
 Mm:mg "list" = none
 Np:mg "max" = none
 Gx:mg "min" = none
 g0:mg "range" = none
 Gw:mg "set" = none
 pF:mg "sorted" = none
 rq:mg "tuple" = none
 Nb:mg "zip" = none
abbrev rs:List ν:=["TooGreat"]
section
variable {P:Ω} {w:ah} {K:θ} {mg:ν->Option ε} {base:Ψ} {t:He}
theorem pk{x:ν}{C D:ζ}(h:dI K x C)(h2:dI K x D):C=D:=by
 unfold dI at h h2;rw[h] at h2;cases h2;rfl
theorem Txt.zK(T:Txt K mg t):∀z∈rs,∀D,dI K z D->gA K D/\aw K (.ref D) (.ref t.qr)=some (z=="NoClock"):=by
 intro z hz D cn;simp only[Δ,aR,or_false] at hz;subst hz;cases pk cn T.eA;exact⟨T.gf,T.tE⟩
theorem Txt.zt(T:Txt K mg t):∀z∈rs,∀D,dI K z D->gA K D/\aw K (.ref D) (.ref t.oN)=some (z=="NoClocks"):=by
 intro z hz D cn;simp only[Δ,aR,or_false] at hz;subst hz;cases pk cn T.eA;exact⟨T.gf,T.sr⟩
theorem Txt.zr(T:Txt K mg t):∀z∈rs,∀D,dI K z D->gA K D/\aw K (.ref D) (.ref t.oM)=some (z=="NoNumber"):=by
 intro z hz D cn;simp only[Δ,aR,or_false] at hz;subst hz;cases pk cn T.eA;exact⟨T.gf,T.sk⟩
theorem Txt.zJ(T:Txt K mg t):∀z∈rs,∀D,dI K z D->gA K D/\aw K (.ref D) (.ref t.qp)=some (z=="NoPlace"):=by
 intro z hz D cn;simp only[Δ,aR,or_false] at hz;subst hz;cases pk cn T.eA;exact⟨T.gf,T.tD⟩
theorem Txt.C4(T:Txt K mg t):∀z∈rs,∀D,dI K z D->gA K D/\aw K (.ref D) (.ref t.uP)=some (z=="NoRow"):=by
 intro z hz D cn;simp only[Δ,aR,or_false] at hz;subst hz;cases pk cn T.eA;exact⟨T.gf,T.uT⟩
theorem Txt.Bx(T:Txt K mg t):∀z∈rs,∀D,dI K z D->gA K D/\aw K (.ref D) (.ref t.sD)=some (z=="NoText"):=by
 intro z hz D cn;simp only[Δ,aR,or_false] at hz;subst hz;cases pk cn T.eA;exact⟨T.gf,T.uc⟩
theorem Txt.zq(T:Txt K mg t):∀z∈rs,∀D,dI K z D->gA K D/\aw K (.ref D) (.ref t.de)=some (z=="TooGreat"):=by
 intro z hz D cn;simp only[Δ,aR,or_false] at hz;subst hz;cases pk cn T.eA;exact⟨T.gf,T.sj⟩
theorem Txt.isv(T:Txt K mg t):∀z∈rs,∀D,dI K z D->gA K D/\aw K (.ref D) (.type "ValueError")=some true:=by
 intro z hz D cn;simp only[Δ,aR,or_false] at hz;subst hz;cases pk cn T.eA;exact⟨T.gf,T.zI⟩
theorem Txt.zx(T:Txt K mg t):∀z∈rs,∀D,dI K z D->pL K D "many":=by
 intro z hz D cn;simp only[Δ,aR,or_false] at hz;subst hz;cases pk cn T.eA;exact T.vY
theorem Txt.zw(T:Txt K mg t):∀z∈rs,∀D,dI K z D->pL K D "most":=by
 intro z hz D cn;simp only[Δ,aR,or_false] at hz;subst hz;cases pk cn T.eA;exact T.vX
theorem Txt.takes(T:Txt K mg t):Cr K rs t.lY:=by
 intro z hz D cn;simp only[Δ,aR,or_false] at hz;subst hz;cases pk cn T.eA;exact⟨_,T.wA.ex⟩
theorem XM:∀ds Q E,yO ds Q E->ds.length=2:=by
 intro ds Q E h
 first
  | (rcases ds with _|⟨_,_|⟨_,_|⟨_,_|⟨_,_⟩⟩⟩⟩<;>first|rfl|exact h.elim)
  | (obtain⟨rfl,_⟩:=h;rfl)
  | (obtain⟨_,rfl,_⟩:=h;rfl)
  | (obtain⟨_,_,rfl,_⟩:=h;rfl)
  | (obtain⟨_,_,_,rfl,_⟩:=h;rfl)
  | (obtain⟨_,_,_,_,rfl,_⟩:=h;rfl)
  | (obtain⟨_,_,_,_,_,rfl,_⟩:=h;rfl)
  | (obtain⟨_,_,_,_,_,_,rfl,_⟩:=h;rfl)
  | (obtain⟨_,_,_,_,_,_,_,rfl,_⟩:=h;rfl)
  | (obtain⟨_,_,_,_,_,_,_,_,rfl,_⟩:=h;rfl)
theorem XJ(T:Txt K mg t):pK P w K mg base 1 t.Fs t.FF ["many","most"] yO:=by
 refine yA (k:=0) (sp:=yO) T.MQ Yj (by decide) XM JG (fun cdv A outer s H E0 E hr hE=>?_) P7;refine cu (nt (kC Fn EW (Φ (pv 0)) (Φ (pv 1)) (dh _)) ?_ nu);refine cu (RN RP hE T.wA T.eA T.wB hr rfl (aa (Φ (pv 0)) (aa (Φ (pv 1)) aM)))
theorem XI:∀ds G Q,xh ds G Q->ds.length=1:=by
 intro ds G Q h;obtain⟨_,rfl,_⟩:=h;rfl
theorem Ih(T:Txt K mg t):dS P w K mg base 1 t.BI t.B5 ["times"] xh:=by
 refine gJ (k:=0) (sp:=xh) T.Cy wu (by decide) XI (JN) (fun cdv A outer s H E hr=>?_) ZD;refine cw (e8 (i:=1) wu.nd bw) (cw ?_ (cu (eK (Φ (pv 1)))));refine og cf rfl (pz T.g0 (aa (Φ (pv 0)) aM)) (fL (i:=2) wu.nd) ?_;refine cu (R9 (i:=1) Sf wu.nd (Φ (pv 1)) LZ)
theorem XH:∀ds G Q,za ds G Q->ds.length=2:=by
 intro ds G Q h;obtain⟨_,_,rfl,_⟩:=h;rfl
theorem XG(T:Txt K mg t):dS P w K mg base 1 t.Fz t.FN ["one","other"] za:=by
 refine gJ (k:=0) (sp:=za) T.MU x9 (by decide) XH (JU) (fun cdv A outer s H E hr=>?_) Qw;refine cw ?_ (cu (eK (Φ (pv 0))));refine EZ cf (kC xF (xw hr.units) (Φ (pv 1)) bw (dh _)) ?_;refine cw (e8 (i:=2) x9.nd (dX r8 sd (Φ (pv 0)) (Φ (pv 1)))) ?_;refine cw (e8 (i:=0) x9.nd (Φ (pv 1))) (cu (e8 (i:=1) x9.nd (Φ (pv 2))))
theorem XF:∀ds G Q,y9 ds G Q->ds.length=1:=by
 intro ds G Q h;obtain⟨_,_,rfl,_⟩:=h;rfl
theorem XD(T:Txt K mg t):dS P w K mg base 2 t.FA t.FO ["numbers"] y9:=by
 refine gJ (k:=1) (sp:=y9) T.MV ya (by decide) XF (JT) (fun cdv A outer s H E hr=>?_) Qs;refine cw (e8 (i:=1) ya.nd bw) (cw ?_ (cu (eK (Φ (pv 1)))));refine og cf rfl (oh (Φ (pv 0))) (fL (i:=2) ya.nd) (cu ?_);refine e8 (i:=1) ya.nd (dX qH qI (Φ (pv 1)) (dX yV yW (Φ (pv 2)) ?_));refine eJ ((XG T).mono (by decide)) hr T.aah T.MU.kp T.aaH ?_;refine aa (Φ (pv 1)) (aa (Φ (pv 2)) aM)
theorem XC:∀ds G Q,y8 ds G Q->ds.length=1:=by
 intro ds G Q h;obtain⟨_,rfl,_⟩:=h;rfl
theorem XB(T:Txt K mg t):dS P w K mg base 3 t.BM t.B9 ["clocks"] y8:=by
 refine gJ (k:=2) (sp:=y8) T.GX Yf (by decide) XC (JS) (fun cdv A outer s H E hr=>?_) Qq;refine cu (eK ?_);refine eJ ((XD T).mono (by decide)) hr T.aai T.MV.kp T.aaI (aa ?_ aM);refine nO rfl (show dM IY (ω A3) _ ["clock"] [] from⟨rfl,by decide +kernel,by decide +kernel,by decide +kernel,by decide +kernel,by decide +kernel⟩) ?_ ?_;refine oh (Φ (pv 0));intro s0 H0 fp0;refine⟨(fL (i:=0) (show (["clock"]:List ν).Nodup by decide +kernel)),r0,(lK (Φ (pv 0)) bw)⟩
theorem XA:∀ds Q E,yE ds Q E->ds.length=2:=by
 intro ds Q E h
 first
  | (rcases ds with _|⟨_,_|⟨_,_|⟨_,_|⟨_,_⟩⟩⟩⟩<;>first|rfl|exact h.elim)
  | (obtain⟨rfl,_⟩:=h;rfl)
  | (obtain⟨_,rfl,_⟩:=h;rfl)
  | (obtain⟨_,_,rfl,_⟩:=h;rfl)
  | (obtain⟨_,_,_,rfl,_⟩:=h;rfl)
  | (obtain⟨_,_,_,_,rfl,_⟩:=h;rfl)
  | (obtain⟨_,_,_,_,_,rfl,_⟩:=h;rfl)
  | (obtain⟨_,_,_,_,_,_,rfl,_⟩:=h;rfl)
  | (obtain⟨_,_,_,_,_,_,_,rfl,_⟩:=h;rfl)
  | (obtain⟨_,_,_,_,_,_,_,_,rfl,_⟩:=h;rfl)
theorem Xz(T:Txt K mg t):pK P w K mg base 4 t.BR t.Ce ["clocks","bits"] yE:=by
 refine yA (k:=3) (sp:=yE) T.G8 rm (by decide) XA IE (fun cdv A outer s H E0 E hr hE=>?_) Y3;refine cw ?_ ?_;refine e8 (i:=2) rm.nd (eJ ((XB T).mono (by decide)) hr T.Ng T.GX.kp T.NF (aa (Φ (pv 0)) aM));refine cw (yP ?_) ?_;refine AH ((XJ T).mono (by decide)) hr (yd hE) T.aad T.MQ.kp T.aaD ?_;refine aa (Φ (pv 2)) (aa (Sb T.xD) aM);refine cw (e8 (i:=3) rm.nd (dX qH qI (lj (aa bw aM)) (Φ (pv 2)))) (cw ?_ (cu (eK (Φ (pv 3)))));refine og ze rfl (R6 T.Nb (aa (Φ (pv 0)) (aa (Φ (pv 1)) aM))) ?_ (cu ?_);refine AO rfl (qE (fL (i:=4) rm.nd) (qE (fL (i:=5) rm.nd) zh));refine og ze rfl (R0 T.g0 (aa (lK (Φ (pv 4)) bw) (aa (Φ (pv 2)) (aa (lK (Φ (pv 4)) bw) aM)))) ?_ ?_;refine fL (i:=6) rm.nd;refine cu (RZ (Φ (pv 3)) (Φ (pv 6)) (Φ (pv 5)))
theorem Yd:∀ds Q E,yD ds Q E->ds.length=2:=by
 intro ds Q E h
 first
  | (rcases ds with _|⟨_,_|⟨_,_|⟨_,_|⟨_,_⟩⟩⟩⟩<;>first|rfl|exact h.elim)
  | (obtain⟨rfl,_⟩:=h;rfl)
  | (obtain⟨_,rfl,_⟩:=h;rfl)
  | (obtain⟨_,_,rfl,_⟩:=h;rfl)
  | (obtain⟨_,_,_,rfl,_⟩:=h;rfl)
  | (obtain⟨_,_,_,_,rfl,_⟩:=h;rfl)
  | (obtain⟨_,_,_,_,_,rfl,_⟩:=h;rfl)
  | (obtain⟨_,_,_,_,_,_,rfl,_⟩:=h;rfl)
  | (obtain⟨_,_,_,_,_,_,_,rfl,_⟩:=h;rfl)
  | (obtain⟨_,_,_,_,_,_,_,_,rfl,_⟩:=h;rfl)
theorem Yc(T:Txt K mg t):pK P w K mg base 5 t.Ft t.FG ["clocks","bits"] yD:=by
 refine yA (k:=4) (sp:=yD) T.MR wo (by decide) Yd ID (fun cdv A outer s H E0 E hr hE=>?_) YW;refine cw ?_ ?_;refine e8 (i:=2) wo.nd (dX qH qI (lj (aa lP aM)) ?_);refine eJ ((Ih T).mono (by decide)) hr T.Gm T.Cy.kp T.GH (aa (nP hr.units T.jF (aa (Φ (pv 0)) aM)) aM);refine cw ?_ (cw ?_ (cu (eK (Φ (pv 2)))));refine og ze rfl (oh ?_) (fL (i:=3) wo.nd) (cu (zg lP (AN (Φ (pv 2)) (Φ (pv 3)))));refine Jy ((Xz T).mono (by decide)) hr (yd hE) T.Nk T.G8.kp T.NI ?_;refine aa (Φ (pv 0)) (aa (Φ (pv 1)) aM);refine og ze rfl (oh (Φ (pv 1))) (fL (i:=4) wo.nd) (cu ?_);refine og ze rfl (pz T.g0 (aa (nP hr.units T.jF (aa (Φ (pv 2)) aM)) aM)) (fL (i:=3) wo.nd) ?_;refine cu ?_;refine nt (t6 ?_) (cu (zg lP (AN (Φ (pv 2)) (Φ (pv 3))))) nu;refine E7 (kC xF (xw hr.units) (dX DR Et (Φ (pv 3)) (Φ (pv 4))) bw (dh _)) ?_;refine E8 (lO (lK (Φ (pv 2)) (dX EM EX (Φ (pv 3)) (Φ (pv 4)))))
theorem Yb:∀ds G Q,yH ds G Q->ds.length=3:=by
 intro ds G Q h;obtain⟨_,_,_,_,_,rfl,_⟩:=h;rfl
theorem Ya(T:Txt K mg t):dS P w K mg base 1 t.BU t.Cg ["wanted","bits","mark"] yH:=by
 refine gJ (k:=0) (sp:=yH) T.Hc YK (by decide) Yb (JI) (fun cdv A outer s H E hr=>?_) Zz;refine cw (nt (lO (lK (Φ (pv 0)) (Φ (pv 2)))) (cu (eK lP)) nu) (cu (eK (Eh hr.units T.Bu (aa ?_ aM))));refine nO rfl (show dM Iq (ω A0) _ ["bit"] [2,0] from⟨rfl,by decide +kernel,by decide +kernel,by decide +kernel,by decide +kernel,by decide +kernel⟩) ?_ ?_;refine oh (Φ (pv 1));intro s0 H0 fp0;refine⟨(fL (i:=0) (show (["bit","mark","wanted"]:List ν).Nodup by decide +kernel)),?_,?_⟩;refine zf (kC nR (nQ hr.units) (dX DR Et (Φ (pv 1)) (Φ (pv 0))) bw (dh _));refine lK (Φ (pv 2)) (dX om oo (Φ (pv 1)) (Φ (pv 0)))
theorem X9:∀ds G Q,yG ds G Q->ds.length=2:=by
 intro ds G Q h;obtain⟨_,_,_,rfl,_⟩:=h;rfl
theorem X8(T:Txt K mg t):dS P w K mg base 1 t.BV t.Ci ["bits","mark"] yG:=by
 refine gJ (k:=0) (sp:=yG) T.Hd YJ (by decide) X9 (IX) (fun cdv A outer s H E hr=>?_) Zx;refine cu (eK (AL hr.units T.rq (aa ?_ aM)));refine nO rfl (show dM Ip (ω AZ) _ ["place","bit"] [1] from⟨rfl,by decide +kernel,by decide +kernel,by decide +kernel,by decide +kernel,by decide +kernel⟩) ?_ ?_;refine R4 T.zH (aa (Φ (pv 0)) aM);intro s0 H0 fp0;refine⟨(AO rfl ?_),(zf (kC nR (nQ hr.units) (dX DR Et (Φ (pv 2)) (Φ (pv 1))) bw (dh _))),(Φ (pv 0))⟩;refine qE (fL (i:=0) (show (["place","bit","mark"]:List ν).Nodup by decide +kernel)) ?_;refine qE (fL (i:=1) (show (["place","bit","mark"]:List ν).Nodup by decide +kernel)) zh
theorem X7:∀ds Q E,vQ ds Q E->ds.length=1:=by
 intro ds Q E h
 first
  | (rcases ds with _|⟨_,_|⟨_,_|⟨_,_|⟨_,_⟩⟩⟩⟩<;>first|rfl|exact h.elim)
  | (obtain⟨rfl,_⟩:=h;rfl)
  | (obtain⟨_,rfl,_⟩:=h;rfl)
  | (obtain⟨_,_,rfl,_⟩:=h;rfl)
  | (obtain⟨_,_,_,rfl,_⟩:=h;rfl)
  | (obtain⟨_,_,_,_,rfl,_⟩:=h;rfl)
  | (obtain⟨_,_,_,_,_,rfl,_⟩:=h;rfl)
  | (obtain⟨_,_,_,_,_,_,rfl,_⟩:=h;rfl)
  | (obtain⟨_,_,_,_,_,_,_,rfl,_⟩:=h;rfl)
  | (obtain⟨_,_,_,_,_,_,_,_,rfl,_⟩:=h;rfl)
theorem Du(T:Txt K mg t):pK P w K mg base 6 t.Fv t.FI ["clocks"] vQ:=by
 refine yA (k:=5) (sp:=vQ) T.Cw x8 (by decide) X7 IC (fun cdv A outer s H E0 E hr hE=>?_) YS;refine cw (e8 (i:=1) x8.nd ?_) ?_;refine nO rfl (show dM A2 (ω xb) _ ["place"] [] from⟨rfl,by decide +kernel,by decide +kernel,by decide +kernel,by decide +kernel,by decide +kernel⟩) ?_ ?_;refine pz T.g0 (aa (nP hr.units T.jF (aa (Φ (pv 0)) aM)) aM);intro s0 H0 fp0;refine⟨(fL (i:=0) (show (["place"]:List ν).Nodup by decide +kernel)),r0,?_⟩;refine eJ ((Ih T).mono (by decide)) hr T.Gm T.Cy.kp T.GH (aa (Φ (pv 0)) aM);refine cw (e8 (i:=2) x8.nd ?_) ?_;refine Jy ((Yc T).mono (by decide)) hr (yd hE) T.aae T.MR.kp T.aaE ?_;refine aa (Φ (pv 0)) (aa (Φ (pv 1)) aM);refine cw ?_ (cu (eK (Ei hr.units T.pF (aa ?_ aM))));refine La (i:=3) rfl x8.nd (show dM A2 (ω xb) _ ["mark"] [2,1] from⟨rfl,by decide +kernel,by decide +kernel,by decide +kernel,by decide +kernel,by decide +kernel⟩) ?_ ?_;refine pz T.g0 (aa (nP hr.units T.jF (aa (Φ (pv 2)) aM)) aM);intro s0 H0 fp0;refine⟨(fL (i:=0) (show (["mark","wanted","bits"]:List ν).Nodup by decide +kernel)),(zf (lO ?_)),(Φ (pv 0))⟩;refine eJ ((Ya T).mono (by decide)) hr T.Nm T.Hc.kp T.NK ?_;refine aa (Φ (pv 1)) (aa (Φ (pv 2)) (aa (Φ (pv 0)) aM));refine nO rfl (show dM A2 (ω xb) _ ["mark"] [1] from⟨rfl,by decide +kernel,by decide +kernel,by decide +kernel,by decide +kernel,by decide +kernel⟩) ?_ ?_;refine oh (Φ (pv 3));intro s0 H0 fp0;refine⟨(fL (i:=0) (show (["mark","bits"]:List ν).Nodup by decide +kernel)),r0,?_⟩;refine eJ ((X8 T).mono (by decide)) hr T.Nn T.Hd.kp T.NL (aa (Φ (pv 1)) (aa (Φ (pv 0)) aM))
theorem X6:∀ds Q E,xg ds Q E->ds.length=1:=by
 intro ds Q E h
 first
  | (rcases ds with _|⟨_,_|⟨_,_|⟨_,_|⟨_,_⟩⟩⟩⟩<;>first|rfl|exact h.elim)
  | (obtain⟨rfl,_⟩:=h;rfl)
  | (obtain⟨_,rfl,_⟩:=h;rfl)
  | (obtain⟨_,_,rfl,_⟩:=h;rfl)
  | (obtain⟨_,_,_,rfl,_⟩:=h;rfl)
  | (obtain⟨_,_,_,_,rfl,_⟩:=h;rfl)
  | (obtain⟨_,_,_,_,_,rfl,_⟩:=h;rfl)
  | (obtain⟨_,_,_,_,_,_,rfl,_⟩:=h;rfl)
  | (obtain⟨_,_,_,_,_,_,_,rfl,_⟩:=h;rfl)
  | (obtain⟨_,_,_,_,_,_,_,_,rfl,_⟩:=h;rfl)
theorem Ig(T:Txt K mg t):pK P w K mg base 7 t.Fu t.FH ["clocks"] xg:=by
 refine yA (k:=6) (sp:=xg) T.FU YN (by decide) X6 Iz (fun cdv A outer s H E0 E hr hE=>?_) YO;refine cu (eK (ZJ rfl ?_ T.Gx T.jF));refine AH ((Du T).mono (by decide)) hr (yd hE) T.Fh T.Cw.kp T.FQ (aa (Φ (pv 0)) aM)
theorem X5:∀ds G Q,zc ds G Q->ds.length=2:=by
 intro ds G Q h;obtain⟨_,_,rfl,_⟩:=h;rfl
theorem X4(T:Txt K mg t):dS P w K mg base 1 t.BS t.Cf ["script","k"] zc:=by
 refine gJ (k:=0) (sp:=zc) T.G9 YH (by decide) X5 (J9) (fun cdv A outer s H E hr=>?_) QX;refine cw ?_ (cu (eK bw));refine nt (kC Bq (A4 hr.wg) (Φ (pv 1)) (nP hr.units T.jF (aa (Φ (pv 0)) aM)) (dh _)) ?_ nu;refine cu (eK (lK (Φ (pv 0)) (Φ (pv 1))))
theorem Xt:∀ds G Q,xq ds G Q->ds.length=1:=by
 intro ds G Q h;obtain⟨_,rfl,_⟩:=h;rfl
theorem Ie(T:Txt K mg t):dS P w K mg base 1 t.BK t.B7 ["seed"] xq:=by
 refine gJ (k:=0) (sp:=xq) T.Cz CM (by decide) Xt (J8) (fun cdv A outer s H E hr=>?_) QV;refine cw (e8 (i:=0) CM.nd (dX r8 sd (dX om oo (Φ (pv 0)) bw) bw)) ?_;refine cu (eK (dX r8 sd ?_ bw));refine dX om oo (dX om oo (dX qH qI (Φ (pv 0)) (Φ (pv 0))) (dX qH qI bw (Φ (pv 0)))) bw
theorem Xs:∀ds G Q,AD ds G Q->ds.length=1:=by
 intro ds G Q h;obtain⟨_,rfl,_⟩:=h;rfl
theorem Xr(T:Txt K mg t):dS P w K mg base 1 t.BQ t.Cd ["cell"] D8:=by
 refine jx.imp ?_ QP;refine gJ (k:=0) (sp:=AD) T.GZ CO (by decide) Xs (J6) (fun cdv A outer s H E hr=>?_) QQ;refine cw (e8 (i:=1) CO.nd (R7 hr.units T.Np (aa (Φ (pv 0)) (aa (dX EM EX bw (Φ (pv 0))) aM)))) ?_;refine cu (eK (lj (aa (Φ (pv 1)) ?_)));refine aa (R8 hr.units T.Gy (aa (yR aam Wb (Φ (pv 1)) (dX Ux Wd bw bw) (dh _)) aM)) ?_;refine aa (dX r8 sd (Φ (pv 1)) bw) aM
theorem Xq:∀ds G Q,AE ds G Q->ds.length=2:=by
 intro ds G Q h;obtain⟨_,_,_,_,_,rfl,_⟩:=h;rfl
theorem lh(T:Txt K mg t):dS P w K mg base 2 t.BL t.B8 ["pen","many"] kO:=by
 refine jx.imp ?_ QR;refine gJ (k:=1) (sp:=AE) T.ix CN (by decide) Xq (J7) (fun cdv A outer s H E hr=>?_) QU;refine cw ?_ ?_;refine nt (kC nR (nQ hr.units) (lK (Φ (pv 0)) bw) bw (dh _)) ?_ nu;refine cw (e8 (i:=2) CN.nd (dX r8 sd (lK (Φ (pv 0)) bw) (Φ (pv 1)))) ?_;refine cw (zg (dX yV yW (lK (Φ (pv 0)) bw) (Φ (pv 1))) (AN (Φ (pv 0)) bw)) (cu (eK (Φ (pv 2))));refine cw (zg ?_ (AN (Φ (pv 0)) bw)) ?_;refine eJ ((Ie T).mono (by decide)) hr T.Gn T.Cz.kp T.GI (aa ?_ aM);refine dX om oo (eJ ((Ie T).mono (by decide)) hr T.Gn T.Cz.kp T.GI (aa (lK (Φ (pv 0)) bw) aM)) (bw);refine cu (eK (dX r8 sd (dX yV yW (lK (Φ (pv 0)) bw) bw) (Φ (pv 1))))
theorem Xp:∀ds G Q,vT ds G Q->ds.length=1:=by
 intro ds G Q h
 first
  | (rcases ds with _|⟨_,_|⟨_,_|⟨_,_|⟨_,_⟩⟩⟩⟩<;>first|rfl|exact h.elim)
  | (obtain⟨rfl,_⟩:=h;rfl)
  | (obtain⟨_,rfl,_⟩:=h;rfl)
  | (obtain⟨_,_,rfl,_⟩:=h;rfl)
  | (obtain⟨_,_,_,rfl,_⟩:=h;rfl)
  | (obtain⟨_,_,_,_,rfl,_⟩:=h;rfl)
  | (obtain⟨_,_,_,_,_,rfl,_⟩:=h;rfl)
  | (obtain⟨_,_,_,_,_,_,rfl,_⟩:=h;rfl)
  | (obtain⟨_,_,_,_,_,_,_,rfl,_⟩:=h;rfl)
  | (obtain⟨_,_,_,_,_,_,_,_,rfl,_⟩:=h;rfl)
theorem Dt(T:Txt K mg t):v9 P w K mg base 1 t.yg t.yj ["found"] vT:=by
 refine EI (k:=0) (sp:=vT) T.yo X2 (by decide) Xp (RE) (fun cdv A outer s H E hr=>?_) RD;refine cu (eK ?_);refine E6 (AK S9 rfl (Φ (pv 0)) T.dA T.Gy rfl (by decide) (by decide)) ?_;refine Lc (Sa (AK S8 rfl (Φ (pv 0)) T.dA T.Mn rfl (by decide) (by decide)))
theorem Xo(T:Txt K mg t):dS P w K mg base 1 t.yg t.yj ["found"] vT:=(Dt T).calm
theorem Xn:∀ds G Q,(xm rs) ds G Q->ds.length=1:=by
 intro ds G Q h
 first
  | (rcases ds with _|⟨_,_|⟨_,_|⟨_,_|⟨_,_⟩⟩⟩⟩<;>first|rfl|exact h.elim)
  | (obtain⟨rfl,_⟩:=h;rfl)
  | (obtain⟨_,rfl,_⟩:=h;rfl)
  | (obtain⟨_,_,rfl,_⟩:=h;rfl)
  | (obtain⟨_,_,_,rfl,_⟩:=h;rfl)
  | (obtain⟨_,_,_,_,rfl,_⟩:=h;rfl)
  | (obtain⟨_,_,_,_,_,rfl,_⟩:=h;rfl)
  | (obtain⟨_,_,_,_,_,_,rfl,_⟩:=h;rfl)
  | (obtain⟨_,_,_,_,_,_,_,rfl,_⟩:=h;rfl)
  | (obtain⟨_,_,_,_,_,_,_,_,rfl,_⟩:=h;rfl)
theorem Ib(T:Txt K mg t):v9 P w K mg base 1 t.BX t.Ck ["e"] (xm rs):=by
 refine EI (k:=0) (sp:=(xm rs)) T.CC yv (by decide) Xn (JE rs) (fun cdv A outer s H E hr=>?_) (P2 rs);refine cw (e8 (i:=1) yv.nd ?_) ?_;refine lj (aa (vU (T.zK) (Φ (pv 0)) T.dA T.C2) ?_);refine aa (vU (T.zr) (Φ (pv 0)) T.dA T.Bv) ?_;refine aa (vU (T.zJ) (Φ (pv 0)) T.dA T.C1) (aa (vU (T.C4) (Φ (pv 0)) T.dA T.Ho) aM);refine cw ?_ ?_;refine e8 (i:=1) yv.nd (dX om oo (Φ (pv 1)) (lj ?_));refine aa (vU (T.zt) (Φ (pv 0)) T.dA T.Bw) ?_;refine aa (vU (T.Bx) (Φ (pv 0)) T.dA T.Fi) (aa (vU (T.zq) (Φ (pv 0)) T.dA T.wB) aM);refine cw (nt (t6 ?_) (cu (eK pA)) nu) (cu (eK ?_));refine vC (qF (lO (RM (T.isv) (Φ (pv 0)) T.dA T.zj))) (yQ ?_);refine kC xF (xw hr.units) (xt Rf PySem.F.slot_list_count PySem.F.type_list_count Rh (Φ (pv 1)) (aa lP aM)) bw (dh _);refine AM (aa pA (aa pA (aa pA (aa pA (aa pA (aa pA (aa pA aM))))))) ?_;refine xt Rc PySem.F.slot_list_index PySem.F.type_list_index Rg (Φ (pv 1)) (aa lP aM)
theorem Xm:∀ds G Q,(yN rs) ds G Q->ds.length=1:=by
 intro ds G Q h
 first
  | (rcases ds with _|⟨_,_|⟨_,_|⟨_,_|⟨_,_⟩⟩⟩⟩<;>first|rfl|exact h.elim)
  | (obtain⟨rfl,_⟩:=h;rfl)
  | (obtain⟨_,rfl,_⟩:=h;rfl)
  | (obtain⟨_,_,rfl,_⟩:=h;rfl)
  | (obtain⟨_,_,_,rfl,_⟩:=h;rfl)
  | (obtain⟨_,_,_,_,rfl,_⟩:=h;rfl)
  | (obtain⟨_,_,_,_,_,rfl,_⟩:=h;rfl)
  | (obtain⟨_,_,_,_,_,_,rfl,_⟩:=h;rfl)
  | (obtain⟨_,_,_,_,_,_,_,rfl,_⟩:=h;rfl)
  | (obtain⟨_,_,_,_,_,_,_,_,rfl,_⟩:=h;rfl)
theorem Xl(T:Txt K mg t):v9 P w K mg base 2 t.Fy t.FL ["e"] (yN rs):=by
 refine EI (k:=1) (sp:=(yN rs)) T.MT XZ (by decide) Xm (JD rs) (fun cdv A outer s H E hr=>?_) (P0 rs);refine cw ?_ (cu (eK (kB (aa pA (aa (AG T.zx (Φ (pv 0))) (aa (AG T.zw (Φ (pv 0))) aM))))));refine nt (t6 ?_) (cu (eK ?_)) nu;refine vC (kC xF (xw hr.units) ?_ pA (dh _)) ?_;refine zd ((Ib T).mono (by decide)) hr T.Gv T.CC.kp T.GN (aa (Φ (pv 0)) aM);refine vC (qF ?_) (yQ (qF ?_));refine lO (zd ((Dt T).mono (by decide)) hr T.Bt T.yo.kp T.Cq (aa (AG T.zx (Φ (pv 0))) aM));refine lO (zd ((Dt T).mono (by decide)) hr T.Bt T.yo.kp T.Cq (aa (AG T.zw (Φ (pv 0))) aM));refine kB (aa (zd ((Ib T).mono (by decide)) hr T.Gv T.CC.kp T.GN (aa (Φ (pv 0)) aM)) aM)
theorem Ia:∀ds G Q,vS ds G Q->ds.length=2:=by
 intro ds G Q h
 first
  | (rcases ds with _|⟨_,_|⟨_,_|⟨_,_|⟨_,_⟩⟩⟩⟩<;>first|rfl|exact h.elim)
  | (obtain⟨rfl,_⟩:=h;rfl)
  | (obtain⟨_,rfl,_⟩:=h;rfl)
  | (obtain⟨_,_,rfl,_⟩:=h;rfl)
  | (obtain⟨_,_,_,rfl,_⟩:=h;rfl)
  | (obtain⟨_,_,_,_,rfl,_⟩:=h;rfl)
  | (obtain⟨_,_,_,_,_,rfl,_⟩:=h;rfl)
  | (obtain⟨_,_,_,_,_,_,rfl,_⟩:=h;rfl)
  | (obtain⟨_,_,_,_,_,_,_,rfl,_⟩:=h;rfl)
  | (obtain⟨_,_,_,_,_,_,_,_,rfl,_⟩:=h;rfl)
theorem Xk(T:Txt K mg t):dS P w K mg base 1 t.ye t.yh ["one","other"] vS:=by
 refine gJ (k:=0) (sp:=vS) T.yl wt (by decide) Ia (Kt) (fun cdv A outer s H E hr=>?_) Ks;refine cw ?_ (cu (eK (Φ (pv 0))));refine EZ cf (kC Fn EW (Φ (pv 1)) bw (dh _)) ?_;refine cu (RY (i:=0) (j:=1) rfl wt.nd rfl rfl (by decide) rfl rfl ?_ rfl);refine aa (Φ (pv 1)) (aa (dX r8 sd (Φ (pv 0)) (Φ (pv 1))) aM)
theorem Xj(T:Txt K mg t):sH P w K mg base 1 t.ye t.yh ["one","other"] vS:=by
 refine L7 (k:=0) (sp:=vS) T.yl wt (by decide) Ia (Kt) (fun cdv A outer s H E e oe hr hA=>?_) Ks;refine cw ?_ (cu (eK (Φ (pv 0))));refine EZ cf (kC Fn EW (Φ (pv 1)) bw (dh _)) ?_;refine cu (Pl (i:=0) (j:=1) hA wt.nd rfl rfl (by decide) rfl rfl ?_ rfl);refine aa (Φ (pv 1)) (aa (dX r8 sd (Φ (pv 0)) (Φ (pv 1))) aM)
theorem HZ:∀ds G Q,rW ds G Q->ds.length=1:=by
 intro ds G Q h;obtain⟨_,rfl,_⟩:=h;rfl
theorem Xi(T:Txt K mg t):dS P w K mg base 2 t.yf t.yi ["clocks"] rW:=by
 refine gJ (k:=1) (sp:=rW) T.yn kN (by decide) HZ (Kr) (fun cdv A outer s H E hr=>?_) Kq;refine cw (e8 (i:=1) kN.nd bw) (cw ?_ (cu (eK (Φ (pv 1)))));refine og cf rfl (oh (Φ (pv 0))) ?_ (cu ?_);refine AO rfl (qE (fL (i:=2) kN.nd) (qE (fL (i:=3) kN.nd) zh));refine e8 (i:=1) kN.nd (dX yV yW (dX qH qI (Φ (pv 1)) (Φ (pv 2))) ?_);refine eJ ((Xk T).mono (by decide)) hr T.Gk T.yl.kp T.GG (aa (Φ (pv 1)) (aa (Φ (pv 2)) aM))
theorem Xh(T:Txt K mg t):sH P w K mg base 2 t.yf t.yi ["clocks"] rW:=by
 refine L7 (k:=1) (sp:=rW) T.yn kN (by decide) HZ (Jw) (fun cdv A outer s H E e oe hr hA=>?_) Pf;refine cw (e8 (i:=1) kN.nd bw) (cw ?_ (cu (eK (Φ (pv 1)))));refine Pm cf hA (Φ (pv 0)) (Pn hA (qE (fL (i:=2) kN.nd) (qE (fL (i:=3) kN.nd) zh))) ?_;refine cu ?_;refine e8 (i:=1) kN.nd (dX yV yW (dX qH qI (Φ (pv 1)) (Φ (pv 2))) ?_);refine Pp ((Xj T).mono (by decide)) hr hA T.Gk T.yl.kp T.GG (aa (Φ (pv 1)) (aa (Φ (pv 2)) aM))
theorem Xg:∀ds G Q,yK ds G Q->ds.length=2:=by
 intro ds G Q h;obtain⟨_,_,_,rfl,_⟩:=h;rfl
theorem Xf(T:Txt K mg t):dS P w K mg base 1 t.BG t.B3 ["clocks","number"] yK:=by
 refine gJ (k:=0) (sp:=yK) T.GU XW (by decide) Xg (Jo) (fun cdv A outer s H E hr=>?_) OI;refine cu (eK ?_);refine nO rfl (show dM Io (ω AY) _ ["clock"] [1] from⟨rfl,by decide +kernel,by decide +kernel,by decide +kernel,by decide +kernel,by decide +kernel⟩) ?_ ?_;refine oh (Φ (pv 0));intro s0 H0 fp0;refine⟨(fL (i:=0) (show (["clock","number"]:List ν).Nodup by decide +kernel)),(zf ?_),(Φ (pv 0))⟩;refine kC nR (nQ hr.units) (dX r8 sd (dX EM EX (Φ (pv 1)) (lK (Φ (pv 0)) bw)) (lK (Φ (pv 0)) bw)) bw (dh _)
theorem Xe:∀ds G Q,xk ds G Q->ds.length=2:=by
 intro ds G Q h;obtain⟨_,_,rfl,_⟩:=h;rfl
theorem HY(T:Txt K mg t):dS P w K mg base 3 t.BO t.Cb ["pen","times"] xk:=by
 refine gJ (k:=2) (sp:=xk) T.CA nq (by decide) Xe (Jk) (fun cdv A outer s H E hr=>?_) OX;refine cw (e8 (i:=2) nq.nd (lj (aa (kB (aa bw (aa bw aM))) aM))) ?_;refine cw ?_ (cu (eK (Φ (pv 2))));refine og cf rfl (pz T.g0 (aa (Φ (pv 1)) aM)) (fL (i:=3) nq.nd) ?_;refine cw (e8 (i:=4) nq.nd ?_) ?_;refine eJ ((lh T).mono (by decide)) hr T.iT T.ix.kp T.iZ ?_;refine aa (Φ (pv 0)) (aa (nP hr.units T.jF (aa (Φ (pv 2)) aM)) aM);refine cw ?_ ?_;refine e8 (i:=5) nq.nd (AM (aa bw (aa bw (aa bw aM))) ?_);refine eJ ((lh T).mono (by decide)) hr T.iT T.ix.kp T.iZ (aa (Φ (pv 0)) (aa bw aM));refine cw ?_ (cu ?_);refine zg (lK (Φ (pv 2)) (Φ (pv 4))) (AO rfl (qE (fL (i:=6) nq.nd) (qE (fL (i:=7) nq.nd) zh)));refine nt (t6 ?_) (cu (e8 (i:=2) nq.nd ?_)) nu;refine E7 (kC Bq (A4 hr.wg) (dX om oo (nP hr.units T.jF (aa (Φ (pv 2)) aM)) (Φ (pv 5))) bw (dh _)) ?_;refine E8 (kC Bq (A4 hr.wg) (dX qH qI (Φ (pv 6)) (Φ (pv 5))) bw (dh _));refine dX om oo ?_ (t5 (Φ (pv 2)) (rZ (dX om oo (Φ (pv 4)) bw)) vB);refine dX om oo (t5 (Φ (pv 2)) vB (rZ (Φ (pv 4)))) ?_;refine nO rfl (show dM Im (ω AX) _ ["part"] [6,5,7] from⟨rfl,by decide +kernel,by decide +kernel,by decide +kernel,by decide +kernel,by decide +kernel⟩) ?_ ?_;refine pz T.g0 (aa (Φ (pv 5)) aM);intro s0 H0 fp0;refine⟨(fL (i:=0) (show (["part","step","k","rest"]:List ν).Nodup by decide +kernel)),r0,?_⟩;refine kB (aa (dX qH qI (Φ (pv 1)) (Φ (pv 2))) ?_);refine aa (dX om oo (Φ (pv 3)) (dX qH qI (Φ (pv 1)) (Φ (pv 0)))) aM
theorem Xd:∀ds G Q,yI ds G Q->ds.length=1:=by
 intro ds G Q h;obtain⟨_,rfl,_⟩:=h;rfl
theorem Xc(T:Txt K mg t):dS P w K mg base 4 t.Fx t.FK ["pen"] yI:=by
 refine gJ (k:=3) (sp:=yI) T.MS rS (by decide) Xd (Ji) (fun cdv A outer s H E hr=>?_) ZP;refine cw (e8 (i:=1) rS.nd ?_) (cw (e8 (i:=2) rS.nd (lj aM)) ?_);refine eJ ((lh T).mono (by decide)) hr T.iT T.ix.kp T.iZ (aa (Φ (pv 0)) (aa bw aM));refine cw ?_ ?_;refine nt (kC Bq (A4 hr.wg) (Φ (pv 1)) bw (dh _)) ?_ nu;refine cw (e8 (i:=2) rS.nd ?_) (cu ?_);refine eJ ((HY T).mono (by decide)) hr T.Gr T.CA.kp T.GK (aa (Φ (pv 0)) ?_);refine aa (eJ ((lh T).mono (by decide)) hr T.iT T.ix.kp T.iZ (aa (Φ (pv 0)) (aa bw aM))) aM;refine nt (t6 ?_) (cu (yP ?_)) nu;refine E7 (kC nR (nQ hr.units) (Φ (pv 1)) bw (dh _)) (E8 (kC xF (xw hr.units) (Φ (pv 2)) (lj aM) (dh _)));refine xt UP PySem.F.slot_list_pop PySem.F.type_list_pop Vz (Φ (pv 2)) (aa ?_ aM);refine eJ ((lh T).mono (by decide)) hr T.iT T.ix.kp T.iZ ?_;refine aa (Φ (pv 0)) (aa (nP hr.units T.jF (aa (Φ (pv 2)) aM)) aM);refine cw (e8 (i:=3) rS.nd (lj (aa bw ?_))) ?_;refine aa bw (aa bw (aa bw (aa bw (aa bw (aa bw (aa bw (aa bw (aa bw aM))))))));refine cw ?_ ?_;refine og cf rfl (pz T.g0 ?_) (fL (i:=4) rS.nd) ?_;refine aa (AM (aa bw (aa bw (aa bw (aa bw (aa bw (aa bw aM)))))) (Φ (pv 1))) aM;refine cw (e8 (i:=5) rS.nd ?_) (cu (yP ?_));refine lK (Φ (pv 3)) (eJ ((lh T).mono (by decide)) hr T.iT T.ix.kp T.iZ (aa (Φ (pv 0)) (aa bw aM)));refine xt EH j8 j7 Bc (Φ (pv 2)) (aa (kB (aa (Φ (pv 5)) ?_)) aM);refine aa (eJ ((lh T).mono (by decide)) hr T.iT T.ix.kp T.iZ (aa (Φ (pv 0)) (aa (Φ (pv 5)) aM))) (aM);refine cu (eK (AL hr.units T.rq (aa (t5 (Lb hr.units (Φ (pv 2)) T.pF T.Gw) vB (rZ bw)) aM)))
theorem Xb:∀ds G Q,yF ds G Q->ds.length=1:=by
 intro ds G Q h;obtain⟨_,rfl,_⟩:=h;rfl
theorem Xa(T:Txt K mg t):dS P w K mg base 4 t.BH t.B4 ["pen"] yF:=by
 refine gJ (k:=3) (sp:=yF) T.GV wq (by decide) Xb (IK) (fun cdv A outer s H E hr=>?_) ZY;refine cw (e8 (i:=1) wq.nd (t5 ?_ vB (rZ bw))) ?_;refine eJ ((HY T).mono (by decide)) hr T.Gr T.CA.kp T.GK ?_;refine aa (Φ (pv 0)) (aa (dX om oo bw ?_) aM);refine eJ ((lh T).mono (by decide)) hr T.iT T.ix.kp T.iZ (aa (Φ (pv 0)) (aa bw aM));refine cw ?_ ?_;refine og cf rfl (pz T.g0 ?_) (fL (i:=2) wq.nd) ?_;refine aa (eJ ((lh T).mono (by decide)) hr T.iT T.ix.kp T.iZ (aa (Φ (pv 0)) (aa bw aM))) aM;refine cw (e8 (i:=3) wq.nd ?_) (cu (yP ?_));refine AM (aa bw (aa bw (aa bw (aa bw (aa bw aM))))) ?_;refine eJ ((lh T).mono (by decide)) hr T.iT T.ix.kp T.iZ (aa (Φ (pv 0)) (aa bw aM));refine xt EH j8 j7 Bc (Φ (pv 1)) (aa (kB (aa (Φ (pv 3)) ?_)) aM);refine aa (eJ ((lh T).mono (by decide)) hr T.iT T.ix.kp T.iZ (aa (Φ (pv 0)) (aa (Φ (pv 3)) aM))) (aM);refine cu (eK (AL hr.units T.rq (aa (t5 (Lb hr.units (Φ (pv 1)) T.pF T.Gw) vB (rZ bw)) aM)))
theorem W9:∀ds G Q,yB ds G Q->ds.length=1:=by
 intro ds G Q h;obtain⟨_,rfl,_⟩:=h;rfl
theorem W8(T:Txt K mg t):dS P w K mg base 1 t.BJ t.B6 ["many"] yB:=by
 refine gJ (k:=0) (sp:=yB) T.GW wx (by decide) W9 (Iw) (fun cdv A outer s H E hr=>?_) Zi;refine cw (e8 (i:=1) wx.nd (lj (aa (kB aM) aM))) (cw ?_ (cu (eK (Φ (pv 1)))));refine og cf rfl (pz T.g0 (aa (Φ (pv 0)) aM)) (fL (i:=2) wx.nd) ?_;refine cu (e8 (i:=1) wx.nd (dX om oo (Φ (pv 1)) ?_));refine nO rfl (show dM Il (ω AW) _ ["some"] [2] from⟨rfl,by decide +kernel,by decide +kernel,by decide +kernel,by decide +kernel,by decide +kernel⟩) ?_ ?_;refine oh (Φ (pv 1));intro s0 H0 fp0;refine⟨(fL (i:=0) (show (["some","place"]:List ν).Nodup by decide +kernel)),r0,?_⟩;refine dX om oo (Φ (pv 0)) (kB (aa (Φ (pv 1)) aM))
theorem W7:∀ds G Q,yJ ds G Q->ds.length=2:=by
 intro ds G Q h;obtain⟨_,_,rfl,_⟩:=h;rfl
theorem W6(T:Txt K mg t):dS P w K mg base 3 t.BP t.Cc ["clocks","places"] yJ:=by
 refine gJ (k:=2) (sp:=yJ) T.GY tV (by decide) W7 (Jl) (fun cdv A outer s H E hr=>?_) Oy;refine cw ?_ (cw (e8 (i:=3) tV.nd Pw) ?_);refine La (i:=2) rfl tV.nd (show dM Ij (ω AV) _ ["place"] [0] from⟨rfl,by decide +kernel,by decide +kernel,by decide +kernel,by decide +kernel,by decide +kernel⟩) ?_ ?_;refine oh (Φ (pv 1));intro s0 H0 fp0;refine⟨(fL (i:=0) (show (["place","clocks"]:List ν).Nodup by decide +kernel)),r0,(lK (Φ (pv 1)) (Φ (pv 0)))⟩;refine cw ?_ ?_;refine og cf rfl ?_ (fL (i:=4) tV.nd) ?_;refine pz T.g0 (aa (eJ ((Xi T).mono (by decide)) hr T.Gq T.yn.kp T.GJ (aa (Φ (pv 0)) aM)) aM);refine cw (e8 (i:=5) tV.nd ?_) ?_;refine eJ ((Xf T).mono (by decide)) hr T.Nc T.GU.kp T.NB (aa (Φ (pv 2)) (aa (Φ (pv 4)) aM));refine cw (nt (kC nR (nQ hr.units) (Φ (pv 5)) (lj aM) (dh _)) (cu (eK lP)) nu) (cu ?_);refine nt (kC nR (nQ hr.units) (nP hr.units T.jF (aa (Φ (pv 5)) aM)) bw (dh _)) ?_ nu;refine cu (Pu hr.units (Φ (pv 3)) (lK (Φ (pv 5)) bw) lP);refine cu (eK (yR nR (nQ hr.units) (OP hr.units (Φ (pv 3)) T.jF) (nP hr.units T.jF (aa (Φ (pv 2)) aM)) (dh _)))
theorem W5:∀ds G Q,xf ds G Q->ds.length=2:=by
 intro ds G Q h;obtain⟨_,rfl,_⟩:=h;rfl
theorem HW(T:Txt K mg t):dS P w K mg base 2 t.Fw t.FJ ["found","due"] xf:=by
 refine gJ (k:=1) (sp:=xf) T.FV XS (by decide) W5 (Iu) (fun cdv A outer s H E hr=>?_) Zg;refine cu (eK ?_);refine E6 (AK kit_tuple rfl (Φ (pv 0)) T.dA T.rq rfl (by decide) (by decide)) ?_;refine E6 (yR nR (nQ hr.units) (Φ (pv 0)) (Φ (pv 1)) (dh _)) (Lc (Eh hr.units T.Bu (aa ?_ aM)));refine nO rfl (show dM Ii (ω AU) _ ["one"] [] from⟨rfl,by decide +kernel,by decide +kernel,by decide +kernel,by decide +kernel,by decide +kernel⟩) ?_ ?_;refine oh (Φ (pv 0));intro s0 H0 fp0;refine⟨(fL (i:=0) (show (["one"]:List ν).Nodup by decide +kernel)),r0,?_⟩;refine eJ ((Xo T).mono (by decide)) hr T.Bt T.yo.kp T.Cq (aa (Φ (pv 0)) aM)
theorem W4:∀ds G Q,yL ds G Q->ds.length=1:=by
 intro ds G Q h
 first
  | (rcases ds with _|⟨_,_|⟨_,_|⟨_,_|⟨_,_⟩⟩⟩⟩<;>first|rfl|exact h.elim)
  | (obtain⟨rfl,_⟩:=h;rfl)
  | (obtain⟨_,rfl,_⟩:=h;rfl)
  | (obtain⟨_,_,rfl,_⟩:=h;rfl)
  | (obtain⟨_,_,_,rfl,_⟩:=h;rfl)
  | (obtain⟨_,_,_,_,rfl,_⟩:=h;rfl)
  | (obtain⟨_,_,_,_,_,rfl,_⟩:=h;rfl)
  | (obtain⟨_,_,_,_,_,_,rfl,_⟩:=h;rfl)
  | (obtain⟨_,_,_,_,_,_,_,rfl,_⟩:=h;rfl)
  | (obtain⟨_,_,_,_,_,_,_,_,rfl,_⟩:=h;rfl)
theorem Xy(T:Txt K mg t):dS P w K mg base 3 t.Fq t.FE ["pen"] yL:=by
 refine gJ (k:=2) (sp:=yL) T.MP FZ (by decide) W4 (Ju) (fun cdv A outer s H E hr=>?_) O9;refine cw (e8 (i:=1) FZ.nd (lj ?_)) (cu (eK ?_));refine aa (kB (aa bw ?_)) ?_;refine aa (eJ ((lh T).mono (by decide)) hr T.iT T.ix.kp T.iZ (aa (Φ (pv 0)) (aa bw aM))) aM;refine aa (kB (aa bw ?_)) ?_;refine aa (eJ ((lh T).mono (by decide)) hr T.iT T.ix.kp T.iZ (aa (Φ (pv 0)) (aa bw aM))) aM;refine aa (kB (aa bw ?_)) (aa (kB (aa bw (aa bw aM))) aM);refine aa (eJ ((lh T).mono (by decide)) hr T.iT T.ix.kp T.iZ (aa (Φ (pv 0)) (aa bw aM))) aM;refine AL hr.units T.rq (aa (Ei hr.units T.pF ?_) aM);refine aa (t5 (Φ (pv 1)) vB (rZ (dX om oo bw ?_))) aM;refine eJ ((lh T).mono (by decide)) hr T.iT T.ix.kp T.iZ (aa (Φ (pv 0)) (aa bw aM))
theorem Xx:∀ds G Q,vP ds G Q->ds.length=1:=by
 intro ds G Q h
 first
  | (rcases ds with _|⟨_,_|⟨_,_|⟨_,_|⟨_,_⟩⟩⟩⟩<;>first|rfl|exact h.elim)
  | (obtain⟨rfl,_⟩:=h;rfl)
  | (obtain⟨_,rfl,_⟩:=h;rfl)
  | (obtain⟨_,_,rfl,_⟩:=h;rfl)
  | (obtain⟨_,_,_,rfl,_⟩:=h;rfl)
  | (obtain⟨_,_,_,_,rfl,_⟩:=h;rfl)
  | (obtain⟨_,_,_,_,_,rfl,_⟩:=h;rfl)
  | (obtain⟨_,_,_,_,_,_,rfl,_⟩:=h;rfl)
  | (obtain⟨_,_,_,_,_,_,_,rfl,_⟩:=h;rfl)
  | (obtain⟨_,_,_,_,_,_,_,_,rfl,_⟩:=h;rfl)
theorem Ds(T:Txt K mg t):dS P w K mg base 8 t.BN t.Ca ["clocks"] vP:=by
 refine gJ (k:=7) (sp:=vP) T.ym tU (by decide) Xx (Je) (fun cdv A outer s H E hr=>?_) Yu;refine cw ?_ ?_;refine e8 (i:=1) tU.nd (Ei hr.units T.pF (aa ?_ aM));refine nO rfl (show dM AS (ω xa) _ ["places"] [0] from⟨rfl,by decide +kernel,by decide +kernel,by decide +kernel,by decide +kernel,by decide +kernel⟩) ?_ ?_;refine oh ?_;refine eJ ((W8 T).mono (by decide)) hr T.Nf T.GW.kp T.ND ?_;refine aa (nP hr.units T.jF (aa (Φ (pv 0)) aM)) aM;intro s0 H0 fp0;refine⟨(fL (i:=0) (show (["places","clocks"]:List ν).Nodup by decide +kernel)),(zf ?_),(Φ (pv 0))⟩;refine lO (eJ ((W6 T).mono (by decide)) hr T.Nh T.GY.kp T.NG (aa (Φ (pv 1)) (aa (Φ (pv 0)) aM)));refine cw ?_ ?_;refine og cf rfl (pz T.g0 (aa bw aM)) (fL (i:=2) tU.nd) ?_;refine cw (e8 (i:=3) tU.nd ?_) ?_;refine AH ((Du T).mono (by decide)) hr Gi T.Fh T.Cw.kp T.FQ (aa (Φ (pv 0)) aM);refine cw (nt (t6 ?_) (cu (eK lP)) nu) ?_;refine vC (qF (lO (AK S7 rfl (Φ (pv 3)) T.dA T.Mm rfl (by decide) (by decide)))) ?_;refine vC (kC xF (xw hr.units) (Φ (pv 3)) (Φ (pv 1)) (dh _)) (yQ (qF (lO (Eh hr.units T.Bu (aa ?_ aM)))));refine nO rfl (show dM AS (ω xa) _ ["one"] [] from⟨rfl,by decide +kernel,by decide +kernel,by decide +kernel,by decide +kernel,by decide +kernel⟩) ?_ ?_;refine oh (Φ (pv 3));intro s0 H0 fp0;refine⟨(fL (i:=0) (show (["one"]:List ν).Nodup by decide +kernel)),r0,?_⟩;refine eJ ((HW T).mono (by decide)) hr T.Ml T.FV.kp T.MI (aa (Φ (pv 0)) (aa (Φ (pv 0)) aM));refine cu (yP (xt EH j8 j7 Bc (Φ (pv 3)) (aa (kB aM) aM)));refine cw (e8 (i:=3) tU.nd ?_) ?_;refine AH ((Ig T).mono (by decide)) hr Gi T.Mk T.FU.kp T.MH (aa (Φ (pv 0)) aM);refine cw ?_ (cu (eK ?_));refine nt (kC nR (nQ hr.units) (Φ (pv 1)) (lj aM) (dh _)) (cu (eK (yR aal Wa (Φ (pv 3)) Sd (dh _)))) (nu);refine eJ ((HW T).mono (by decide)) hr T.Ml T.FV.kp T.MI ?_;refine aa (Φ (pv 3)) (aa (lK (Zc hr.units T.Gx (aa ?_ aM)) bw) aM);refine nO rfl (show dM AS (ω xa) _ ["places"] [] from⟨rfl,by decide +kernel,by decide +kernel,by decide +kernel,by decide +kernel,by decide +kernel⟩) ?_ ?_;refine oh (Φ (pv 1));intro s0 H0 fp0;refine⟨(fL (i:=0) (show (["places"]:List ν).Nodup by decide +kernel)),r0,?_⟩;refine kB (aa (nP hr.units T.jF (aa (Φ (pv 0)) aM)) (aa (Φ (pv 0)) aM))
theorem Xw:∀ds G Q,xc ds G Q->ds.length=2:=by
 intro ds G Q h
 first
  | (rcases ds with _|⟨_,_|⟨_,_|⟨_,_|⟨_,_⟩⟩⟩⟩<;>first|rfl|exact h.elim)
  | (obtain⟨rfl,_⟩:=h;rfl)
  | (obtain⟨_,rfl,_⟩:=h;rfl)
  | (obtain⟨_,_,rfl,_⟩:=h;rfl)
  | (obtain⟨_,_,_,rfl,_⟩:=h;rfl)
  | (obtain⟨_,_,_,_,rfl,_⟩:=h;rfl)
  | (obtain⟨_,_,_,_,_,rfl,_⟩:=h;rfl)
  | (obtain⟨_,_,_,_,_,_,rfl,_⟩:=h;rfl)
  | (obtain⟨_,_,_,_,_,_,_,rfl,_⟩:=h;rfl)
  | (obtain⟨_,_,_,_,_,_,_,_,rfl,_⟩:=h;rfl)
theorem HV(T:Txt K mg t):dS P w K mg base 8 t.BW t.Cj ["way","clocks"] xc:=by
 refine gJ (k:=7) (sp:=xc) T.CB CP (by decide) Xw (Jc rs) (fun cdv A outer s H E hr=>?_) Yt;refine Pk (i:=2) (names:=rs) MB T.takes T.zk CP.nd ?_ ?_ (cu (eK lP));refine Q9 (kC nR (nQ hr.units) (Φ (pv 0)) bw (dh _)) ?_ ?_ D9;refine Kc (Kd ((Du T).mono (by decide)) hr T.Fh T.Cw.kp T.FQ (aa (Φ (pv 1)) aM)) D9;refine Kc (Kd ((Ig T).mono (by decide)) hr T.Mk T.FU.kp T.MH (aa (Φ (pv 1)) aM)) D9;intro e0;refine cu (eK ?_);refine yR nR (nQ hr.units) ?_ (kB (aa pA ?_)) (dh _);refine zd ((Xl T).mono (by decide)) hr.h.mark T.aag T.MT.kp T.aaG (aa (Φ (pv 2)) aM);refine aa (Po ((Xh T).mono (by decide)) hr.h.mark rfl T.Gq T.yn.kp T.GJ (aa (Φ (pv 1)) aM)) ?_;refine aa bw aM
theorem Xv:∀ds G Q,nk ds G Q->ds.length=1:=by
 intro ds G Q h;obtain⟨_,rfl,_⟩:=h;rfl
theorem Mc(T:Txt K mg t):dS P w K mg base 9 t.BY t.wI ["script"] nk:=by
 refine gJ (k:=8) (sp:=nk) T.NN tW (by decide) Xv (IZ) (fun cdv A outer s H E hr=>?_) Yl;refine cw ?_ (cw ?_ (cu (eK lP)));refine og cf rfl (oh (lj (aa (kB aM) ?_))) (fL (i:=1) tW.nd) (cu ?_);refine aa (kB (aa (kB (aa bw (aa bw aM))) aM)) ?_;refine aa (kB (aa (kB (aa bw (aa bw aM))) ?_)) aM;refine aa (kB (aa bw (aa bw aM))) (aa (kB (aa bw (aa bw aM))) aM);refine nt (qF (lO (eJ ((Ds T).mono (by decide)) hr T.Bs T.ym.kp T.Cp (aa (Φ (pv 1)) aM)))) ?_ ?_;refine cu (eK lP);refine nu;refine og cf rfl (oh ?_) (fL (i:=2) tW.nd) ?_;refine dX om oo (lj ?_) (t5 (Φ (pv 0)) (rZ bw) (rZ bw));refine aa (eJ ((X4 T).mono (by decide)) hr T.Nl T.G9.kp T.NJ (aa (Φ (pv 0)) (aa bw aM))) (aM);refine cw ?_ ?_;refine e8 (i:=3) tW.nd (eJ ((Xr T).mono (by decide)) hr T.Nj T.GZ.kp T.NH (aa (Φ (pv 2)) aM));refine cw (nt (t6 ?_) (cu (eK lP)) nu) ?_;refine vC (qF (lO ?_)) (yQ (qF (lO ?_)));refine eJ ((Ds T).mono (by decide)) hr T.Bs T.ym.kp T.Cp ?_;refine aa (eJ ((Xa T).mono (by decide)) hr T.Nd T.GV.kp T.NC (aa (Φ (pv 3)) aM)) aM;refine eJ ((Ds T).mono (by decide)) hr T.Bs T.ym.kp T.Cp (aa ?_ aM);refine t5 (eJ ((Xc T).mono (by decide)) hr T.aaf T.MS.kp T.aaF (aa (Φ (pv 3)) aM)) vB ?_;refine rZ bw;refine cw ?_ (cu (nt (t6 ?_) (cu (eK lP)) nu));refine e8 (i:=4) tW.nd (eJ ((Xy T).mono (by decide)) hr T.aac T.MP.kp T.aaC (aa (Φ (pv 3)) aM));refine vC (qF ?_) (yQ (qF ?_));refine lO (eJ ((HV T).mono (by decide)) hr T.Gu T.CB.kp T.GL (aa bw (aa (Φ (pv 4)) aM)));refine lO (eJ ((HV T).mono (by decide)) hr T.Gu T.CB.kp T.GL (aa bw (aa (Φ (pv 4)) aM)))
end
def gG(K:θ)(nm:ν)(st:aQ):Prop:=∃f d,dQ K nm nm st f d/\bB K aT nm=some (some (.ref f))
theorem cL{K:θ}{nm:ν}{st:aQ}{f:ζ}{od an:Option ζ}{sl:Array (Option ε)}{oc kV dc pm cd ct:ε}(a:bB K aT nm=some (some (.ref f)))(l:K.lookup f=some ⟨oc,od,.func (gN nm nm (oZ st) (eE st) (ω st) .none kV dc pm an cd ct),sl⟩)(c:kv K cd nm=true)(k:bD K (.ref f)=true):gG K nm st:=⟨f,_,Lw l c k,a⟩
theorem yp{K:θ}{h:Ψ}{mg:ν->Option ε}(X:K.In h)(G:h.Ns aT mg)
  (h0:gG K "refuse_above" DP)
  (h1:gG K "doubled" DO)
  (h2:gG K "common_divisor" DN)
  (h3:gG K "common_multiple" DM)
  (h4:gG K "round_of" A3)
  (h5:gG K "least_covers" xb)
  (h6:gG K "fewest_cover" DL)
  (h7:gG K "ring_marks" DK)
  (h8:gG K "wanted_marks" DJ)
  (h9:gG K "most_spared" A0)
  (h10:gG K "places_kept" AZ)
  (h11:gG K "_law_cell_at" DI)
  (Mz:gG K "_law_next" DH)
  (h13:gG K "_law_pen_of" DG)
  (h14:gG K "_law_draw" DF)
  (h15:gG K "_law_whole" DE)
  (h16:gG K "_law_kind_of" DD)
  (h17:gG K "_law_great_told" DC)
  (h18:gG K "_law_gcd" DB)
  (h19:gG K "_law_round" DA)
  (h20:gG K "_law_at" AY)
  (h21:gG K "_law_split" AX)
  (h22:gG K "_law_clocks_of" Dz)
  (h23:gG K "_law_few" Dy)
  (h24:gG K "_law_sets" AW)
  (h25:gG K "_law_least" AV)
  (h26:gG K "_law_tuple_is" AU)
  (h27:gG K "_law_wide_of" Dx)
  (h28:gG K "_law_right" xa)
  (h29:gG K "_law_refused" Dw)
  (h30:gG K "law" Dv)
  {C_ClockError:ζ} (n_ClockError:bB K aT "ClockError" = some (some (.ref C_ClockError)))
  {C_NoClock:ζ} (n_NoClock:bB K aT "NoClock" = some (some (.ref C_NoClock)))
  {C_NoNumber:ζ} (n_NoNumber:bB K aT "NoNumber" = some (some (.ref C_NoNumber)))
  {C_NoPlace:ζ} (n_NoPlace:bB K aT "NoPlace" = some (some (.ref C_NoPlace)))
  {C_NoRow:ζ} (n_NoRow:bB K aT "NoRow" = some (some (.ref C_NoRow)))
  {C_NoClocks:ζ} (n_NoClocks:bB K aT "NoClocks" = some (some (.ref C_NoClocks)))
  {C_NoText:ζ} (n_NoText:bB K aT "NoText" = some (some (.ref C_NoText)))
  {C_TooGreat:ζ} (n_TooGreat:bB K aT "TooGreat" = some (some (.ref C_TooGreat)))
  {gF:ζ} (i_TooGreat:dE K (.ref C_TooGreat) "__init__" = some (some (.ref gF)))
  {qd_TooGreat qn_TooGreat:Option ζ} {qs_TooGreat:Array (Option ε)} {qc_TooGreat qk_TooGreat qo_TooGreat qp_TooGreat qe_TooGreat qt_TooGreat:ε} (j_TooGreat:K.lookup gF=some ⟨qc_TooGreat,qd_TooGreat,.func (gN "__init__" "TooGreat.__init__" (oZ w9) (eE w9) (ω w9) .none qk_TooGreat qo_TooGreat qp_TooGreat qn_TooGreat qe_TooGreat qt_TooGreat),qs_TooGreat⟩) (h_TooGreat:kv K qe_TooGreat "TooGreat.__init__" = true) (g_TooGreat:bD K (.ref gF)=true) (y_TooGreat:rM K (.ref gF)=some (.type "function"))
  (lV:excIn K C_TooGreat (.ref C_ClockError::iC) (some (.ref gF)) "ValueError.__new__" = true)
  (qD:dE K (.ref C_TooGreat) "__setattr__" = some (some (.builtin "object.__setattr__"))) (v2_TooGreat:nU K C_TooGreat (.type "object")=some true) (v3_TooGreat:bD K (.ref C_TooGreat)=true) (v4_TooGreat:dE K (.ref C_TooGreat) "__getattribute__" = some (some (.builtin "BaseException.__getattribute__"))) (v8_TooGreat:dE K (.ref C_TooGreat) "__getattr__" = some none) (v9_TooGreat:nU K C_TooGreat (.type "BaseException")=some true) (v5_TooGreat:uX K C_TooGreat=true) (v6_TooGreat:dE K (.ref C_TooGreat) "__class__" = some (some (.builtin "object.__class__")))
  (jD:dE K (.ref C_TooGreat) "many" = some none)
  (jC:dE K (.ref C_TooGreat) "most" = some none)
  (jP:aw K (.ref C_TooGreat) (.ref C_NoClock)=some false)
  (jn:aw K (.ref C_TooGreat) (.ref C_NoClocks)=some false)
  (jm:aw K (.ref C_TooGreat) (.ref C_NoNumber)=some false)
  (jO:aw K (.ref C_TooGreat) (.ref C_NoPlace)=some false)
  (la:aw K (.ref C_TooGreat) (.ref C_NoRow)=some false)
  (kK:aw K (.ref C_TooGreat) (.ref C_NoText)=some false)
  (jk:aw K (.ref C_TooGreat) (.ref C_TooGreat)=some true)
  (qC:aw K (.ref C_TooGreat) (.type "ValueError")=some true)
  (eb:excIn K C_ClockError iC none "ValueError.__new__" = true) (u1:uV K (.builtin "object.__class__") "__get__" = some (some (.builtin "getset_descriptor.__get__"))) (u2:wU K (.builtin "object.__class__")=some true)
  {t0:Tok} (gint0:bB K aT "MOST_NUMBERS" = some (some (.int 10000 t0)))
  (z0:bB K aT "ValueError" = some none)
  (z1:bB K aT "all" = some none)
  (z2:bB K aT "bool" = some none)
  (z3:bB K aT "enumerate" = some none)
  (z4:bB K aT "int" = some none)
  (z5:bB K aT "isinstance" = some none)
  (z6:bB K aT "len" = some none)
  (z7:bB K aT "list" = some none)
  (z8:bB K aT "max" = some none)
  (z9:bB K aT "min" = some none)
  (HD:bB K aT "range" = some none)
  (HC:bB K aT "set" = some none)
  (HB:bB K aT "sorted" = some none)
  (Hz:bB K aT "tuple" = some none)
  (Hy:bB K aT "zip" = some none)
  : ∃t:He,Txt K mg t/\∀(s:η) (v:ε),mY s t.wI ⟨[v],[]⟩ [("script",v)]:=by
 obtain⟨f0,d0,F0,a0⟩:=h0;obtain⟨f1,d1,F1,a1⟩:=h1;obtain⟨f2,d2,F2,a2⟩:=h2;obtain⟨f3,d3,F3,a3⟩:=h3;obtain⟨f4,d4,F4,a4⟩:=h4;obtain⟨f5,d5,F5,a5⟩:=h5;obtain⟨f6,d6,F6,a6⟩:=h6;obtain⟨f7,d7,F7,a7⟩:=h7;obtain⟨f8,d8,F8,a8⟩:=h8;obtain⟨f9,d9,F9,a9⟩:=h9;obtain⟨f10,d10,F10,a10⟩:=h10;obtain⟨f11,d11,F11,a11⟩:=h11;obtain⟨f12,d12,F12,a12⟩:=Mz;obtain⟨f13,d13,F13,a13⟩:=h13;obtain⟨f14,d14,F14,a14⟩:=h14;obtain⟨f15,d15,F15,a15⟩:=h15;obtain⟨f16,d16,F16,a16⟩:=h16;obtain⟨f17,d17,F17,a17⟩:=h17;obtain⟨f18,d18,F18,a18⟩:=h18;obtain⟨f19,d19,F19,a19⟩:=h19;obtain⟨f20,d20,F20,a20⟩:=h20;obtain⟨f21,d21,F21,a21⟩:=h21;obtain⟨f22,d22,F22,a22⟩:=h22;obtain⟨f23,d23,F23,a23⟩:=h23;obtain⟨f24,d24,F24,a24⟩:=h24;obtain⟨f25,d25,F25,a25⟩:=h25;obtain⟨f26,d26,F26,a26⟩:=h26;obtain⟨f27,d27,F27,a27⟩:=h27;obtain⟨f28,d28,F28,a28⟩:=h28;obtain⟨f29,d29,F29,a29⟩:=h29;obtain⟨f30,d30,F30,a30⟩:=h30;have I_TooGreat:=Lw (st:=w9) j_TooGreat h_TooGreat g_TooGreat;exact⟨⟨f0,d0,f1,d1,f2,d2,f3,d3,f4,d4,f5,d5,f6,d6,f7,d7,f8,d8,f9,d9,f10,d10,f11,d11,f12,d12,f13,d13,f14,d14,f15,d15,f16,d16,f17,d17,f18,d18,f19,d19,f20,d20,f21,d21,f22,d22,f23,d23,f24,d24,f25,d25,f26,d26,f27,d27,f28,d28,f29,d29,f30,d30,C_ClockError,C_NoClock,C_NoNumber,C_NoPlace,C_NoRow,C_NoClocks,C_NoText,C_TooGreat,gF,_,t0⟩,⟨F0,
  av X G a0,
  F0.binds (ps:=["many","most"]) fun _ _ _ _ _ _ us hl=>by obtain⟨_,_,rfl⟩:=lS hl;rfl,
  F1,
  av X G a1,
  F1.binds (ps:=["times"]) fun _ _ _ _ _ _ us hl=>by obtain⟨_,rfl⟩:=jq hl;rfl,
  F2,
  av X G a2,
  F2.binds (ps:=["one","other"]) fun _ _ _ _ _ _ us hl=>by obtain⟨_,_,rfl⟩:=lS hl;rfl,
  F3,
  av X G a3,
  F3.binds (ps:=["numbers"]) fun _ _ _ _ _ _ us hl=>by obtain⟨_,rfl⟩:=jq hl;rfl,
  F4,
  av X G a4,
  F4.binds (ps:=["clocks"]) fun _ _ _ _ _ _ us hl=>by obtain⟨_,rfl⟩:=jq hl;rfl,
  F5,
  av X G a5,
  F5.binds (ps:=["clocks"]) fun _ _ _ _ _ _ us hl=>by obtain⟨_,rfl⟩:=jq hl;rfl,
  F6,
  av X G a6,
  F6.binds (ps:=["clocks"]) fun _ _ _ _ _ _ us hl=>by obtain⟨_,rfl⟩:=jq hl;rfl,
  F7,
  av X G a7,
  F7.binds (ps:=["clocks","bits"]) fun _ _ _ _ _ _ us hl=>by obtain⟨_,_,rfl⟩:=lS hl;rfl,
  F8,
  av X G a8,
  F8.binds (ps:=["clocks","bits"]) fun _ _ _ _ _ _ us hl=>by obtain⟨_,_,rfl⟩:=lS hl;rfl,
  F9,
  av X G a9,
  F9.binds (ps:=["wanted","bits","mark"]) fun _ _ _ _ _ _ us hl=>by obtain⟨_,_,_,rfl⟩:=Ms hl;rfl,
  F10,
  av X G a10,
  F10.binds (ps:=["bits","mark"]) fun _ _ _ _ _ _ us hl=>by obtain⟨_,_,rfl⟩:=lS hl;rfl,
  F11,
  av X G a11,
  F11.binds (ps:=["script","k"]) fun _ _ _ _ _ _ us hl=>by obtain⟨_,_,rfl⟩:=lS hl;rfl,
  F12,
  av X G a12,
  F12.binds (ps:=["seed"]) fun _ _ _ _ _ _ us hl=>by obtain⟨_,rfl⟩:=jq hl;rfl,
  F13,
  av X G a13,
  F13.binds (ps:=["cell"]) fun _ _ _ _ _ _ us hl=>by obtain⟨_,rfl⟩:=jq hl;rfl,
  F14,
  av X G a14,
  F14.binds (ps:=["pen","many"]) fun _ _ _ _ _ _ us hl=>by obtain⟨_,_,rfl⟩:=lS hl;rfl,
  F15,
  av X G a15,
  F15.binds (ps:=["found"]) fun _ _ _ _ _ _ us hl=>by obtain⟨_,rfl⟩:=jq hl;rfl,
  F16,
  av X G a16,
  F16.binds (ps:=["e"]) fun _ _ _ _ _ _ us hl=>by obtain⟨_,rfl⟩:=jq hl;rfl,
  F17,
  av X G a17,
  F17.binds (ps:=["e"]) fun _ _ _ _ _ _ us hl=>by obtain⟨_,rfl⟩:=jq hl;rfl,
  F18,
  av X G a18,
  F18.binds (ps:=["one","other"]) fun _ _ _ _ _ _ us hl=>by obtain⟨_,_,rfl⟩:=lS hl;rfl,
  F19,
  av X G a19,
  F19.binds (ps:=["clocks"]) fun _ _ _ _ _ _ us hl=>by obtain⟨_,rfl⟩:=jq hl;rfl,
  F20,
  av X G a20,
  F20.binds (ps:=["clocks","number"]) fun _ _ _ _ _ _ us hl=>by obtain⟨_,_,rfl⟩:=lS hl;rfl,
  F21,
  av X G a21,
  F21.binds (ps:=["pen","times"]) fun _ _ _ _ _ _ us hl=>by obtain⟨_,_,rfl⟩:=lS hl;rfl,
  F22,
  av X G a22,
  F22.binds (ps:=["pen"]) fun _ _ _ _ _ _ us hl=>by obtain⟨_,rfl⟩:=jq hl;rfl,
  F23,
  av X G a23,
  F23.binds (ps:=["pen"]) fun _ _ _ _ _ _ us hl=>by obtain⟨_,rfl⟩:=jq hl;rfl,
  F24,
  av X G a24,
  F24.binds (ps:=["many"]) fun _ _ _ _ _ _ us hl=>by obtain⟨_,rfl⟩:=jq hl;rfl,
  F25,
  av X G a25,
  F25.binds (ps:=["clocks","places"]) fun _ _ _ _ _ _ us hl=>by obtain⟨_,_,rfl⟩:=lS hl;rfl,
  F26,
  av X G a26,
  F26.binds (ps:=["found","due"]) fun _ _ _ _ _ _ us hl=>by obtain⟨_,_,rfl⟩:=lS hl;rfl,
  F27,
  av X G a27,
  F27.binds (ps:=["pen"]) fun _ _ _ _ _ _ us hl=>by obtain⟨_,rfl⟩:=jq hl;rfl,
  F28,
  av X G a28,
  F28.binds (ps:=["clocks"]) fun _ _ _ _ _ _ us hl=>by obtain⟨_,rfl⟩:=jq hl;rfl,
  F29,
  av X G a29,
  F29.binds (ps:=["way","clocks"]) fun _ _ _ _ _ _ us hl=>by obtain⟨_,_,rfl⟩:=lS hl;rfl,
  F30,
  av X G a30,
  F30.binds (ps:=["script"]) fun _ _ _ _ _ _ us hl=>by obtain⟨_,rfl⟩:=jq hl;rfl,
  av X G n_ClockError,
  n_ClockError,
  av X G n_NoClock,
  n_NoClock,
  av X G n_NoNumber,
  n_NoNumber,
  av X G n_NoPlace,
  n_NoPlace,
  av X G n_NoRow,
  n_NoRow,
  av X G n_NoClocks,
  n_NoClocks,
  av X G n_NoText,
  n_NoText,
  av X G n_TooGreat,
  n_TooGreat,
  ⟨⟨lV,eb⟩,⟨qD,v2_TooGreat,RJ lV,fun n hn=>by
   simp only[Δ,aR,or_false] at hn;rcases hn with rfl|rfl
   ·exact jD
   ·exact jC⟩,I_TooGreat,XN,.cons ⟨⟨_,_,_,_,rfl⟩,by decide⟩ (.cons ⟨⟨_,_,_,_,rfl⟩,by decide⟩ (.nil)),by decide +kernel,I_TooGreat.binds (ps:=["self","many","most"]) (fun _ _ _ _ _ _ us hl=>by obtain⟨_,_,_,rfl⟩:=Ms hl;rfl),v3_TooGreat,by decide,RH y_TooGreat⟩,
  ⟨⟨v4_TooGreat,v8_TooGreat,v9_TooGreat⟩,RI lV,v6_TooGreat,u1,u2,v2_TooGreat⟩,
  jP,
  jn,
  jm,
  jO,
  la,
  kK,
  jk,
  qC,
  ⟨⟨v4_TooGreat,v8_TooGreat,v9_TooGreat⟩,v5_TooGreat,jD⟩,
  ⟨⟨v4_TooGreat,v8_TooGreat,v9_TooGreat⟩,v5_TooGreat,jC⟩,
  av X G gint0,
  bO X G z0,
  bO X G z1,
  bO X G z2,
  bO X G z3,
  bO X G z4,
  bO X G z5,
  bO X G z6,
  bO X G z7,
  bO X G z8,
  bO X G z9,
  bO X G HD,
  bO X G HC,
  bO X G HB,
  bO X G Hz,
  bO X G Hy⟩,fun s v=>by
  obtain⟨_,_,_,_,_,_,_,_,_,rfl,_⟩:=F30.ex;exact .of_eq rfl⟩
theorem Xu(K:θ)(H:Hp)(a:ζ)(ns:List Int)(hl:ns.length≤63)(ho:Ct H)(hS:fM K H a (ns.map V.int)):kW K nk [.ref a] H (fun v _=>v=.bl true) fun _ _ _=>False:=by
 refine⟨[.dW (ns.map .int)],fun _=>none,fun d _=>d=.bl true,.cons ?_ .nil,(fun _ _ e=>nomatch e),⟨ns,rfl,hl,rfl⟩,fun v H' d G' hv _ _ q=>?_⟩
 ·unfold Hv;refine⟨a,ns.map V.int,rfl,?_,aF.ints ns⟩;rcases hS with (h|h)|h
  ·rcases ho a with z|⟨o,xs,z⟩
   ·rw[z] at h;cases h
   ·rw[z] at h;cases h
  ·exact .inl h
  ·exact .inr h
 ·subst q;exact vK hv
theorem walk{l:wW}{q:Ω}{loose:List ν}{XP:(ν->Option ε)->Ψ->Prop}{YP:ah->Ψ->Prop}{d:DefRec}{K:Params->θ}(hn:l.most=some 63)(hdf:d.params.defaults=[])
  (hY:∀(w:ah) (h:Ψ),YP w h->(K w.params).In h)
  (F:∀(w:ah) (mg:ν->Option ε) (fa:ζ) (h:Ψ),(K w.params).In h->h.Ns aT mg->mg d.name=some (.ref fa) ->
   ∃fd:ag,(∀(s:η) (u:ε),mY s fd ⟨[u],[]⟩ [("script",u)])/\∀base:Ψ,(K w.params).In base->base.Ns aT mg->jx l.prog w (K w.params) mg base oA 9 fa fd ["script"] (kW (K w.params) nk)):
  PySem.W.WalkO q loose XP YP l.row.toRowW d [] (fun f vs=>wR f vs):=
 L2.zP (n:=63) (k:=9) (x:="script") (CX:=fun _=>oA) (sp:=fun w=>kW (K w.params) nk) hn (by decide) hdf ⟨rfl,by decide,by decide⟩ hY F (fun w H a ns hl ho hS=>Xu (K w.params) H a ns hl ho hS) fun _ _ _ _ _ z=>z
end My
open PySem PySem.W PyProof.Rows
set_option maxRecDepth 100000 in
set_option maxHeartbeats 0 in
theorem PySem.Challenge.cw_coverclocks_k27_least_covers_holds : PySem.Challenge.rw_coverclocks_k27_least_covers.Holds := by
 w_on;o_law;k_head;(case hw=>w_witness2)
 k_fill
 refine My.walk (l:=PySem.Challenge.rw_coverclocks_k27_least_covers) rfl rfl (fun w h Y=>PySem.W.kIn_of Y) ?F
 case F=>
  intro w mg fa h KX G hmg
  refine' Exists.elim (My.yp KX G (My.cL ?a0 ?l0 ?c0 ?k0) (My.cL ?a1 ?l1 ?c1 ?k1) (My.cL ?a2 ?l2 ?c2 ?k2) (My.cL ?a3 ?l3 ?c3 ?k3) (My.cL ?a4 ?l4 ?c4 ?k4) (My.cL ?a5 ?l5 ?c5 ?k5) (My.cL ?a6 ?l6 ?c6 ?k6) (My.cL ?a7 ?l7 ?c7 ?k7) (My.cL ?a8 ?l8 ?c8 ?k8) (My.cL ?a9 ?l9 ?c9 ?k9) (My.cL ?a10 ?l10 ?c10 ?k10) (My.cL ?a11 ?l11 ?c11 ?k11) (My.cL ?a12 ?l12 ?c12 ?k12) (My.cL ?a13 ?l13 ?c13 ?k13) (My.cL ?a14 ?l14 ?c14 ?k14) (My.cL ?a15 ?l15 ?c15 ?k15) (My.cL ?a16 ?l16 ?c16 ?k16) (My.cL ?a17 ?l17 ?c17 ?k17) (My.cL ?a18 ?l18 ?c18 ?k18) (My.cL ?a19 ?l19 ?c19 ?k19) (My.cL ?a20 ?l20 ?c20 ?k20) (My.cL ?a21 ?l21 ?c21 ?k21) (My.cL ?a22 ?l22 ?c22 ?k22) (My.cL ?a23 ?l23 ?c23 ?k23) (My.cL ?a24 ?l24 ?c24 ?k24) (My.cL ?a25 ?l25 ?c25 ?k25) (My.cL ?a26 ?l26 ?c26 ?k26) (My.cL ?a27 ?l27 ?c27 ?k27) (My.cL ?a28 ?l28 ?c28 ?k28) (My.cL ?a29 ?l29 ?c29 ?k29) (My.cL ?a30 ?l30 ?c30 ?k30) ?n_ClockError ?n_NoClock ?n_NoNumber ?n_NoPlace ?n_NoRow ?n_NoClocks ?n_NoText ?n_TooGreat ?i_TooGreat ?j_TooGreat ?h_TooGreat ?g_TooGreat ?y_TooGreat ?lV ?qD ?v2_TooGreat ?v3_TooGreat ?v4_TooGreat ?v8_TooGreat ?v9_TooGreat ?v5_TooGreat ?v6_TooGreat ?jD ?jC ?jP ?jn ?jm ?jO ?la ?kK ?jk ?qC ?eb ?u1 ?u2 ?gint0 ?z0 ?z1 ?z2 ?z3 ?z4 ?z5 ?z6 ?z7 ?z8 ?z9 ?HD ?HC ?HB ?Hz ?Hy) ?fin
  case a0|l0|c0|k0|a1|l1|c1|k1|a2|l2|c2|k2|a3|l3|c3|k3|a4|l4|c4|k4|a5|l5|c5|k5|a6|l6|c6|k6|a7|l7|c7|k7|a8|l8|c8|k8|a9|l9|c9|k9=>k_is
  case a10|l10|c10|k10|a11|l11|c11|k11|a12|l12|c12|k12|a13|l13|c13|k13|a14|l14|c14|k14|a15|l15|c15|k15|a16|l16|c16|k16|a17|l17|c17|k17|a18|l18|c18|k18|a19|l19|c19|k19=>k_is
  case a20|l20|c20|k20|a21|l21|c21|k21|a22|l22|c22|k22|a23|l23|c23|k23|a24|l24|c24|k24|a25|l25|c25|k25|a26|l26|c26|k26|a27|l27|c27|k27|a28|l28|c28|k28|a29|l29|c29|k29=>k_is
  case a30|l30|c30|k30|n_ClockError|n_NoClock|n_NoNumber|n_NoPlace|n_NoRow|n_NoClocks|n_NoText|n_TooGreat|i_TooGreat|j_TooGreat|h_TooGreat|g_TooGreat|y_TooGreat=>k_is
  case lV=>kernel_rfl
  case qD|v2_TooGreat|v3_TooGreat|v4_TooGreat|v8_TooGreat|v9_TooGreat|v5_TooGreat|v6_TooGreat|jD|jC=>k_is
  case jP|jn|jm|jO|la|kK|jk|qC|eb=>kernel_rfl
  case u1|u2|gint0|z0|z1|z2|z3|z4|z5|z6|z7|z8|z9|HD|HC|HB|Hz|Hy=>k_is
  case fin=>
   rintro t ⟨T,b⟩
   have e2:=hmg.symm.trans T.Nq
   cases e2
   exact⟨t.wI,b,fun base _ _=>My.Mc T⟩
