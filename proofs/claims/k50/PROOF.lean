import PyProof.Rows.All
import Wide.All
import OpenK.AllK
import Wide.FinOn
import Lean
import PyProof.EqAt
import PyProof.EqKinds
import PyProof.TupleCall
import PyProof.NeKinds
import KE.KSortAsk
import PySem.SetTable
import PyProof.SetKind
import PyProof.TupleKey
import PyProof.IsRules
import PyProof.DictKinds
import PyProof.FactsAll.set
import PyProof.RangeIter
import PyProof.Seq
import PyProof.ForAny
import PyProof.WalksMore
import PyProof.CollectWalk
import PyProof.CollectIter
import PyProof.WalksS
import PyProof.Rows.SetFrom
import KE.KSortTup
import PyProof.Draws
import PyProof.Rows.Range3
import PyProof.DictRoadsH
import PyProof.DictTruth
import PyProof.DictItems
import PyProof.Rows.TupDisplay
import PyProof.Rows.SeqMore
import PyProof.ExcClass2
import PyProof.InstSpecial
import PyProof.RaisesMany
import PyProof.Rows.Own
import KE.KTryDeep
import PyProof.InstStoreFacts
import PyProof.ExcArgs
import PyProof.SetRoads
import PyProof.Rows.CallKwBuiltin
import KE.KMinKey
import PySem.Challenge.RW_coverclocks_k50_missed_ones_numbered
set_option Elab.async false
set_option linter.all false
set_option maxRecDepth 100000
set_option maxHeartbeats 6400000
namespace PySem.W.Fast
def tw10191962457404873369:=0
def tw10213140138871317538:=0
def tw10261344598096949098:=0
def tw10376503973760856060:=0
def tw10440542609749479342:=0
def tw10539388237991434896:=0
def tw10564523079863099057:=0
def tw10576722354293386334:=0
def tw10621760918832262792:=0
def tw10674930565373758431:=0
def tw10802917603984162300:=0
def tw1109936841137410394:=0
def tw11138226640702112603:=0
def tw11310055842338092742:=0
def tw11318862463112894192:=0
def tw11444224352421845789:=0
def tw117843029750186992:=0
def tw11834971095726287010:=0
def tw12408035290927418476:=0
def tw12581864012991545048:=0
def tw12909045825866754661:=0
def tw13017686824444246697:=0
def tw13028370106856762106:=0
def tw13124598241921670888:=0
def tw13138554826703653217:=0
def tw13198497796929391902:=0
def tw13888596547336839257:=0
def tw14175195413453777530:=0
def tw14277029873612458248:=0
def tw14448080943936552592:=0
def tw1464445804306739333:=0
def tw14822567910348204771:=0
def tw1503343513715271001:=0
def tw15043087887633504264:=0
def tw15504403260115895723:=0
def tw15633734973624328015:=0
def tw15712241545868326567:=0
def tw15989544998295300660:=0
def tw16040962803553462917:=0
def tw16173598231872850405:=0
def tw16341186142280784034:=0
def tw16671234667384724283:=0
def tw16680093808651559234:=0
def tw16697432837388087617:=0
def tw16719661651584072526:=0
def tw16830706483335713087:=0
def tw17048660626659524780:=0
def tw17341560200452121841:=0
def tw17351962029676386577:=0
def tw17553170899126243767:=0
def tw17998559061632571441:=0
def tw18212828607853849085:=0
def tw18242388860791340651:=0
def tw18306051146027164153:=0
def tw18366992383088321587:=0
def tw2044934547084811848:=0
def tw2046226723491231036:=0
def tw2052475678690913450:=0
def tw2161947919639635797:=0
def tw2173244492695545319:=0
def tw2209255627843330602:=0
def tw2541046389862050747:=0
def tw2607070722310155072:=0
def tw2671674125992108032:=0
def tw2693282596752721497:=0
def tw272176916676153803:=0
def tw2739045432785585732:=0
def tw2923386327667504000:=0
def tw2969900649020535357:=0
def tw3009051880191692243:=0
def tw3151847719775343646:=0
def tw3220854052620235386:=0
def tw3221314198486168358:=0
def tw3815703716090762605:=0
def tw3929043343327075333:=0
def tw4110628520684216193:=0
def tw4458252931283654116:=0
def tw4604365438125592391:=0
def tw4689060545130321953:=0
def tw4859413599278286783:=0
def tw5190520398462388754:=0
def tw5483283274527951664:=0
def tw5726464562098478644:=0
def tw5854408476121462826:=0
def tw5900528893125155019:=0
def tw5940700936992382468:=0
def tw5959609372086738644:=0
def tw5979637298806874601:=0
def tw6057200880202226707:=0
def tw6149097967487000063:=0
def tw6318844317648218352:=0
def tw6541484221119620076:=0
def tw6614712819747393874:=0
def tw6912940698411832057:=0
def tw7013327544809116808:=0
def tw71115689935224150:=0
def tw722912116853075577:=0
def tw7380646715398018927:=0
def tw7503810562727737647:=0
def tw8096513608312357687:=0
def tw8121112881460784129:=0
def tw8129063991666306801:=0
def tw8235563920829853502:=0
def tw8310719864326212643:=0
def tw8674712900660589446:=0
def tw8925636577542528865:=0
def tw9130911007937549597:=0
def tw9173892173542023129:=0
def tw9201718871856511175:=0
def tw9210421209471766560:=0
def tw9387057219884581272:=0
def tw9446254882209375717:=0
def tw9453895583780143635:=0
def tw948158485687772803:=0
def tw9560679646663899621:=0
def tw9583561332313304224:=0
def tw9884198443829854671:=0
def tw10057308859929963419:=0
def tw10358158657732983160:=0
def tw10405464160038903637:=0
def tw10493710085951096933:=0
def tw10708544523978043673:=0
def tw11153641312302135554:=0
def tw11465454497035341132:=0
def tw12358018377135113462:=0
def tw1380168829895321587:=0
def tw14809674080699344229:=0
def tw15254721703395085998:=0
def tw15366520779284527240:=0
def tw15390341877667691397:=0
def tw15754732117241878072:=0
def tw16464202979243627796:=0
def tw16906747751287535064:=0
def tw16977881927019049959:=0
def tw1706305152544243448:=0
def tw1713970091940431609:=0
def tw17256468936135866437:=0
def tw17283770097401405744:=0
def tw1971101685038016703:=0
def tw2333200551958602609:=0
def tw2384560312977994841:=0
def tw2485788061523661974:=0
def tw2992330743165227202:=0
def tw3437080658295347492:=0
def tw4458895536109423057:=0
def tw45928738993584036:=0
def tw4609283913344032974:=0
def tw4722392812989509784:=0
def tw503268695192511487:=0
def tw5141865734355821333:=0
def tw5145206357457288543:=0
def tw5909410857659149496:=0
def tw6099500647311868094:=0
def tw6338489338647638949:=0
def tw6644348941722812315:=0
def tw6717416963467809856:=0
def tw6831362684000155456:=0
def tw6979416881683626485:=0
def tw8367892192379640377:=0
def tw8418484446730174891:=0
def tw9452918402577679743:=0
def tw9519984185874260529:=0
def tw10234404917424510365:=0
def tw10590036314610938116:=0
def tw10835954162499525855:=0
def tw12456670898360485682:=0
def tw12500675908456939979:=0
def tw12848375029796766648:=0
def tw134367989502959697:=0
def tw13834922055802923508:=0
def tw14739411154035735142:=0
def tw15638716310515187006:=0
def tw15692529991985710758:=0
def tw16087170178269990297:=0
def tw16409497405640880401:=0
def tw17835392976741562583:=0
def tw18186846383831509690:=0
def tw18195256374402157100:=0
def tw1874610659975132730:=0
def tw2512148517823781705:=0
def tw2692274022755412218:=0
def tw2743536832029528654:=0
def tw3132909440362618848:=0
def tw333026012680018763:=0
def tw396149533706051028:=0
def tw4090977433666553051:=0
def tw4571437812595936343:=0
def tw4880768349902283769:=0
def tw5537490624774112795:=0
def tw6055077796150721798:=0
def tw6406584349667984085:=0
def tw6728469716151050215:=0
def tw7528046173000180762:=0
def tw7643289972978913663:=0
def tw7847153864984770032:=0
def tw8676460442324538047:=0
def tw9433557406785050266:=0
def tw9762068001007845783:=0
def tw10359369216155903031:=0
def tw11420377718920178777:=0
def tw11907005787175089892:=0
def tw12734478723432393930:=0
def tw15699271889282929008:=0
def tw15719101630098923390:=0
def tw16509180545039834518:=0
def tw16667352055610569314:=0
def tw17099374190468163119:=0
def tw1802438015421304944:=0
def tw2193470038310623796:=0
def tw3695078657783079407:=0
def tw4057936032969147161:=0
def tw6569027711802658089:=0
def tw9258127372923273698:=0
def tw9502105740166076176:=0
def tw10524393736802638521:=0
def tw12680574923518196706:=0
def tw13329367169414262518:=0
def tw15163312444589432164:=0
def tw16064572135373364684:=0
def tw17320273288927971002:=0
def tw3329223224661875857:=0
def tw3987090784943033127:=0
def tw8525269860638341172:=0
def tw11655644436712940169:=0
def tw11791561524416771720:=0
def tw13617903436771235889:=0
def tw17910205048785131466:=0
def tw5011470099508835866:=0
def tw6133721802973385878:=0
def tw6181111491849869019:=0
def tw8028888828720215640:=0
end PySem.W.Fast
open Array renaming getElem?_eq_some_iff->aG,getElem?_toList->aZ,length_toList->fI,mem_toList_iff->gH,getElem?_eq_none_iff->ju,getElem?_eq_getElem->jS,getD->mR,toList->qF,toList_filterMap->rR,toList_extract->tO,forIn_toList->vd
open Bool renaming false_ne_true->ay,and_eq_true->cR,false_eq_true->dF,eq_iff_iff->mQ,and_true->t5,or_true->u9
open Classical renaming byContradiction->aL
open False renaming elim->cI
open ForInStep renaming yield->ir
open Int renaming toNat_of_nonneg->bS,toNat_natCast->bY,emod_lt_of_pos->cg,dvd_mul_of_dvd_right->cz,mul_ediv_add_emod->cB,emod_nonneg->cC,natCast_dvd_natCast->cW,dvd_sub->dM,emod_eq_emod_iff_emod_sub_eq_zero->dQ,natCast_mul->eH,natCast_nonneg->eU,mul_assoc->fz,dvd_trans->fA,mul_le_mul_of_nonneg_left->fC,natCast_emod->fM,mul_comm->gb,natAbs_dvd_natAbs->gr,dvd_mul_right->gB,natCast_ediv->gW,mul_sub->iw,natAbs_natCast->kh,lt_of_le_of_lt->ki,le_trans->kj,emod_eq_zero_of_dvd->kI,mul_one->ls,ediv_eq_iff_of_pos->lu,zero_add->mO,mul_le_mul_of_nonneg_right->mP,one_mul->nQ,dvd_add->nR,emod_eq_of_lt->pH,ediv_nonneg->qV,pow_succ->u7,sub_mul->vX
open List renaming length_map->π,size_toArray->ψ,mem_cons_of_mem->Γ,mem_cons->Ω,mem_cons_self->aa,length_append->ah,range->ar,getElem?_eq_some_iff->au,length_cons->az,replicate->aA,map_cons->aC,getElem?_eq_getElem->aE,getElem?_map->aK,mem_map->aT,not_mem_nil->ba,mem_range->bE,mem_of_getElem?->bF,mem_append_right->bG,getD_eq_getElem?_getD->bL,append_nil->bV,sum_cons->cf,mem_singleton->cw,map_map->cy,mem_append->cA,lookup_cons->cF,map_append->cO,map_congr_left->cT,filter_append->dg,getElem?_eq_none_iff->dh,replicate_succ->dj,mem_of_mem_eraseIdx->dz,nodup_cons->dP,nil_append->eG,getElem?_append_right->eL,length_take->eP,filter_cons->eQ,getElem?_append_left->eW,length->e7,mem_append_left->fm,find?_cons->fo,length_eq_zero_iff->fE,filterMap_cons->fH,lookup_append->fY,find?_eq_none->fZ,of_mem_zip->gj,length_singleton->gk,length_replicate->gm,length_nil->gp,getElem?_eq_none->gq,pairwise_map->gy,flatten_cons->gz,pairwise_iff_getElem->gE,getElem?_of_mem->gF,eraseIdx_eq_take_drop_succ->g8,getElem?_replicate->g9,append_assoc->iD,take_append_drop->iP,mem_of_find?_eq_some->jN,mem_filter->jO,drop_eq_getElem_cons->jP,zip_cons_cons->kf,toArray->kg,nodup_nil->kz,filter_congr->kT,take_of_length_le->lp,getElem?_set_self->lr,isEmpty_map->lN,all_eq_true->lO,getElem?_zipWith->lV,map_uncurry_zip_eq_zipWith->lX,sum_append->mH,mem_of_mem_take->mI,length_zip->mJ,getElem?_set_ne->mK,forIn_cons->mL,eq_nil_of_length_eq_zero->mS,length_zipWith->mZ,getElem?_range->m3,filter_eq_self->m5,countP_eq_length_filter->nG,mem_filterMap->oq,contains_cons->ou,length_eraseIdx_of_lt->oQ,take_sublist->pF,length_range->pG,isEmpty_eq_false_iff->pO,take_length->qx,length_drop->qy,isEmpty_iff->qz,getElem?_take_of_lt->qA,filterMap_cons_some->qB,cons_append->qC,getElem?_cons_succ->qI,filter_cons_of_pos->qJ,filter_cons_of_neg->qK,lookup_nil->qS,getD->qT,foldl_cons->qU,zipWith_cons_cons->rK,range_succ_eq_map->rL,getElem_cons_drop->rM,filter_eq_nil_iff->rN,drop_eq_nil_of_le->rO,length_filter_le->sx,forIn_nil->sy,nodup_iff_count->tJ,getElem_toArray->tK,getElem?_append->tL,map_take->tX,map_drop->tY,mem_map_of_mem->ub,length_pos_iff->uc,getD_cons_zero->ud,getD_cons_succ->ue,zipWith->uW,map_nil->uX,map_filterMap->uY,getElem?_drop->uZ,filterMap_map->u6,foldl->xq
open List.Pairwise renaming nil->vG,map->vH
open List.cons renaming injEq->xt
open Nat renaming le_refl->Φ,le_trans->aD,zero_le->aI,ne_of_lt->bf,lt_of_lt_of_le->bu,gcd->bD,lcm->bH,lt_irrefl->cE,pow_le_pow_right->cH,mod_lt->dO,ne_of_gt->dS,le_add_right->fK,gcd_comm->gU,lt_of_le_of_lt->iq,lt_succ_of_lt->iC,mul_comm->iO,gcd_dvd_left->jb,div_eq_of_eq_mul_right->jr,mul_pos->jv,div_add_mod->jM,le_of_dvd->lE,lt_succ_self->lM,pow_succ->mF,lt_trans->mG,mul_le_mul->nF,gcd_rec->nP,gcd_zero_right->om,add_sub_cancel->oo,dvd_trans->oP,gcd_dvd_right->pC,dvd_mul_right->pD,dvd_lcm_right->pE,succ_pos->qr,min_self->qt,le_of_lt->qu,dvd_lcm_left->qw,le_mul_of_pos_right->qG,gcd_pos_of_pos_left->qH,div_le_self->qR,le_succ->rG,le_mul_of_pos_left->rH,add_mul->rJ,mul_le_mul_right->tI,mul_assoc->tU,one_mul->vT,lcm_pos->vU,lcm_dvd->vV
open Ne renaming symm->dy
open Option renaming bind_some->ja,isSome_iff_exists->kc,getD_none->wM,map->xp
open Option.some renaming inj->aO
open Or renaming inr->ip,inl->ka
open PyProof.Rows renaming slot_tuple_getitem->cV,callWith_type1->fW,IntsAre->gL,AllBare->kC,get?_update_seq->mC,assignInOrder_cons->og,listUpdate_at->oN,IsTup->pP,SortKind->qp,seqEpoch_at->rF
open PyProof.Rows.F renaming plain_set_update_loop->fX,entry_set_update_loop->j9
open PySem renaming wpAny_bind->δ,Value->ε,Addr->ζ,Shared->θ,wpAny_pure->μ,Str->ν,wpAny->ρ,Expr->υ,Heap->Ψ,Program->ag,Spec->aj,FuncData->aq,World->av,sizeLine->aw,Obj->aH,Around->aJ,Stmt->aM,Pos->aN,mainGlobals->aS,wpAny_newObj_type->bz,wpAny_field->bA,SetTable->bC,starEach->bI,wpAny_holding->bK,wpAny_setField_rec->bQ,wpAny_call_entry->bU,wpAny_callSpecial?_slot->cm,sizeLine_eq->cq,wpAny_mono->cS,Builtin->di,Env->dq,wpAny_setState_of->dt,wpAny_seqItems->dX,wpAny_Call_Name_kw->eR,Scope->eV,wpAny_typeNameOfWhole_itemiter->fi,wpAny_pyIter_list->fw,wpAny_loadPart_at->fx,mem_of_lookup->fG,wpAny_setField->fJ,NameKind->fL,codeAny_mono->fV,wpAny_passesOwn->gh,wpAny_execs_nil->gi,wpAny_attempt->gv,wpAny_typeNameOf_itemiter->gC,wpAny_loadName_local->gD,bootBuiltins->gS,IsPair->gV,wpAny_standAt->hU,wpAny_pyIter_tuple->ig,codeAny_builtin->ij,codeAny->iL,wpAny_execs_cons->i7,wpAny_call->i8,wpAny_Name->i9,IsItemIter->jc,wpAny_newFunctionEnv_cells->jm,wpAny_isSubtype_exc->jD,wpAny_typeOf->j6,Sem->j7,DictEntry->kl,call_meets->kv,wpAny_truthy_bool->kR,wpAny_pyIter_slot->kS,wpAny_of_eq->lg,wpAny_isOneOf_itemiter->lh,IsZip->lF,wpAny_isInstance->lK,wpAny_forIn_list->lL,codeAny_call_function->lT,PassesOwn->lU,wpAny_updateSeq_pair->mz,wpAny_rule->mB,codeAny_call_builtin->mD,IsPart->mM,wpAny_loadName_cell->mY,wpAny_newTuple->nA,Operator->nE,wpAny_onRaise->oK,plainId_quiet->oM,wpAny_dictEntries->pq,BindsTo->pV,wpAny_comprehension_free->qk,wpAny_askSetting->ql,noFill_tuple_add->qm,concat_meets->qo,wpAny_dictEpoch->qP,codeAny_of_tree->qQ,wpAny_letGo->rE,IsRangeIter->rP,wpAny_fieldsOf->sf,isSubtype_type->sg,isSubtype_stop->sh,entryFor_alias->si,SetTable->sm,Keyword->sC,wpAny_newList->tR,wpAny_handled->tS,seq_tuple_add->tT,IsItemIterOut->tZ,call->xl
open PySem.Around renaming under_plainId->gI,frames_deeper->tP
open PySem.Builtin.Dict renaming showsAll->sD
open PySem.Builtin.Dict_items renaming ownsTuple->iQ,ownedTupleIsFree->kA,ownedTupleFields->kB,pairFromOwner->lP
open PySem.Builtin.Frozenset renaming slot0->qL
open PySem.Builtin.Int renaming intBits->jE
open PySem.Builtin.List renaming listTooLong->gY,listExtendWith->oB,listSameRef->qE
open PySem.Builtin.Range renaming rangeSize->et
open PySem.Builtin.Slice renaming slicePlaces->gG,sliceAdjust->jR,sliceApplied->oV
open PySem.Builtin.SmallTypes renaming nextOf->cJ,ownedTupleIsFree->dY,ownedTupleHandOut->km
open PySem.Builtin.Tuple renaming tupleExact->gX,tupleItemsOf->oU
open PySem.Calls renaming callWith_builtin->ly,spliced_cons->oA,Name_function_global->oR,evalArgs_plain->tN,spliced_nil->vJ
open PySem.Code renaming quiet_builtin->oz
open PySem.Data renaming cell->lW,fields->nS
open PySem.EntryCells renaming newEntry->ug
open PySem.F renaming args_tuple_add_2->j8,entry_tuple_add->kH,slot_tuple_add->ll,excBase_ValueError->oO,type_list_pop->sr,slot_list_pop->su,slot_dict_get->sv
open PySem.Heap renaming get?_push_of_some->ι,lt_size->Θ,get?_push_size->ae,get?_update_other->bB,get?_update_self->ck,SameBut->cQ,size_push->dN,get?_none_of_le->fq,IsTuple->qD,IsList->rQ,get?_push_cases->tM,get?_update_ne->uf,ExtBut->vY
open PySem.Heap.IsList renaming push->wN
open PySem.Heap.IsTuple renaming push->vI
open PySem.Heap.SameBut renaming update->dm
open PySem.IsRange renaming new->vW
open PySem.NameKind renaming free->cZ,cell->tV
open PySem.Obj renaming mapSeq->bx,data_mapFields->dE,isFreed_of_fields->eS,mapFields->gw,putSet->pN
open PySem.PassesOwn renaming never->cN
open PySem.SeqAt.EqAt renaming bool_bool->tH
open PySem.SeqAt.RcAt renaming lists_lengths->uV
open PySem.SetTable renaming insertAt->bP,grown->iM,below->iN,sizeAbove->oi
open PySem.Shared renaming heap->iu,TypeIs->lD
open PySem.Str renaming ofString->fk,empty->iU
open PySem.Value renaming ref->aF,none->aX,bool->fj,isInt_shape->iB,builtin->jn,int->oh,type->tG,isInt->vS
open PySem.W renaming Frag->η,kitOne->ω,mg_of->ak,nsIn->bw,keepIn->bW,findIn->bX,mg_none_of->cb,kia_one->dD,fnOf->gT,callWith_K->ik,mroIn->jo,clsIn->jq,notCls->kx,codeIn->ky,cellsFrom_some->lj,kas_ask->nB,InstAt->nC,codeRec_of->oj,methodObj->pz,kitx_list->pA,hasDictIn->pB,typeIn->sj,lookIn->sk,looks_clsIn->ua,specialIn->vE,kitx_dict->vF,takesIn->xm,findObj->xn,OpenLaw->xo
open PySem.W.KasT renaming kasWp_bind->jQ
open PySem.Within renaming cons->vR
open Sum renaming inr->pT,inl->pU
open True renaming intro->mE
namespace L2
open PySem PySem.Spec PyProof.Rows
abbrev Key:=Sum Int ν
def GL:Key->ε->Bool
 |.inl k,v=>vS k v
 |.inr x,v=>ε.isStrOf x v
def aaO(w:av):Key->Int
 |.inl k=>hashInt k
 |.inr x=>hashStr w x
theorem sL:∀{k:Key} {v:ε},GL k v=true->(∃i t,k=pU i/\v=oh i t)∨(∃x t,k=pT x/\v=ε.str x t)
 |.inl i,v,h=>by
  obtain⟨t,e⟩:=iB (k:=i) (v:=v) h;exact .inl ⟨i,t,rfl,e⟩
 |.inr x,v,h=>by
  obtain⟨t,e⟩:=ε.isStrOf_shape (x:=x) (v:=v) h;exact .inr ⟨x,t,rfl,e⟩
theorem Xx(a b:Int):decide ((pU a:Key)=pU b)=(a==b):=by
 by_cases e:a=b
 ·subst e;simp
 ·have h:¬(pU a:Key)=pU b:=fun q=>e (pU.inj q);rw[decide_eq_false h];exact (beq_eq_false_iff_ne.mpr e).symm
theorem Xw(a b:ν):decide ((pT a:Key)=pT b)=decide (a=b):=by
 by_cases e:a=b
 ·subst e;simp
 ·have h:¬(pT a:Key)=pT b:=fun q=>e (pT.inj q);rw[decide_eq_false h,decide_eq_false e]
theorem Xv(a:Int)(b:ν):decide ((pU a:Key)=pT b)=false:=decide_eq_false (fun q=>nomatch q)
theorem Xu(a:ν)(b:Int):decide ((pT a:Key)=pU b)=false:=decide_eq_false (fun q=>nomatch q)
def xX(prog:ag)(w:av):PySem.KeyKind prog w Key where
 is:=GL
 hash:=aaO w
 inj:=fun v a b ha hb=>by
  rcases sL ha with⟨i,t,rfl,rfl⟩|⟨x,t,rfl,rfl⟩
  ·rcases sL hb with⟨j,u,rfl,e⟩|⟨y,u,rfl,e⟩
   ·injection e with e1 _;rw[e1]
   ·exact nomatch e
  ·rcases sL hb with⟨j,u,rfl,e⟩|⟨y,u,rfl,e⟩
   ·exact nomatch e
   ·injection e with e1 _;rw[e1]
 byValue:=fun k v h=>by
  rcases sL h with⟨i,t,rfl,rfl⟩|⟨x,t,rfl,rfl⟩<;>rfl
 pyHash:=fun hv h=>by
  rcases sL hv with⟨i,t,rfl,rfl⟩|⟨x,t,rfl,rfl⟩
  ·exact wpAny_pyHash_int h
  ·exact wpAny_pyHash_str h
 eqBool:=fun hu hv h=>by
  rcases sL hu with⟨i,t,rfl,rfl⟩|⟨x,t,rfl,rfl⟩
  ·rcases sL hv with⟨j,u,rfl,rfl⟩|⟨y,u,rfl,rfl⟩
   ·rw[Xx] at h;exact wpAny_eqBool_int h
   ·rw[Xv] at h;exact SeqAt.EqAt.int_str i t y u _ _ _ _ h
  ·rcases sL hv with⟨j,u,rfl,rfl⟩|⟨y,u,rfl,rfl⟩
   ·rw[Xu] at h;exact SeqAt.EqAt.str_int x t j u _ _ _ _ h
   ·rw[Xw] at h;exact wpAny_eqBool_str h
 «strs»:=fun k x t v h=>by
  rcases sL h with⟨i,u,rfl,e⟩|⟨y,u,rfl,e⟩
  ·exact nomatch e
  ·injection e with e1 _;subst e1;cases v<;>rfl
end L2
namespace L2
open PySem PySem.Spec PyProof.Rows
inductive V where
 |aB|bl (b:Bool)|int (i:Int)|str (x:ν)|Dv (b:Array UInt8)|MT (b:UInt64)|ref (a:ζ)|ty (n:String)
 deriving DecidableEq
def RelV:V->ε->Prop
 |.aB,u=>u=aX
 |.bl b,u=>u=fj b
 |.int i,u=>∃t,u=oh i t
 |.str x,u=>∃t,u=ε.str x t
 |.Dv b,u=>∃t,u=ε.bytes b t
 |.MT b,u=>∃t,u=ε.float b t
 |.ref a,u=>u=aF a
 |.ty n,u=>u=tG n
abbrev bh:List V->List ε->Prop:=Paired RelV
theorem bh.length{xs:List V}{us:List ε}(r:bh xs us):xs.length=us.length:=Paired.length r
theorem bh.get:∀{xs:List V} {us:List ε} {i:Nat} {x:V},bh xs us->xs[i]?=some x->∃u,us[i]?=some u/\RelV x u
 |_,_,_,_,.nil,e=>by simp at e
 |_,_,0,_,.cons r _,e=>by simp at e;subst e;exact⟨_,rfl,r⟩
 |_,_,i+1,x,.cons _ t,e=>by
  obtain⟨u,h1,h2⟩:=bh.get (i:=i) (x:=x) t (by simpa using e);exact⟨u,by simpa using h1,h2⟩
theorem bh.set{x:V}{u:ε}(r:RelV x u):∀{xs:List V} {us:List ε} (i:Nat),bh xs us->bh (xs.set i x) (us.set i u)
 |_,_,_,.nil=>.nil
 |_,_,0,.cons _ t=>.cons r t
 |_,_,i+1,.cons q t=>.cons q (bh.set r i t)
theorem bh.append:∀{xs ys:List V} {us ws:List ε},bh xs us->bh ys ws->bh (xs++ys) (us++ws)
 |_,_,_,_,.nil,s=>s
 |_,_,_,_,.cons r t,s=>.cons r (bh.append t s)
theorem bh.take:∀{xs:List V} {us:List ε} (n:Nat),bh xs us->bh (xs.take n) (us.take n)
 |_,_,0,_=>.nil
 |_,_,_+1,.nil=>.nil
 |_,_,n+1,.cons r t=>.cons r (bh.take n t)
theorem bh.drop:∀{xs:List V} {us:List ε} (n:Nat),bh xs us->bh (xs.drop n) (us.drop n)
 |_,_,0,r=>r
 |_,_,_+1,.nil=>.nil
 |_,_,n+1,.cons _ t=>bh.drop n t
def tD:Option V->Option ε->Prop
 |some v,some u=>RelV v u
 |none,none=>True
 |_,_=>False
def KV{κ:Type}:List (κ×V)->List (κ×ε)->Prop:=Paired fun (p:κ×V) (q:κ×ε)=>p.1=q.1/\RelV p.2 q.2
def kV:Key->V
 |.inl i=>.int i
 |.inr x=>.str x
inductive HO where
 |lst (xs:List V)
 |tup (xs:List V)
 |dK (kvs:List (Key×V))|dT (kvs:List (List Key×V))
 |set (S:Int->Bool) (n:Nat)
 |ins (C dx:ζ) (fs:List (ν×V))
 |own (x:ζ)
 |xd (fs:List (ν×V))
 |met (f x:ζ)
 |De (lo hi:Int)
 |dZ (o:aH) (u:HO)
 |wO (ps:Array ε)
 |ext (φ:Ψ->Prop)
abbrev Hp:=ζ->Option HO
def upd(H:Hp)(a:ζ)(o:HO):Hp:=fun b=>if b=a then some o else H b
theorem g6{H:Hp}{a:ζ}{o:HO}:upd H a o a=some o:=by unfold upd;rw[if_pos rfl]
theorem dA{H:Hp}{a b:ζ}{o:HO}(h:b≠a):upd H a o b=H b:=by unfold upd;rw[if_neg h]
theorem nh{H:Hp}{a b:ζ}{o:HO}(h:H a=some o)(h':H b=none):a≠b:=by
 intro e;subst e;rw[h] at h';cases h'
def kZ(h:Ψ)(a:ζ)(items:Array ε):Prop:=∃o,h.get? a=some o/\o.cls=.type "tuple"/\(∃n,o.data=.seq items n)/\o.dict=none
theorem kZ.tup{h:Ψ}{a:ζ}{items:Array ε}(x:kZ h a items):pP h a items:=let ⟨o,h1,h2,h3,_⟩:=x;⟨o,h1,h2,h3⟩
theorem kZ.new(h:Ψ)(items:Array ε):kZ (h.push { cls:=.type "tuple",data:=.seq items }) h.objs.size items:=⟨_,ae _ rfl,rfl,⟨_,rfl⟩,rfl⟩
theorem kZ.lt{h:Ψ}{a:ζ}{items:Array ε}(x:kZ h a items):a<h.objs.size:=let ⟨_,ho,_⟩:=x;Θ ho
section
variable (P:ag) (w:av)
def cM(H:Hp)(h:Ψ)(a:ζ):HO->Prop
 |.lst xs=>xs.length≤aw/\∃(its:List ε) (n:Nat),bh xs its/\h.get? a=some { cls:=.type "list",data:=.seq its.toArray n }
 |.tup xs=>xs.length≤aw/\∃its:List ε,bh xs its/\kZ h a its.toArray
 |.dK kvs=>kvs.length≤aw/\(a==sysModules)=false/\∃vs,KV kvs vs/\h.DictOf (xX P w) a vs
 |.dT kvs=>kvs.length≤aw/\(a==sysModules)=false/\∃xs:List (List Key×ζ×ε),
   Paired (fun (p:List Key×V) (q:List Key×ζ×ε)=>p.1=q.1/\H q.2.1=some (.tup (p.1.map kV))/\RelV p.2 q.2.2) kvs xs ∧
   ∃o es ep,h.get? a=some o/\o.ExactDict/\o.data=.dict es ep/\es.toList=xs.map (entryOfKey (tupleKind (xX P w)))/\(xs.map (·.1)).Nodup
 |.set S n=>h.SetOf (intKind P w) a S n
 |.ins C dx fs=>H dx=some (.own a)/\fs.length≤1000/\dx≠a/\h.get? a=some (PySem.W.instObj C dx) ∧
   ∃mA,h.Ns1 dx mA/\(∀f,tD (fs.lookup f) (mA f))/\PySem.Within mA (fs.map (·.1))
 |.own _=>∃o,h.get? a=some o
 |.xd fs=>∃mA,h.Ns1 a mA/\∀f,tD (fs.lookup f) (mA f)
 |.De lo hi=>∃t u v,h.get? a=some { cls:=.type "range",data:=.fields #[.int lo t,.int hi u,.int 1 v]}
 |.dZ o u=>h.get? a=some o/\cM H h a u
 |.wO ps=>h.get? a=some { cls:=.none,data:=.fields ps }
 |.met f x=>h.get? a=some (pz (.ref f) (.ref x))
 |.ext φ=>φ h/\(∃o,h.get? a=some o)/\∀h1 h2:Ψ,φ h1->(∀o,h1.get? a=some o->h2.get? a=some o)->φ h2
def fF(H:Hp)(h:Ψ):Prop:=∀a o,H a=some o->cM P w H h a o
end
section
variable {P:ag} {w:av} {H H':Hp} {h h':Ψ} {a:ζ} {o:HO}
theorem cM.lt(x:cM P w H h a o):a<h.objs.size:=by
 cases o with
 |lst xs=>obtain⟨_,_,_,_,e⟩:=x;exact Θ e
 |tup xs=>obtain⟨_,_,_,p⟩:=x;exact p.lt
 |dK kvs=>obtain⟨_,_,_,_,o,_,_,e,_⟩:=x;exact Θ e
 |dT kvs=>obtain⟨_,_,_,_,o,_,_,e,_⟩:=x;exact Θ e
 |set S n=>obtain⟨o,_,_,_,e,_⟩:=x;exact Θ e
 |ins C dx fs=>obtain⟨_,_,_,e,_⟩:=x;exact Θ e
 |own y=>obtain⟨_,e⟩:=x;exact Θ e
 |xd fs=>obtain⟨_,⟨_,_,_,e,_⟩,_⟩:=x;exact Θ e
 |De lo hi=>obtain⟨_,_,_,e⟩:=x;exact Θ e
 |dZ ob u=>obtain⟨e,_⟩:=x;exact Θ e
 |wO ps=>exact Θ (show h.get? a=some _ from x)
 |met f y=>exact Θ (show h.get? a=some _ from x)
 |ext φ=>obtain⟨_,⟨_,e⟩,_⟩:=x;exact Θ e
theorem Paired.MG{α β:Type}{F G:α->β->Prop}:∀{l₁:List α} {l₂:List β},Paired F l₁ l₂->(∀a b,F a b->G a b)->Paired G l₁ l₂
 |_,_,.nil,_=>.nil
 |_,_,.cons r t,f=>.cons (f _ _ r) (Paired.MG t f)
theorem cM.m8(x:cM P w H h a o)(k:∀b u,(b=a∨H b=some (.own a))->h.get? b=some u->h'.get? b=some u)
  (ho:∀b,H b=some (.own a)->H' b=some (.own a)) (ht:∀b xs,H b=some (.tup xs)->H' b=some (.tup xs)):cM P w H' h' a o:=by
 induction o with
 |lst xs=>obtain⟨z,its,n,r,e⟩:=x;exact⟨z,its,n,r,k _ _ (.inl rfl) e⟩
 |tup xs=>obtain⟨z,its,r,ob,e,c⟩:=x;exact⟨z,its,r,ob,k _ _ (.inl rfl) e,c⟩
 |dK kvs=>obtain⟨z,y,vs,r,ob,es,ep,e,c⟩:=x;exact⟨z,y,vs,r,ob,es,ep,k _ _ (.inl rfl) e,c⟩
 |dT kvs=>
  obtain⟨z,y,xs,r,ob,es,ep,e,c⟩:=x;exact⟨z,y,xs,Paired.MG r fun p q z=>⟨z.1,ht _ _ z.2.1,z.2.2⟩,ob,es,ep,k _ _ (.inl rfl) e,c⟩
 |set S n=>obtain⟨ob,es,ep,t,e,c⟩:=x;exact⟨ob,es,ep,t,k _ _ (.inl rfl) e,c⟩
 |ins C dx fs=>
  obtain⟨d,z,ne,e,mA,⟨od,es,ep,e2,c⟩,r⟩:=x;exact⟨ho _ d,z,ne,k _ _ (.inl rfl) e,mA,⟨od,es,ep,k _ _ (.inr d) e2,c⟩,r⟩
 |own y=>obtain⟨ob,e⟩:=x;exact⟨ob,k _ _ (.inl rfl) e⟩
 |xd fs=>obtain⟨mA,⟨od,es,ep,e,c⟩,r⟩:=x;exact⟨mA,⟨od,es,ep,k _ _ (.inl rfl) e,c⟩,r⟩
 |De lo hi=>obtain⟨t,u,v,e⟩:=x;exact⟨t,u,v,k _ _ (.inl rfl) e⟩
 |dZ ob u ih=>obtain⟨e,q⟩:=x;exact⟨k _ _ (.inl rfl) e,ih q⟩
 |wO ps=>
  have e:h.get? a=some { cls:=.none,data:=.fields ps }:=x;show h'.get? a=some { cls:=.none,data:=.fields ps };exact k a _ (.inl rfl) e
 |met f y=>
  have e:h.get? a=some (pz (.ref f) (.ref y)):=x;show h'.get? a=some (pz (.ref f) (.ref y));exact k a _ (.inl rfl) e
 |ext φ=>obtain⟨p,⟨o,e⟩,st⟩:=x;exact⟨st _ _ p fun o q=>k _ _ (.inl rfl) q,⟨o,k _ _ (.inl rfl) e⟩,st⟩
theorem fF.lt(x:fF P w H h)(e:H a=some o):a<h.objs.size:=(x a o e).lt
theorem fF.fresh(x:fF P w H h)(e:h.objs.size≤a):H a=none:=by
 cases q:H a with
 |none=>rfl
 |some u=>exact absurd (bu (x.lt q) e) (cE _)
theorem fF.kept(x:fF P w H h)(k:∀b u,h.get? b=some u->h'.get? b=some u):fF P w H h':=fun a o e=>
 (x a o e).m8 (fun b u _ q=>k b u q) (fun _ q=>q) fun _ _ q=>q
theorem fF.laid(x:fF P w H h)(k:∀b u,h.get? b=some u->h'.get? b=some u)(hp:h.objs.size≤a)(new:cM P w (upd H a o) h' a o):fF P w (upd H a o) h':=fun b u e=>by
 have hn:=x.fresh hp;by_cases hb:b=a
 ·subst hb;rw[g6] at e;cases e;exact new
 ·rw[dA hb] at e;exact (x b u e).m8 (fun c v _ q=>k c v q) (fun c q=>by rw[dA (nh q hn)];exact q) fun c xs q=>by rw[dA (nh q hn)];exact q
end
def Rd(H:Hp)(a:ζ)(u:HO):Prop:=H a=some u∨∃o,H a=some (.dZ o u)
theorem Rd.ok{P:ag}{w:av}{H:Hp}{h:Ψ}{a:ζ}{u:HO}(r:Rd H a u)(x:fF P w H h):cM P w H h a u:=by
 rcases r with r|⟨o,r⟩
 ·exact x a u r
 ·obtain⟨_,q⟩:=x a _ r;exact q
def Dx:Option HO->Prop
 |some (.lst _)=>True
 |some (.dK _)=>True
 |some (.dT _)=>True
 |some (.set _ _)=>True
 |some (.ins _ _ _)=>True
 |some (.ext _)=>True
 |_=>False
section
variable {P:ag} {w:av} {H:Hp} {h h':Ψ} {x e:ζ} {o':HO}
theorem fF.write(ok:fF P w H h)(mu:Dx (H x))(he:e=x∨H e=some (.own x))(k:∀b u,b≠e->h.get? b=some u->h'.get? b=some u)(heo:∃u,h'.get? e=some u)
  (new:cM P w (upd H x o') h' x o'):fF P w (upd H x o') h':=fun b u q=>by
 have nown:∀c y,H c=some (.own y)->c≠x:=fun c y r z=>by subst z;rw[r] at mu;exact mu
 have ntup:∀c xs,H c=some (.tup xs)->c≠x:=fun c xs r z=>by subst z;rw[r] at mu;exact mu
 by_cases hb:b=x
 ·subst hb;rw[g6] at q;cases q;exact new
 ·rw[dA hb] at q;by_cases hbe:b=e
  ·have q':H b=some (.own x):=by
    rcases he with z|z
    ·exact absurd (hbe.trans z) hb
    ·rw[hbe];exact z
   rw[q] at q';cases q';obtain⟨v,hv⟩:=heo;exact⟨v,by rw[hbe];exact hv⟩
  ·refine (ok b u q).m8 (fun c v hc r=>k c v ?_ r) (fun c r=>by rw[dA (nown c b r)];exact r) fun c xs r=>by rw[dA (ntup c xs r)];exact r
   rcases hc with rfl|hc
   ·exact hbe
   ·rintro rfl;rcases he with z|z
    ·exact nown c b hc z
    ·rw[hc] at z;cases z;exact hb rfl
end
structure Un(fs ex:List ζ)(H H':Hp)(h h':Ψ):Prop where
 keep:∀b o,h.get? b=some o->H b=none->b∉fs->b∉ex->h'.get? b=some o
 slot:∀b o,h.get? b=some o->H b=none->b∈fs->b∉ex->∃sl,h'.get? b=some { o with slots:=sl }
 free:∀b o,h.get? b=some o->H b=none->b∉ex->H' b=none
 there:∀b o,h.get? b=some o->b∉ex->∃o',h'.get? b=some o'
 iE:∀b xs,H b=some (.tup xs)->H' b=some (.tup xs)
 kQ:∀b o u,H b=some (.dZ o u)->H' b=some (.dZ o u)
 oC:∀b ps,H b=some (.wO ps)->∃more,H' b=some (.wO (ps++more))
section
variable {fs fs' ex ex':List ζ} {H H1 H2:Hp} {h h1 h2 h':Ψ} {a x e:ζ} {o:HO}
theorem Un.any(u:Un fs ex H H1 h h1){b:ζ}{ob:aH}(q:h.get? b=some ob)(n:H b=none)(hx:b∉ex):∃sl,h1.get? b=some { ob with slots:=sl }:=by
 by_cases hb:b∈fs
 ·exact u.slot b ob q n hb hx
 ·exact⟨ob.slots,u.keep b ob q n hb hx⟩
theorem Un.kept(k:∀b u,h.get? b=some u->h'.get? b=some u):Un fs ex H H h h':=
 ⟨fun b ob q _ _ _=>k b ob q,fun b ob q _ _ _=>⟨ob.slots,k b ob q⟩,fun _ _ _ n _=>n,fun b ob q _=>⟨ob,k b ob q⟩,fun _ _ q=>q,fun _ _ _ q=>q,fun _ ps q=>⟨#[],by rw[q];simp⟩⟩
theorem Un.refl:Un fs ex H H h h:=Un.kept fun _ _ q=>q
theorem Un.laid(k:∀b u,h.get? b=some u->h'.get? b=some u)(hp:h.objs.size≤a)(hn:H a=none):Un fs ex H (upd H a o) h h' where
 keep:=fun b u q _ _ _=>k b u q
 slot:=fun b u q _ _ _=>⟨u.slots,k b u q⟩
 free:=fun b u q n _=>by rw[dA (bf (bu (Θ q) hp))];exact n
 there:=fun b u q _=>⟨u,k b u q⟩
 iE:=fun b xs q=>by rw[dA (nh q hn)];exact q
 kQ:=fun b u xs q=>by rw[dA (nh q hn)];exact q
 oC:=fun b ps q=>⟨#[],by rw[dA (nh q hn),q];simp⟩
theorem Un.write(mu:Dx (H x))(he:e=x∨H e=some (.own x))(k:∀b u,b≠e->h.get? b=some u->h'.get? b=some u)(heo:∃u,h'.get? e=some u):Un fs ex H (upd H x o) h h':=by
 have hx:∀b,H b=none->b≠x:=fun b n z=>by subst z;rw[n] at mu;exact mu
 have hb:∀b,H b=none->b≠e:=fun b n z=>by
  subst z;rcases he with r|r
  ·exact hx b n r
  ·rw[n] at r;cases r
 have hm:∀b u,H b=some u->¬Dx (some u)->b≠x:=fun b u q nm z=>by subst z;rw[q] at mu;exact nm mu
 refine⟨fun b u q n _ _=>k b u (hb b n) q,fun b u q n _ _=>⟨u.slots,k b u (hb b n) q⟩,fun b u q n _=>by rw[dA (hx b n)];exact n,fun b u q _=>?_,
  fun b xs q=>by rw[dA (hm b _ q fun z=>z)];exact q,fun b u xs q=>by rw[dA (hm b _ q fun z=>z)];exact q,fun b ps q=>⟨#[],by rw[dA (hm b _ q fun z=>z),q];simp⟩⟩
 by_cases hbe:b=e
 ·subst hbe;exact heo
 ·exact⟨u,k b u hbe q⟩
end
def oW(h:Ψ)(H:Hp):List ζ:=(ar h.objs.size).filter fun a=>(H a).isSome
def tf(h:Ψ)(H:Hp):Ψ:=PySem.W.hideAll h (oW h H)
theorem Xt(h:Ψ)(H:Hp):(tf h H).objs.size=h.objs.size:=PySem.W.hideAll_size _ _
theorem Xs{h:Ψ}{H:Hp}{b:ζ}{o:aH}(e:h.get? b=some o)(n:H b=none):(tf h H).get? b=some o:=
 PySem.W.hideAll_get _ e fun hm=>by
  have q:(H b).isSome=true:=(jO.mp hm).2;rw[n] at q;simp at q
theorem Xr{h:Ψ}{H:Hp}{b:ζ}{o:aH}(e:(tf h H).get? b=some o):h.get? b=some o/\H b=none:=by
 have e':h.get? b=some o:=PySem.W.of_hideAll (oW h H) e;refine⟨e',?_⟩;cases q:H b with
 |none=>rfl
 |some x=>
  have hm:b∈oW h H:=jO.mpr ⟨bE.mpr (Θ e'),by simp[q]⟩;have z:(tf h H).get? b=none:=PySem.W.hideAll_none (oW h H) hm;rw[z] at e;cases e
end L2
namespace L2
open PySem PySem.Spec PyProof.Rows
structure Mod(K:η)(mg:ν->Option ε)(base:Ψ):Prop where
 uD:K.In base
 glob:base.Ns aS mg
 blt:∃mb,base.Ns builtinsNs mb/\∀x:ν,x≠"__name__"->mb x=gS x
 nolimit:base.NoLimit
structure Cx where
 prog:ag
 w:av
 K:η
 mg:ν->Option ε
 base:Ψ
 A:aJ
 N:List ν
 s₀:θ
 H₀:Hp
 env:dq
 outer:List dq
 stack:List dq
 ex:List ζ
 fn:ν->Bool
 calm:Bool
 pn:List (ζ×aH)
 xe:ε->θ->Prop
def fQ(l:List dq):List ζ:=l.filterMap (·.frame)
abbrev Cx.fs(X:Cx):List ζ:=fQ X.outer
def Ap(sc:eV)(x:ν):Prop:=sc.names.lookup x=some .local∨sc.names.lookup x=some .cell∨sc.names.lookup x=some .free
def Loc(sc:eV)(x:ν):Prop:=sc.names.lookup x=some .local∨sc.names.lookup x=some .cell
def Look(env:dq)(h:Ψ)(m:ν->Option ε)(x:ν)(u:ε):Prop:=
 (env.kindOf x=some .local/\m x=some u)∨((env.kindOf x=some .cell∨env.kindOf x=some .free)/\∃c,env.cells.lookup x=some c/\h.IsCell c (some u))
structure Cx.Ok(X:Cx):Prop where
 mod:Mod X.K X.mg X.base
 kind:X.env.scope.kind=.function
 glob:X.env.globals=aS
 blt:X.env.builtins=builtinsNs
 above:X.s₀.heap.objs.size≤X.env.locals
 inj:∀x y c,X.env.cells.lookup x=some c->X.env.cells.lookup y=some c->x=y
 has:∀x,(X.env.kindOf x=some .cell∨X.env.kindOf x=some .free)->∃c,X.env.cells.lookup x=some c
 Am:∀x c,X.fn x=true->X.env.cells.lookup x=some c->X.s₀.heap.objs.size≤c
 hd:X.calm=true->X.A.handled=none
 frames:X.A.frames=some X.stack
 C4:X.stack=X.outer∨(X.stack=X.env::X.outer/\X.env.frame=some X.env.locals)
 Dr:∀b∈X.ex,b≠X.env.locals/\∀x c,X.env.cells.lookup x=some c->c≠b
 bs:∀b o,X.base.get? b=some o->X.s₀.heap.get? b=some o/\X.H₀ b=none
 uM:X.base.objs.size≤X.s₀.heap.objs.size
 wu:∀b o,X.base.get? b=some o->b∉X.ex
 xZ:∀b∈X.ex,b∉X.fs
 ml:X.s₀.heap.FunFrames X.base X.outer
 yh:∀b∈X.fs,X.H₀ b=none
structure Inv(X:Cx)(pins:List (ζ×aH))(σ:List (Option V))(H:Hp)(s:θ):Prop where
 ok:X.Ok
 os:s.os=X.s₀.os
 bare:kC s.gens
 base:Un X.fs X.ex X.H₀ H X.s₀.heap s.heap
 loc:∃m,s.heap.Ns X.env.locals m/\∀(i:Nat) (x:ν) (v:V),X.N[i]?=some x->σ[i]?=some (some v)->Ap X.env.scope x->∃u,RelV v u/\Look X.env s.heap m x u
 cell:∀x c,X.env.cells.lookup x=some c->∃v,s.heap.IsCell c v
 free:H X.env.locals=none
 ko:∀x c,X.env.cells.lookup x=some c->H c=none
 pin:∀p∈X.pn++pins,s.heap.get? p.1=some p.2/\H p.1=none/\p.1≠X.env.locals/\p.1∉X.fs/\∀v,p.2.data≠.cell v
 bJ:fF X.prog X.w H s.heap
 len:σ.length=X.N.length
section
variable {X:Cx} {pins:List (ζ×aH)} {σ:List (Option V)} {H H':Hp} {s:θ} {h':Ψ}
theorem Cx.Ok.aaE(ok:X.Ok){b:ζ}{o:aH}(e:X.base.get? b=some o):b∉X.fs:=fun hb=>by
 have:=(ok.ml.mem hb).1;rw[e] at this;cases this
theorem Inv.bs(I:Inv X pins σ H s):∀b o,X.base.get? b=some o->s.heap.get? b=some o/\H b=none:=fun b o e=>
 ⟨I.base.keep b o (I.ok.bs b o e).1 (I.ok.bs b o e).2 (I.ok.aaE e) (I.ok.wu b o e),I.base.free b o (I.ok.bs b o e).1 (I.ok.bs b o e).2 (I.ok.wu b o e)⟩
theorem Inv.bk(I:Inv X pins σ H s):∀b o,X.base.get? b=some o->s.heap.get? b=some o:=fun b o e=>(I.bs b o e).1
theorem Inv.mod(I:Inv X pins σ H s):Mod X.K X.mg X.base:=I.ok.mod
theorem Inv.hZ(I:Inv X pins σ H s):X.K.In s.heap:=I.ok.mod.uD.keeps I.bk
theorem Inv.nolimit(I:Inv X pins σ H s):s.heap.NoLimit:=I.ok.mod.nolimit.keeps I.bk
theorem Inv.lt(I:Inv X pins σ H s):X.env.locals<s.heap.objs.size:=let ⟨_,hn,_⟩:=I.loc;hn.lt
theorem Inv.sz(I:Inv X pins σ H s):X.s₀.heap.objs.size≤s.heap.objs.size:=aD I.ok.above (qu I.lt)
theorem Inv.aaD(I:Inv X pins σ H s){a:ζ}(h:s.heap.objs.size≤a):a∉X.fs:=fun hb=>by
 obtain⟨_,o,ho,_⟩:=I.ok.ml.mem hb;exact absurd (bu (Θ ho) (aD I.sz h)) (cE _)
theorem Inv.yi(I:Inv X pins σ H s):∀x c,X.env.cells.lookup x=some c->c≠X.env.locals:=fun x c e z=>by
 obtain⟨v,o,ho,hd⟩:=I.cell x c e;obtain⟨m,⟨o',es,ep,ho',hd',_⟩,_⟩:=I.loc;rw[z,ho'] at ho;cases ho;rw[hd'] at hd;cases hd
theorem Inv.ml(I:Inv X pins σ H s):s.heap.FunFrames X.base X.outer:=by
 have all:∀(l:List dq),(∀b∈fQ l,b∈X.fs)->X.s₀.heap.FunFrames X.base l->s.heap.FunFrames X.base l:=by
  intro l
  induction l with
  |nil=>intro _ _;trivial
  |cons env r ih=>
   intro hs hl;obtain⟨hk,⟨L,o,hf,hn,ho,hd⟩,hr⟩:=hl;have hL:L∈X.fs:=hs L (by unfold fQ;rw[fH,hf];exact aa);obtain⟨sl,e⟩:=I.base.slot L o ho (I.ok.yh L hL) hL fun z=>I.ok.xZ L z hL;exact⟨hk,⟨L,_,hf,hn,e,hd⟩,ih (fun b hb=>hs b (by unfold fQ;rw[fH,hf];exact Γ _ hb)) hr⟩
 exact all X.outer (fun _ hb=>hb) I.ok.ml
theorem Inv.stack(I:Inv X pins σ H s):s.heap.FunFrames X.base X.stack:=by
 rcases I.ok.C4 with e|⟨e,hf⟩
 ·rw[e];exact I.ml
 ·rw[e];obtain⟨m,hn,_⟩:=I.loc;refine .cons (by rw[I.ok.kind];decide) hf hn ?_ I.ml;exact fq (aD I.ok.uM I.ok.above)
theorem Inv.ui(I:Inv X pins σ H s):∀b∈fQ X.stack,b∈X.env.locals::X.fs:=fun b hb=>by
 rcases I.ok.C4 with e|⟨e,hf⟩
 ·rw[e] at hb;exact Γ _ hb
 ·rw[e] at hb;unfold fQ at hb;rw[fH,hf] at hb;exact hb
theorem Inv.lQ(I:Inv X pins σ H s):∀b∈fQ X.stack,H b=none:=fun b hb=>by
 rcases Ω.mp (I.ui b hb) with e|hb
 ·rw[e];exact I.free
 ·obtain⟨_,o,ho,_⟩:=I.ok.ml.mem hb;exact I.base.free b o ho (I.ok.yh b hb) fun z=>I.ok.xZ b z hb
theorem Inv.step{g':Array GenState}{t':Nat}{d':Drawn}{ch:List ζ}(I:Inv X pins σ H s)
  (vN:∀b∈ch,(b∈X.ex∨X.s₀.heap.objs.size≤b)/\b≠X.env.locals/\(∀x c,X.env.cells.lookup x=some c->c≠b)/\∀p∈X.pn++pins,p.1≠b)
  (keep:∀b o,b≠X.env.locals->b∉X.fs->b∉ch->s.heap.get? b=some o->H b=none->h'.get? b=some o)
  (slot:∀b o,b≠X.env.locals->b∈X.fs->b∉ch->s.heap.get? b=some o->H b=none->∃sl,h'.get? b=some { o with slots:=sl }) (free:∀b o,b∉ch->s.heap.get? b=some o->H b=none->H' b=none)
  (there:∀b o,b∉ch->s.heap.get? b=some o->∃o',h'.get? b=some o')
  (iE:∀b xs,H b=some (.tup xs)->H' b=some (.tup xs)) (kQ:∀b o u,H b=some (.dZ o u)->H' b=some (.dZ o u)) (oC:∀b ps,H b=some (.wO ps)->∃more,H' b=some (.wO (ps++more)))
  (ns:∀m,s.heap.Ns X.env.locals m->h'.Ns X.env.locals m) (bJ:fF X.prog X.w H' h') (hg:kC g'):
  Inv X pins σ H' { s with heap:=h',gens:=g',drawn:=d',toks:=t' }:=by
 have neL:∀b o,X.s₀.heap.get? b=some o->b≠X.env.locals:=fun b o e=>bf (bu (Θ e) I.ok.above);have neC:∀b o,X.s₀.heap.get? b=some o->b∉X.ex->b∉ch:=fun b o e hx hb=>by
  rcases (vN b hb).1 with z|z
  ·exact hx z
  ·exact absurd (bu (Θ e) z) (cE _)
 have cellK:∀x c,X.env.cells.lookup x=some c->∀v,s.heap.IsCell c v->h'.IsCell c v:=fun x c e v ⟨o,ho,hd⟩=>by
  have nch:c∉ch:=fun z=>(vN c z).2.2.1 x c e rfl;by_cases hc:c∈X.fs
  ·obtain⟨sl,q⟩:=slot c o (I.yi x c e) hc nch ho (I.ko x c e);exact⟨_,q,hd⟩
  ·exact⟨o,keep c o (I.yi x c e) hc nch ho (I.ko x c e),hd⟩
 refine⟨I.ok,I.os,hg,⟨fun b o e n hb hx=>?_,fun b o e n hb hx=>?_,fun b o e n hx=>?_,fun b o e hx=>?_,fun b xs e=>iE b xs (I.base.iE b xs e),fun b o xs e=>kQ b o xs (I.base.kQ b o xs e),fun b ps e=>?_⟩,?_,fun x c e=>?_,?_,fun x c e=>?_,fun p hp=>?_,bJ,I.len⟩
 ·exact keep b o (neL b o e) hb (neC b o e hx) (I.base.keep b o e n hb hx) (I.base.free b o e n hx)
 ·obtain⟨sl,e1⟩:=I.base.slot b o e n hb hx;obtain⟨sl',e2⟩:=slot b _ (neL b o e) hb (neC b o e hx) e1 (I.base.free b o e n hx);exact⟨sl',e2⟩
 ·obtain⟨o',e1⟩:=I.base.there b o e hx;exact free b o' (neC b o e hx) e1 (I.base.free b o e n hx)
 ·obtain⟨o',e1⟩:=I.base.there b o e hx;exact there b o' (neC b o e hx) e1
 ·obtain⟨m1,e1⟩:=I.base.oC b ps e;obtain⟨m2,e2⟩:=oC b _ e1;exact⟨m1++m2,by rw[e2,Array.append_assoc]⟩
 ·obtain⟨m,hn,hl⟩:=I.loc;refine⟨m,ns m hn,fun i x v e1 e2 e3=>?_⟩;obtain⟨u,r,l⟩:=hl i x v e1 e2 e3;refine⟨u,r,?_⟩;rcases l with l|⟨k,c,e,z⟩
  ·exact .inl l
  ·exact .inr ⟨k,c,e,cellK x c e _ z⟩
 ·obtain⟨v,z⟩:=I.cell x c e;exact⟨v,cellK x c e v z⟩
 ·obtain⟨m,⟨o,_,_,ho,_⟩,_⟩:=I.loc;exact free _ o (fun z=>(vN _ z).2.1 rfl) ho I.free
 ·obtain⟨v,o,ho,hd⟩:=I.cell x c e;exact free c o (fun z=>(vN c z).2.2.1 x c e rfl) ho (I.ko x c e)
 ·obtain⟨e,n,ne,nf,d⟩:=I.pin p hp;have nch:p.1∉ch:=fun z=>(vN p.1 z).2.2.2 p hp rfl;exact⟨keep p.1 p.2 ne nf nch e n,free p.1 p.2 nch e n,ne,nf,d⟩
theorem Inv.un{t':Nat}(I:Inv X pins σ H s)(u:Un X.fs [] H H' s.heap h')(bJ:fF X.prog X.w H' h'):Inv X pins σ H' { s with heap:=h',toks:=t' }:=by
 obtain⟨m,⟨o,es,ep,ho,r⟩,_⟩:=id I.loc;obtain⟨sl,hL⟩:=u.any ho I.free (by simp);exact I.step (g':=s.gens) (d':=s.drawn) (ch:=[]) (fun _ z=>nomatch z) (fun b o _ hb _ e n=>u.keep b o e n hb (by simp)) (fun b o _ hb _ e n=>u.slot b o e n hb (by simp)) (fun b o _ e n=>u.free b o e n (by simp)) (fun b o _ e=>u.there b o e (by simp)) u.iE u.kQ u.oC (fun m' hm=>by
  obtain⟨o',es',ep',ho',r'⟩:=hm;rw[ho] at ho';cases ho';exact⟨_,es',ep',hL,r'⟩) bJ I.bare
theorem Inv.call{g':Array GenState}{t':Nat}{d':Drawn}{ch:List ζ}(I:Inv X pins σ H s)(u:Un (fQ X.stack) ch H H' s.heap h')(bJ:fF X.prog X.w H' h')(hg:kC g')
  (vN:∀b∈ch,(b∈X.ex∨X.s₀.heap.objs.size≤b)/\b≠X.env.locals/\(∀x c,X.env.cells.lookup x=some c->c≠b)/\∀p∈X.pn++pins,p.1≠b):
  Inv X pins σ H' { s with heap:=h',gens:=g',drawn:=d',toks:=t' }:=by
 obtain⟨m,⟨o,es,ep,ho,r⟩,_⟩:=id I.loc;obtain⟨sl,hL⟩:=u.any ho I.free fun z=>(vN _ z).2.1 rfl;exact I.step (ch:=ch) vN (fun b o hL hb hc e n=>u.keep b o e n (fun z=>(Ω.mp (I.ui b z)).elim hL hb) hc) (fun b o _ _ hc e n=>u.any e n hc) (fun b o hc e n=>u.free b o e n hc) (fun b o hc e=>u.there b o e hc) u.iE u.kQ u.oC (fun m' hm=>by
  obtain⟨o',es',ep',ho',r'⟩:=hm;rw[ho] at ho';cases ho';exact⟨_,es',ep',hL,r'⟩) bJ hg
theorem Inv.turned{t':Nat}{it:ζ}(I:Inv X pins σ H s)(k:∀b o,b≠it->s.heap.get? b=some o->h'.get? b=some o)(hn:H it=none)(hL:it≠X.env.locals)
  (h1:it∈X.ex∨X.s₀.heap.objs.size≤it) (h2:∀x c,X.env.cells.lookup x=some c->c≠it) (h3:∀p∈X.pn++pins,p.1≠it):Inv X pins σ H { s with heap:=h',toks:=t' }:=by
 have nit:∀b u,H b=some u->b≠it:=fun b u e z=>by rw[z,hn] at e;cases e
 refine I.step (g':=s.gens) (d':=s.drawn) (ch:=[it]) (fun b hb=>?_) (fun b o _ _ hc e _=>k b o (fun z=>hc (by simp[z])) e) (fun b o _ _ hc e _=>⟨o.slots,k b o (fun z=>hc (by simp[z])) e⟩) (fun _ _ _ _ n=>n)
  (fun b o hc e=>⟨o,k b o (fun z=>hc (by simp[z])) e⟩) (fun _ _ e=>e) (fun _ _ _ e=>e) (fun b ps e=>⟨#[],by rw[e];simp⟩) (fun m hm=>?_) (fun b u e=>?_) I.bare
 ·have e:b=it:=by simpa using hb
  subst e;exact⟨h1,hL,h2,h3⟩
 ·obtain⟨o,es,ep,ho,r⟩:=hm;exact⟨o,es,ep,k _ o (dy hL) ho,r⟩
 ·refine (I.bJ b u e).m8 (fun c v hc q=>k c v ?_ q) (fun _ q=>q) fun _ _ q=>q;rcases hc with z|z
  ·rw[z];exact nit b u e
  ·exact nit c _ z
theorem Inv.tok(I:Inv X pins σ H s)(t:Nat):Inv X pins σ H { s with toks:=t }:=I.un (h':=s.heap) (t':=t) Un.refl I.bJ
theorem Inv.kept{t':Nat}(I:Inv X pins σ H s)(k:∀b u,s.heap.get? b=some u->h'.get? b=some u):Inv X pins σ H { s with heap:=h',toks:=t' }:=I.un (Un.kept k) (I.bJ.kept k)
theorem Inv.laid{a:ζ}{o:HO}{t':Nat}(I:Inv X pins σ H s)(k:∀b u,s.heap.get? b=some u->h'.get? b=some u)(hp:s.heap.objs.size≤a)(new:cM X.prog X.w (upd H a o) h' a o):
  Inv X pins σ (upd H a o) { s with heap:=h',toks:=t' }:=I.un (Un.laid k hp (I.bJ.fresh hp)) (I.bJ.laid k hp new)
theorem Inv.write{x e:ζ}{o:HO}{t':Nat}(I:Inv X pins σ H s)(mu:Dx (H x))(he:e=x∨H e=some (.own x))(k:∀b u,b≠e->s.heap.get? b=some u->h'.get? b=some u)(heo:∃u,h'.get? e=some u)
  (new:cM X.prog X.w (upd H x o) h' x o):Inv X pins σ (upd H x o) { s with heap:=h',toks:=t' }:=I.un (Un.write mu he k heo) (I.bJ.write mu he k heo new)
theorem Inv.Ai{pins':List (ζ×aH)}(I:Inv X pins σ H s)(h:∀p∈pins',s.heap.get? p.1=some p.2/\H p.1=none/\p.1≠X.env.locals/\p.1∉X.fs/\∀v,p.2.data≠.cell v):Inv X pins' σ H s:=
 ⟨I.ok,I.os,I.bare,I.base,I.loc,I.cell,I.free,I.ko,fun p hp=>(cA.mp hp).elim (fun z=>I.pin p (fm _ z)) (h p),I.bJ,I.len⟩
theorem Mj{N:List ν}(hN:N.Nodup){i j:Nat}{x:ν}(a:N[i]?=some x)(b:N[j]?=some x):i=j:=by
 obtain⟨h1,e1⟩:=au.mp a;obtain⟨h2,e2⟩:=au.mp b;exact (List.getElem_inj hN).mp (e1.trans e2.symm)
theorem Fl{M:Model}{A:aJ}{E:ε->θ->Prop}{i:Nat}{x:ν}{v:V}{u:ε}{Q:Unit->θ->Prop}(I:Inv X pins σ H s)(hN:X.N.Nodup)(hi:X.N[i]?=some x)(hx:Loc X.env.scope x)(r:RelV v u)
  (h:∀s',Inv X pins (σ.set i (some v)) H s'->(∃a,cQ a s.heap s'.heap/\(a=X.env.locals∨X.env.cells.lookup x=some a))->Q () s') (hf:X.fn x=true∨X.env.scope.names.lookup x=some .local:=by first|exact .inl rfl|exact .inr rfl|assumption):ρ M A (storeName X.env x u) Q E s:=by
 obtain⟨m,hn,hl⟩:=id I.loc;have hcls:(X.env.scope.kind==.class||(X.env.scope.kind==.module&&X.env.locals != X.env.globals))=false:=by rw[I.ok.kind];rfl
 have hiσ:i<σ.length:=by rw[I.len];exact (au.mp hi).1
 have yi:=I.yi;have tracked:∀{a:ζ} {h':Ψ},(∃o,s.heap.get? a=some o/\H a=none)->cQ a s.heap h'->fF X.prog X.w H h':=fun {a h'} ha hs b ob e=>by
  obtain⟨_,_,hfree⟩:=ha;refine (I.bJ b ob e).m8 (fun c w' hc q=>(hs.2 c ?_).trans q) (fun _ q=>q) fun _ _ q=>q;rintro rfl;rcases hc with rfl|hc
  ·rw[hfree] at e;cases e
  ·rw[hfree] at hc;cases hc
 rcases hx with hk|hk
 ·refine wpAny_storeName_local hk hn (fun h' hn' hs=>?_) hcls;obtain⟨oL,_,_,hoL,_⟩:=id hn;refine h _ ⟨I.ok,I.os,I.bare,⟨fun b o e n hb hx=>?_,fun b o e n hb hx=>?_,I.base.free,fun b o e hx=>?_,I.base.iE,I.base.kQ,I.base.oC⟩,⟨_,hn',fun j y v' e1 e2 e3=>?_⟩,fun y c e=>?_,I.free,I.ko,fun p hp=>?_,tracked ⟨oL,hoL,I.free⟩ hs,by simpa using I.len⟩ ⟨_,hs,.inl rfl⟩
  ·exact (hs.2 b (bf (bu (Θ e) I.ok.above))).trans (I.base.keep b o e n hb hx)
  ·obtain⟨sl,e1⟩:=I.base.slot b o e n hb hx;exact⟨sl,(hs.2 b (bf (bu (Θ e) I.ok.above))).trans e1⟩
  ·obtain⟨o',e1⟩:=I.base.there b o e hx;exact⟨o',(hs.2 b (bf (bu (Θ e) I.ok.above))).trans e1⟩
  ·by_cases hj:j=i
   ·subst hj;rw[hi] at e1;cases e1;rw[lr hiσ] at e2;cases e2;exact⟨u,r,.inl ⟨hk,by simp⟩⟩
   ·rw[mK (dy hj)] at e2;obtain⟨u',r',q⟩:=hl j y v' e1 e2 e3;refine⟨u',r',?_⟩;rcases q with⟨k,e⟩|⟨k,c,e,z⟩
    ·refine .inl ⟨k,?_⟩;have:y≠x:=fun e=>hj (Mj hN e1 (e▸hi));simp[this,e]
    ·exact .inr ⟨k,c,e,z.sameBut hs (yi y c e)⟩
  ·obtain⟨w',z⟩:=I.cell y c e;exact⟨w',z.sameBut hs (yi y c e)⟩
  ·obtain⟨e,n,ne,nf,d⟩:=I.pin p hp;exact⟨(hs.2 p.1 ne).trans e,n,ne,nf,d⟩
 ·have hfn:X.fn x=true:=by
   rcases hf with z|z
   ·exact z
   ·rw[z] at hk;cases hk
  obtain⟨c,hc⟩:=I.ok.has x (.inl hk);obtain⟨w',z⟩:=I.cell x c hc;refine wpAny_storeName_cell I.ok.kind hk hc z (fun h' hc' hs=>?_);obtain⟨oc,hoc,hocd⟩:=id z;refine h { s with heap:=h' } ⟨I.ok,I.os,I.bare,⟨fun b o e n hb hx=>?_,fun b o e n hb hx=>?_,I.base.free,fun b o e hx=>?_,I.base.iE,I.base.kQ,I.base.oC⟩,⟨m,hn.sameBut hs (dy (yi x c hc)),fun j y v' e1 e2 e3=>?_⟩,fun y c' e=>?_,I.free,I.ko,fun p hp=>?_,tracked ⟨oc,hoc,I.ko x c hc⟩ hs,by simpa using I.len⟩ ⟨c,hs,.inr hc⟩
  ·exact (hs.2 b (bf (bu (Θ e) (I.ok.Am x c hfn hc)))).trans (I.base.keep b o e n hb hx)
  ·obtain⟨sl,e1⟩:=I.base.slot b o e n hb hx;exact⟨sl,(hs.2 b (bf (bu (Θ e) (I.ok.Am x c hfn hc)))).trans e1⟩
  ·obtain⟨o',e1⟩:=I.base.there b o e hx;exact⟨o',(hs.2 b (bf (bu (Θ e) (I.ok.Am x c hfn hc)))).trans e1⟩
  ·by_cases hj:j=i
   ·subst hj;rw[hi] at e1;cases e1;rw[lr hiσ] at e2;cases e2;exact⟨u,r,.inr ⟨.inl hk,c,hc,hc'⟩⟩
   ·rw[mK (dy hj)] at e2;obtain⟨u',r',q⟩:=hl j y v' e1 e2 e3;refine⟨u',r',?_⟩;rcases q with q|⟨k,c',e,z'⟩
    ·exact .inl q
    ·refine .inr ⟨k,c',e,z'.sameBut hs ?_⟩;rintro rfl;exact hj (Mj hN e1 (I.ok.inj _ _ _ e hc▸hi))
  ·by_cases hcc:c'=c
   ·subst hcc;exact⟨_,hc'⟩
   ·obtain⟨w2,z2⟩:=I.cell y c' e;exact⟨w2,z2.sameBut hs hcc⟩
  ·obtain⟨e,n,ne,nf,d⟩:=I.pin p hp;refine⟨(hs.2 p.1 ?_).trans e,n,ne,nf,d⟩;intro q;rw[q,hoc] at e;have q':oc=p.2:=aO e;exact d w' (by rw[←q'];exact hocd)
theorem zp{M:Model}{A:aJ}{E:ε->θ->Prop}{i:Nat}{x:ν}{v:V}{u:ε}{Q:Unit->θ->Prop}(I:Inv X pins σ H s)(hN:X.N.Nodup)(hi:X.N[i]?=some x)(hx:Loc X.env.scope x)(r:RelV v u)
  (h:∀s',Inv X pins (σ.set i (some v)) H s'->Q () s') (hf:X.fn x=true∨X.env.scope.names.lookup x=some .local:=by first|exact .inl rfl|exact .inr rfl|assumption):ρ M A (storeName X.env x u) Q E s:=
 Fl I hN hi hx r (fun s' I' _=>h s' I') hf
theorem Inv.CF{s':θ}{ch:List ζ}(I:Inv X pins σ H s)(ho:s'.os=s.os)(u:Un (fQ X.stack) ch H H' s.heap s'.heap)(bJ:fF X.prog X.w H' s'.heap)(hg:kC s'.gens)
  (vN:∀b∈ch,(b∈X.ex∨X.s₀.heap.objs.size≤b)/\b≠X.env.locals/\(∀x c,X.env.cells.lookup x=some c->c≠b)/\∀p∈X.pn++pins,p.1≠b):Inv X pins σ H' s':=by
 obtain⟨h',g',d',t',o'⟩:=s';have e:o'=s.os:=ho;subst e;exact I.call (g':=g') (t':=t') (d':=d') u bJ hg vN
end
abbrev XK:=ε->Option ζ->Hp->Prop
abbrev St:=List (Option V)
abbrev VK:=V->Hp->Prop
abbrev TE:=St->Hp->VK->Prop
abbrev TT:=St->Hp->(Bool->Hp->Prop)->Prop
abbrev TA:=St->Hp->(List V->Hp->Prop)->Prop
structure Ends where
 nx:St->Hp->Prop
 rt:VK
 bk:St->Hp->Prop:=fun _ _=>False
 ct:St->Hp->Prop:=fun _ _=>False
abbrev TS:=Ends->St->Hp->Prop
def EP(X:Cx)(pins:List (ζ×aH))(σ:St)(Q:VK)(u:ε)(s':θ):Prop:=∃v H',Inv X pins σ H' s'/\RelV v u/\Q v H'
def TP(X:Cx)(pins:List (ζ×aH))(σ:St)(Q:Bool->Hp->Prop)(b:Bool)(s':θ):Prop:=∃H',Inv X pins σ H' s'/\Q b H'
def AP(X:Cx)(pins:List (ζ×aH))(σ:St)(Q:List V->Hp->Prop)(us:List ε)(s':θ):Prop:=∃vs H',Inv X pins σ H' s'/\bh vs us/\Q vs H'
def SP(X:Cx)(pins:List (ζ×aH))(D:Ends)(f:Flow)(s':θ):Prop:=
 match f with
 |.next=>∃σ' H',Inv X pins σ' H' s'/\D.nx σ' H'
 |.brk=>∃σ' H',Inv X pins σ' H' s'/\D.bk σ' H'
 |.cont=>∃σ' H',Inv X pins σ' H' s'/\D.ct σ' H'
 |.ret u=>∃v σ' H',Inv X pins σ' H' s'/\RelV v u/\D.rt v H'
def PE(X:Cx)(e:υ)(t:TE):Prop:=
 ∀(pins:List (ζ×aH)) (s:θ) (σ:St) (H:Hp) (Q:VK),Inv X pins σ H s->t σ H Q->ρ (model X.prog X.w) X.A (eval e X.env) (EP X pins σ Q) X.xe s
def PT(X:Cx)(e:υ)(t:TT):Prop:=
 ∀(pins:List (ζ×aH)) (s:θ) (σ:St) (H:Hp) (Q:Bool->Hp->Prop),Inv X pins σ H s->t σ H Q->ρ (model X.prog X.w) X.A (isTrue e X.env (eval e X.env)) (TP X pins σ Q) X.xe s
def PW(X:Cx)(e:υ)(t:TT):Prop:=
 ∀(whole:j7 ε) (pins:List (ζ×aH)) (s:θ) (σ:St) (H:Hp) (Q:Bool->Hp->Prop),Inv X pins σ H s->t σ H Q->ρ (model X.prog X.w) X.A (isTrue e X.env whole) (TP X pins σ Q) X.xe s
theorem PW.pt{X:Cx}{e:υ}{t:TT}(h:PW X e t):PT X e t:=h _
def PA(X:Cx)(es:List υ)(t:TA):Prop:=
 ∀(pos:aN) (pins:List (ζ×aH)) (s:θ) (σ:St) (H:Hp) (Q:List V->Hp->Prop),Inv X pins σ H s->t σ H Q->ρ (model X.prog X.w) X.A (spliced (backTo pos (bI es X.env))) (AP X pins σ Q) X.xe s
def PS(X:Cx)(st:aM)(t:TS):Prop:=
 ∀(pins:List (ζ×aH)) (s:θ) (σ:St) (H:Hp) (D:Ends),Inv X pins σ H s->t D σ H->ρ (model X.prog X.w) X.A (exec st X.env) (SP X pins D) X.xe s
def nZ(X:Cx)(st:List aM)(t:TS):Prop:=
 ∀(pins:List (ζ×aH)) (s:θ) (σ:St) (H:Hp) (D:Ends),Inv X pins σ H s->t D σ H->ρ (model X.prog X.w) X.A (execs st X.env) (SP X pins D) X.xe s
theorem bO{α:Type}{t:j7 α}{Q Q':α->θ->Prop}{M:Model}{A:aJ}{E:ε->θ->Prop}{s:θ}(h:ρ M A t Q E s)(hQ:∀a s,Q a s->Q' a s):ρ M A t Q' E s:=cS h hQ fun _ _ x=>x
end L2
namespace L2
open PySem PySem.Spec PyProof.Rows
section
variable {X:Cx}
theorem bin{a b:υ}{ta tb:TE}(ha:PE X a ta)(hb:PE X b tb){pins:List (ζ×aH)}{s:θ}{σ:St}{H:Hp}{R:V->V->Hp->Prop}(I:Inv X pins σ H s)(h:ta σ H fun x H1=>tb σ H1 fun y H2=>R x y H2)
  {α:Type} {Q:α->θ->Prop} {f:ε->ε->j7 α}
  (hf:∀v u s2 x y H2,Inv X pins σ H2 s2->RelV x v->RelV y u->R x y H2->ρ (model X.prog X.w) X.A (f v u) Q X.xe s2):
  ρ (model X.prog X.w) X.A (eval a X.env) (fun v s₁=>ρ (model X.prog X.w) X.A (eval b X.env) (fun u s₂=>ρ (model X.prog X.w) X.A (f v u) Q X.xe s₂) X.xe s₁) X.xe s:=by
 refine bO (ha pins s σ H _ I h) fun v s1 ⟨x,H1,I1,r1,q1⟩=>?_;refine bO (hb pins s1 σ H1 _ I1 q1) fun u s2 ⟨y,H2,I2,r2,q2⟩=>?_;exact hf v u s2 x y H2 I2 r1 r2 q2
def Av(i:Nat):TE:=fun σ H Q=>∃v,σ[i]?=some (some v)/\Q v H
def tC(v:V):TE:=fun _ H Q=>Q v H
theorem Xq{i:Nat}{x:ν}{pos:aN}(hN:X.N[i]?=some x)(hv:Ap X.env.scope x)(hd:(x==("__debug__":ν))=false:=by decide)(g7:(x==("__classdict__":ν))=false:=by decide):PE X (.Name x pos) (Av i):=by
 intro pins s σ H Q I h;obtain⟨v,e,h⟩:=h;obtain⟨m,hn,hl⟩:=I.loc;obtain⟨u,r,l⟩:=hl i x v hN e hv;have fin:EP X pins σ Q u s:=⟨v,H,I,r,h⟩;rcases l with⟨hk,hm⟩|⟨hk,c,hc,hcell⟩
 ·exact i9 (gD I.ok.kind hk hn hm fin) hd
 ·rcases hk with hk|hk
  ·exact i9 (mY I.ok.kind hk hc hcell fin) hd
  ·exact i9 (wpAny_loadName_free I.ok.kind hk hc hcell fin g7) hd
theorem Xp{i j pos}:PE X (.Constant (.int i) j pos) (tC (.int i)):=fun _ _ _ H _ I h=>wpAny_Constant_int ⟨.int i,H,I.tok _,⟨_,rfl⟩,h⟩
theorem Xo{b j pos}:PE X (.Constant (.bool b) j pos) (tC (.bl b)):=fun _ _ _ H _ I h=>Constant_bool ⟨.bl b,H,I,rfl,h⟩
theorem Xn{j pos}:PE X (.Constant .none j pos) (tC .aB):=fun _ _ _ H _ I h=>Constant_none ⟨.aB,H,I,rfl,h⟩
theorem Xm{x j pos}:PE X (.Constant (.str x) j pos) (tC (.str x)):=fun _ _ _ H _ I h=>Calls.Constant_str ⟨.str x,H,I.tok _,⟨_,rfl⟩,h⟩
def Gl(X:Cx)(x:ν):Prop:=X.env.kindOf x=some .globalImplicit
theorem wt{E:ε->θ->Prop}{pins:List (ζ×aH)}{s:θ}{σ:St}{H:Hp}{x:ν}{u:ε}{pos:aN}{Q:ε->θ->Prop}(I:Inv X pins σ H s)(hg:Gl X x)(hm:X.mg x=some u)(h:Q u s)
  (hd:(x==("__debug__":ν))=false:=by decide):ρ (model X.prog X.w) X.A (eval (.Name x pos) X.env) Q E s:=
 oR I.ok.kind hg (Calls.loadGlobal_global (by rw[I.ok.glob];exact I.mod.glob.keeps I.bk) hm h) hd
theorem xJ{E:ε->θ->Prop}{pins:List (ζ×aH)}{s:θ}{σ:St}{H:Hp}{x:ν}{u:ε}{pos:aN}{Q:ε->θ->Prop}(I:Inv X pins σ H s)(hg:Gl X x)(hm:X.mg x=none)(hv:gS x=some u)(h:Q u s)
  (hn:x≠"__name__":=by decide) (hd:(x==("__debug__":ν))=false:=by decide):ρ (model X.prog X.w) X.A (eval (.Name x pos) X.env) Q E s:=by
 obtain⟨mb,h1,h2⟩:=I.mod.blt;exact oR I.ok.kind hg (Calls.loadGlobal_builtin (by rw[I.ok.glob];exact I.mod.glob.keeps I.bk) hm (by rw[I.ok.blt];exact h1.keeps I.bk) ((h2 x hn).trans hv) h) hd
theorem Fk{x:ν}{v:V}{u:ε}{pos:aN}(hg:Gl X x)(hm:X.mg x=some u)(r:RelV v u)(hd:(x==("__debug__":ν))=false:=by decide):PE X (.Name x pos) (tC v):=
 fun _ _ _ H _ I h=>wt I hg hm ⟨v,H,I,r,h⟩ hd
theorem Mi{x:ν}{v:V}{u:ε}{pos:aN}(hg:Gl X x)(hm:X.mg x=none)(hv:gS x=some u)(r:RelV v u)(hn:x≠"__name__":=by decide)(hd:(x==("__debug__":ν))=false:=by decide):PE X (.Name x pos) (tC v):=
 fun _ _ _ H _ I h=>xJ I hg hm hv ⟨v,H,I,r,h⟩ hn hd
variable {a b:υ} {ta tb:TE} {pos:aN}
variable {tA tB':TT} {rest:List υ}
def ON(t u:TT):TT:=fun σ H Q=>t σ H fun c H1=>if c=true then u σ H1 Q else Q false H1
def tOr(t u:TT):TT:=fun σ H Q=>t σ H fun c H1=>if c=true then Q true H1 else u σ H1 Q
def OI(t:TT):TT:=fun σ H Q=>t σ H fun c H1=>Q (!c) H1
theorem pw_and1(ha:PT X a tA):PW X (.BoolOp .And [a] pos) tA:=by
 intro wh pins s σ H Q I h;refine isTrue_and (bO (ha pins s σ H Q I h) fun c s1 e=>?_);cases c with
 |true=>exact isTrue_and_nil e
 |false=>exact e
theorem pw_or1(ha:PT X a tA):PW X (.BoolOp .Or [a] pos) tA:=by
 intro wh pins s σ H Q I h;refine isTrue_or (bO (ha pins s σ H Q I h) fun c s1 e=>?_);cases c with
 |false=>exact isTrue_or_nil e
 |true=>exact e
theorem pw_and(ha:PT X a tA)(hb:PW X (.BoolOp .And (b::rest) pos) tB'):PW X (.BoolOp .And (a::b::rest) pos) (ON tA tB'):=by
 intro wh pins s σ H Q I h;refine isTrue_and (bO (ha pins s σ H _ I h) fun c s1 ⟨H1,I1,q1⟩=>?_);cases c with
 |true=>exact hb wh pins s1 σ H1 Q I1 q1
 |false=>exact⟨H1,I1,q1⟩
theorem pw_or(ha:PT X a tA)(hb:PW X (.BoolOp .Or (b::rest) pos) tB'):PW X (.BoolOp .Or (a::b::rest) pos) (tOr tA tB'):=by
 intro wh pins s σ H Q I h;refine isTrue_or (bO (ha pins s σ H _ I h) fun c s1 ⟨H1,I1,q1⟩=>?_);cases c with
 |true=>exact⟨H1,I1,q1⟩
 |false=>exact hb wh pins s1 σ H1 Q I1 q1
theorem Xl(ha:PT X a tA):PT X (.UnaryOp .Not a pos) (OI tA):=by
 intro pins s σ H Q I h;exact isTrue_not (ha pins s σ H (fun c H1=>Q (!c) H1) I h)
def Np(ta tb:TE):TE:=fun σ H Q=>ta σ H fun x H1=>∃c,x=.bl c/\if c=true then tb σ H1 Q else Q (.bl false) H1
def Nl(ta:TE):TE:=fun σ H Q=>ta σ H fun x H1=>∃c,x=.bl c/\Q (.bl (!c)) H1
theorem Xk{op}{t:TE}(h:PE X a t):PE X (.BoolOp op [a] pos) t:=fun pins s σ H Q I hw=>BoolOp_one (h pins s σ H Q I hw)
theorem Xj(ha:PE X a ta)(hb:PE X (.BoolOp .And (b::rest) pos) tb):PE X (.BoolOp .And (a::b::rest) pos) (Np ta tb):=by
 intro pins s σ H Q I h;refine BoolOp_and (bO (ha pins s σ H _ I h) fun v s1 ⟨x,H1,I1,r1,q1⟩=>?_);obtain⟨c,rfl,q1⟩:=q1;cases r1;refine kR ?_;cases c with
 |true=>exact hb pins s1 σ H1 Q I1 q1
 |false=>exact⟨.bl false,H1,I1,rfl,q1⟩
theorem Xi(ha:PE X a ta):PE X (.UnaryOp .Not a pos) (Nl ta):=by
 intro pins s σ H Q I h;refine UnaryOp_ (bO (ha pins s σ H _ I h) fun v s1 ⟨x,H1,I1,r1,q1⟩=>?_);obtain⟨c,rfl,q1⟩:=q1;cases r1;exact not_of (kR ⟨.bl (!c),H1,I1,rfl,q1⟩)
end
end L2
namespace L2
open PySem PySem.Spec PyProof.Rows
def fg(K:η)(H:Hp)(a:ζ)(xs:List V):Prop:=
 Rd H a (.lst xs) ∨
  ∃(o:aH) (its:Array ε) (n:Nat),K.lookup a=some o/\o.cls=.type "list"/\o.dict=none/\o.data=.seq its n/\its.size≤aw/\bh xs its.toList
def cL(K:η)(H:Hp)(a:ζ)(xs:List V):Prop:=
 Rd H a (.tup xs) ∨
  ∃(o:aH) (its:Array ε) (n:Nat),K.lookup a=some o/\o.cls=.type "tuple"/\o.dict=none/\o.data=.seq its n/\its.size≤aw/\bh xs its.toList
def aa6:ε->Option V
 |.none=>some .aB
 |.bool b=>some (.bl b)
 |.int i _=>some (.int i)
 |.str x _=>some (.str x)
 |.bytes b _=>some (.Dv b)
 |.float b _=>some (.MT b)
 |.ref a=>some (.ref a)
 |.type n=>some (.ty n)
 |_=>none
theorem RelV.abs{x:V}{u:ε}(r:RelV x u):aa6 u=some x:=by
 cases x with
 |aB=>cases r;rfl
 |bl _=>cases r;rfl
 |int _=>obtain⟨t,rfl⟩:=r;rfl
 |str _=>obtain⟨t,rfl⟩:=r;rfl
 |Dv _=>obtain⟨t,rfl⟩:=r;rfl
 |MT _=>obtain⟨t,rfl⟩:=r;rfl
 |ref _=>cases r;rfl
 |ty _=>cases r;rfl
theorem RelV.inj{x y:V}{u:ε}(r:RelV x u)(q:RelV y u):x=y:=aO (r.abs.symm.trans q.abs)
theorem bh.inj:∀{xs ys:List V} {us:List ε},bh xs us->bh ys us->xs=ys
 |_,_,_,.nil,.nil=>rfl
 |_,_,_,.cons r t,.cons r' t'=>by rw[r.inj r',bh.inj t t']
section
variable {X:Cx} {pins:List (ζ×aH)} {σ:St} {H:Hp} {s:θ} {a:ζ} {xs ys:List V}
theorem fg.of{K:η}(h:H a=some (.lst xs)):fg K H a xs:=.inl (.inl h)
theorem cL.of{K:η}(h:H a=some (.tup xs)):cL K H a xs:=.inl (.inl h)
theorem Inv.list(I:Inv X pins σ H s)(h:fg X.K H a xs):∃its:List ε,bh xs its/\PlainL s.heap a its.toArray/\xs.length≤aw:=by
 rcases h with h|⟨o,its,n,hk,hc,hd,hs,hz,r⟩
 ·obtain⟨z,its,n,r,e⟩:=h.ok I.bJ;exact⟨its,r,⟨_,n,e,rfl,rfl,rfl⟩,z⟩
 ·refine⟨its.toList,r,⟨o,n,I.hZ a o hk,hc,hd,by simpa using hs⟩,?_⟩;have e:=r.length;simp only[fI] at e;lia
theorem Inv.tuple(I:Inv X pins σ H s)(h:cL X.K H a xs):∃its:List ε,bh xs its/\pP s.heap a its.toArray/\xs.length≤aw:=by
 rcases h with h|⟨o,its,n,hk,hc,_,hs,hz,r⟩
 ·obtain⟨z,its,r,p⟩:=h.ok I.bJ;exact⟨its,r,p.tup,z⟩
 ·refine⟨its.toList,r,⟨o,I.hZ a o hk,hc,n,by simpa using hs⟩,?_⟩;have e:=r.length;simp only[fI] at e;lia
theorem Inv.zG(I:Inv X pins σ H s)(h:fg X.K H a xs)(h':fg X.K H a ys):xs=ys:=by
 obtain⟨its,r,⟨o,n,e,_,_,d⟩,_⟩:=I.list h;obtain⟨its',r',⟨o',n',e',_,_,d'⟩,_⟩:=I.list h';rw[e] at e';cases e';rw[d] at d';injection d' with d1 _
 have:its=its':=by simpa using congrArg qF d1
 subst this;exact r.inj r'
theorem Inv.yf(I:Inv X pins σ H s)(h:cL X.K H a xs)(h':cL X.K H a ys):xs=ys:=by
 obtain⟨its,r,⟨o,e,_,n,d⟩,_⟩:=I.tuple h;obtain⟨its',r',⟨o',e',_,n',d'⟩,_⟩:=I.tuple h';rw[e] at e';cases e';rw[d] at d';injection d' with d1 _
 have:its=its':=by simpa using congrArg qF d1
 subst this;exact r.inj r'
end
abbrev Cx.pW(X:Cx)(E:ε->θ->Prop):Cx:={ X with xe:=E }
abbrev Cx.mX(X:Cx):Cx:=X.pW fun _ _=>False
theorem Cx.Ok.pW{X:Cx}(ok:X.Ok)(E:ε->θ->Prop):(X.pW E).Ok:=
 ⟨ok.mod,ok.kind,ok.glob,ok.blt,ok.above,ok.inj,ok.has,ok.Am,ok.hd,ok.frames,ok.C4,ok.Dr,ok.bs,ok.uM,ok.wu,ok.xZ,ok.ml,ok.yh⟩
theorem Cx.Ok.kW{X:Cx}{E:ε->θ->Prop}(ok:(X.pW E).Ok):X.Ok:=
 ⟨ok.mod,ok.kind,ok.glob,ok.blt,ok.above,ok.inj,ok.has,ok.Am,ok.hd,ok.frames,ok.C4,ok.Dr,ok.bs,ok.uM,ok.wu,ok.xZ,ok.ml,ok.yh⟩
section
variable {X:Cx} {pins:List (ζ×aH)} {σ:St} {H:Hp} {s:θ} {E:ε->θ->Prop}
theorem Inv.pW(I:Inv X pins σ H s)(E:ε->θ->Prop):Inv (X.pW E) pins σ H s:=⟨I.ok.pW E,I.os,I.bare,I.base,I.loc,I.cell,I.free,I.ko,I.pin,I.bJ,I.len⟩
theorem Inv.kW(I:Inv (X.pW E) pins σ H s):Inv X pins σ H s:=⟨I.ok.kW,I.os,I.bare,I.base,I.loc,I.cell,I.free,I.ko,I.pin,I.bJ,I.len⟩
theorem SP.kW{D:Ends}{f:Flow}{s':θ}(h:SP (X.pW E) pins D f s'):SP X pins D f s':=by
 cases f with
 |next=>obtain⟨σ',H',I,q⟩:=h;exact⟨σ',H',I.kW,q⟩
 |brk=>obtain⟨σ',H',I,q⟩:=h;exact⟨σ',H',I.kW,q⟩
 |cont=>obtain⟨σ',H',I,q⟩:=h;exact⟨σ',H',I.kW,q⟩
 |ret u=>obtain⟨v,σ',H',I,r,q⟩:=h;exact⟨v,σ',H',I.kW,r,q⟩
theorem nZ.mX{st:List aM}{t:TS}(h:nZ X.mX st t):nZ X st t:=fun pins s σ H D I hw=>
 cS (h pins s σ H D (I.pW _) hw) (fun _ _ q=>q.kW) fun _ _ z=>cI z
end
section
variable {X:Cx} {st:aM} {rest:List aM} {t u:TS} {e:υ} {te:TE} {pos:aN}
def Nm:TS:=fun D σ H=>D.nx σ H
def OG(t u:TS):TS:=fun D σ H=>t { D with nx:=u D } σ H
theorem Xh:nZ X [] Nm:=fun _ _ σ H _ I h=>gi ⟨σ,H,I,h⟩
theorem Xg(h1:PS X st t)(h2:nZ X rest u):nZ X (st::rest) (OG t u):=by
 intro pins s σ H D I h;refine i7 (bO (h1 pins s σ H { D with nx:=u D } I h) fun f s1 q=>?_);cases f with
 |next=>
  obtain⟨σ',H',I',q⟩:=q;exact h2 pins s1 σ' H' D I' q
 |ret v=>exact q
 |brk=>exact q
 |cont=>exact q
theorem Xf(h1:PS X st t):nZ X [st] t:=by
 intro pins s σ H D I h;refine i7 (bO (h1 pins s σ H D I h) fun f s1 q=>?_);cases f with
 |next=>exact gi q
 |ret v=>exact q
 |brk=>exact q
 |cont=>exact q
theorem Inv.quiet{pins:List (ζ×aH)}{σ:St}{H:Hp}{s:θ}(I:Inv X pins σ H s):interactive X.env=false:=by simp[interactive,I.ok.kind]
def Nn(te:TE):TS:=fun D σ H=>te σ H fun _ H1=>D.nx σ H1
theorem XI(he:PE X e te)(hs:swapsWith e none pos.line X.env=pure false:=by rfl):PS X (.Expr e pos) (Nn te):=by
 intro pins s σ H D I h;exact wpAny_Expr_any (bO (he pins s σ H _ I h) fun v s1 ⟨x,H1,I1,r1,q1⟩=>⟨σ,H1,I1,q1⟩) I.quiet hs
def OH(te:TE):TS:=fun D σ H=>te σ H D.rt
theorem XH(he:PE X e te):PS X (.Return (some e) pos) (OH te):=by
 intro pins s σ H D I h;exact wpAny_Return_some (bO (he pins s σ H _ I h) fun v s1 ⟨x,H1,I1,r1,q1⟩=>⟨x,σ,H1,I1,r1,q1⟩)
def OK(c:TT)(t u:TS):TS:=fun D σ H=>c σ H fun b H1=>if b=true then t D σ H1 else u D σ H1
theorem XG{c:υ}{a b:List aM}{tc:TT}(hc:PT X c tc)(ha:nZ X a t)(hb:nZ X b u):PS X (.If c a b pos) (OK tc t u):=by
 intro pins s σ H D I h;refine wpAny_If (bO (hc pins s σ H _ I h) fun d s1 ⟨H1,I1,q1⟩=>?_);cases d with
 |true=>exact ha pins s1 σ H1 D I1 q1
 |false=>exact hb pins s1 σ H1 D I1 q1
end
abbrev TG:=V->St->Hp->(St->Hp->Prop)->Prop
abbrev xb:=List V->St->Hp->(St->Hp->Prop)->Prop
def PG(X:Cx)(target:υ)(t:TG):Prop:=
 ∀(pins:List (ζ×aH)) (s:θ) (σ:St) (H:Hp) (v:V) (u:ε) (Q:St->Hp->Prop),Inv X pins σ H s->RelV v u->t v σ H Q ->
  ρ (model X.prog X.w) X.A (assign target X.env u) (fun _ s'=>∃σ' H',Inv X pins σ' H' s'/\Q σ' H') X.xe s
def zR(X:Cx)(ts:List υ)(t:xb):Prop:=
 ∀(pins:List (ζ×aH)) (s:θ) (σ:St) (H:Hp) (vs:List V) (us:List ε) (Q:St->Hp->Prop),Inv X pins σ H s->bh vs us->t vs σ H Q ->
  ρ (model X.prog X.w) X.A (assignInOrder ((assignEach ts X.env).map (·.2)) us) (fun _ s'=>∃σ' H',Inv X pins σ' H' s'/\Q σ' H') X.xe s
abbrev Gc:=V->V->V->Hp->(Hp->Prop)->Prop
def M4(X:Cx)(t:Gc):Prop:=
 ∀(pins:List (ζ×aH)) (s:θ) (σ:St) (H:Hp) (o i v:V) (ov iv u:ε) (Q:Hp->Prop),Inv X pins σ H s->RelV o ov->RelV i iv->RelV v u->t o i v H Q ->
  ρ (model X.prog X.w) X.A (setItem ov iv u) (fun _ s'=>∃H',Inv X pins σ H' s'/\Q H') X.xe s
abbrev Aq:=V->V->Hp->VK->Prop
def Hg(X:Cx)(op:nE)(t:Aq):Prop:=
 ∀(pins:List (ζ×aH)) (s:θ) (σ:St) (H:Hp) (x y:V) (v u:ε) (Q:VK),Inv X pins σ H s->RelV x v->RelV y u->t x y H Q ->
  ρ (model X.prog X.w) X.A (inplaceOp op v u) (EP X pins σ Q) X.xe s
section
variable {X:Cx} {pos:aN}
def BH(i:Nat):TG:=fun v σ H Q=>Q (σ.set i (some v)) H
theorem XF{i:Nat}{x:ν}(hN:X.N.Nodup)(hi:X.N[i]?=some x)(hx:Loc X.env.scope x)(hf:X.fn x=true∨X.env.scope.names.lookup x=some .local:=by first|exact .inl rfl|exact .inr rfl|assumption):PG X (.Name x pos) (BH i):=by
 intro pins s σ H v u Q I r h;exact wpAny_assign_Name (zp I hN hi hx r (fun s' I'=>⟨_,H,I',h⟩) hf)
def aaT:xb:=fun vs σ H Q=>vs=[]/\Q σ H
def NS(t:TG)(u:xb):xb:=fun vs σ H Q=>∃v r,vs=v::r/\t v σ H fun σ' H'=>u r σ' H' Q
theorem XD:zR X [] aaT:=by
 intro pins s σ H vs us Q I r h;obtain⟨e,h⟩:=h;subst e;cases r;exact assignInOrder_nil ⟨σ,H,I,h⟩
theorem XC{e:υ}{es:List υ}{t:TG}{u:xb}(h1:PG X e t)(h2:zR X es u)
  (hs:(assignEach (e::es) X.env).map (·.2)=assign e X.env::(assignEach es X.env).map (·.2):=by rfl):zR X (e::es) (NS t u):=by
 intro pins s σ H vs us Q I r h;obtain⟨v,vr,e1,h⟩:=h;subst e1;cases r with
 |cons r rr=>
  rw[hs];refine og (bO (h1 pins s σ H _ _ _ I r h) fun _ s1 ⟨σ1,H1,I1,q1⟩=>?_);exact h2 pins s1 σ1 H1 _ _ Q I1 rr q1
def aaR(K:η)(n:Nat)(t:xb):TG:=fun v σ H Q=>∃a xs,v=.ref a/\cL K H a xs/\xs.length=n/\t xs σ H Q
theorem XB{es:List υ}{k:Nat}{t:xb}{n:Nat}(hc:X.calm=true)(h:zR X es t)
  (hn:(assignEach es X.env).length=n:=by rfl) (hst:(assignEach es X.env).findIdx? (·.1)=none:=by rfl):PG X (.Tuple es k pos) (aaR X.K n t):=by
 intro pins s σ H v u Q I r hw;obtain⟨a,xs,e1,hq,hl,hw⟩:=hw;subst e1;cases r;obtain⟨its,rv,ht,hz⟩:=I.tuple hq;refine assign_Tuple_tuple (I.ok.hd hc) ht (by simp[hn,←hl,rv.length]) hst fun h' hx=>?_;have I1:Inv X pins σ H { s with heap:=h' }:=I.kept (t':=s.toks) fun b o e=>hx b o (bf (Θ e)) e
 exact h pins _ σ H xs _ Q I1 (by simpa using rv) hw
def aaS(to ti:TE)(t:Gc):TG:=fun v σ H Q=>to σ H fun o H1=>ti σ H1 fun i H2=>t o i v H2 fun H3=>Q σ H3
theorem XA{o i:υ}{to ti:TE}{t:Gc}(ho:PE X o to)(hi:PE X i ti)(hs:M4 X t)
  (ha:∀v,assign (.Subscript o i pos) X.env v=(do
   let ov ←holding [v] (eval o X.env)
   let iv ←holding [v,ov] (eval i X.env)
   standAt pos
   holding [v,ov,iv] (setItem ov iv v)
   release [v,ov,iv] []):=by intro _;rfl):PG X (.Subscript o i pos) (aaS to ti t):=by
 intro pins s σ H v u Q I r h
 rw[ha]
 refine δ (bK (bO (ho pins s σ H _ I h) fun ov s1 ⟨x,H1,I1,r1,q1⟩=>?_))
 refine δ (bK (bO (hi pins s1 σ H1 _ I1 q1) fun iv s2 ⟨y,H2,I2,r2,q2⟩=>?_))
 refine δ (hU (δ (bK (bO (hs pins s2 σ H2 x y v ov iv u _ I2 r1 r2 r q2) fun _ s3 ⟨H3,I3,q3⟩=>?_))))
 exact wpAny_release ⟨σ,H3,I3,q3⟩
def DC(te:TE)(g:TG):TS:=fun D σ H=>te σ H fun x H1=>g x σ H1 D.nx
theorem Xz{tg e:υ}{te:TE}{g:TG}(he:PE X e te)(hg:PG X tg g)(hs:swapsWithSole [tg] e pos.line X.env=pure false:=by rfl)(hw:swappedStores [tg] e X.env=pure none:=by rfl)
  (h1:(assignEach [tg] X.env).map (·.2)=[assign tg X.env]:=by rfl):PS X (.Assign [tg] e pos) (DC te g):=by
 intro pins s σ H D I h;refine wpAny_Assign_stores (bO (he pins s σ H _ I h) fun v s1 ⟨x,H1,I1,r1,q1⟩=>?_) hs hw;rw[h1];exact bO (hg pins s1 σ H1 x v _ I1 r1 q1) fun _ s2 q=>q
theorem Xy{i:Nat}{x:ν}{e:υ}{te:TE}{pos':aN}(hN:X.N.Nodup)(hi:X.N[i]?=some x)(hx:Loc X.env.scope x)(he:PE X e te)(hs:swapsWith e (some (.Name x pos')) pos.line X.env=pure false:=by rfl)(hf:X.fn x=true∨X.env.scope.names.lookup x=some .local:=by first|exact .inl rfl|exact .inr rfl|assumption):
  PS X (.Assign [.Name x pos'] e pos) (DC te (BH i)):=by
 intro pins s σ H D I h;refine wpAny_Assign_Name (bO (he pins s σ H _ I h) fun v s1 ⟨y,H1,I1,r1,q1⟩=>?_) hs;exact zp I1 hN hi hx r1 (fun s2 I2=>⟨_,H1,I2,q1⟩) hf
def HX(i j:Nat)(ta:TA):TS:=fun D σ H=>ta σ H fun vs H1=>∃v w,vs=[v,w]/\D.nx ((σ.set i (some v)).set j (some w)) H1
theorem W4{i j:Nat}{x y:ν}{a b:υ}{ta:TA}{px py pt:aN}{kt k2 pt2}(hc:X.calm=true)(hN:X.N.Nodup)(hi:X.N[i]?=some x)(hj:X.N[j]?=some y)(hij:i≠j)
  (hx:X.env.scope.names.lookup x=some .local) (hy:X.env.scope.names.lookup y=some .local) (ha:PA X [a,b] ta)
  (hw:swappedStores [.Tuple [.Name x px,.Name y py] kt pt] (.Tuple [a,b] k2 pt2) X.env=pure (some [x,y]))
  (hs:swapsWithSole [.Tuple [.Name x px,.Name y py] kt pt] (.Tuple [a,b] k2 pt2) pos.line X.env=pure false:=by rfl):
  PS X (.Assign [.Tuple [.Name x px,.Name y py] kt pt] (.Tuple [a,b] k2 pt2) pos) (HX i j ta):=by
 intro pins s σ H D I h;rw[exec_Assign_arm];refine δ (hU ?_);rw[hs];refine δ (μ ?_);rw[if_neg (by decide)];refine δ (Tuple_ (bO (ha _ pins s σ H _ I h) fun us s1 ⟨vs,H1,I1,r1,q1⟩=>?_));obtain⟨v,w,e1,q1⟩:=q1;subst e1;obtain⟨u1,u2,rfl,rv,rw'⟩:∃u1 u2,us=[u1,u2]/\RelV v u1/\RelV w u2:=by
  cases r1 with
  |cons p q=>
   cases q with
   |cons p' q'=>
    cases q';exact⟨_,_,rfl,p,p'⟩
 refine bz ?_ (by show 2≤aw;decide);have I2:Inv X pins σ H1 { s1 with heap:=s1.heap.push { cls:=.type "tuple",data:=.seq [u1,u2].toArray }}:=I1.kept (t':=s1.toks) fun b o e=>ι _ e;rw[hw];refine δ (μ ?_);show ρ (model X.prog X.w) X.A (do rule "assign.swapped-stores";let items ←unpackItems (.ref s1.heap.objs.size) 2 none;assignInOrder [fun v=>bindName X.env y v,fun v=>bindName X.env x v] items.reverse;pure Flow.next) _ _ _
 refine δ (mB (δ (unpackItems_tuple (items:=#[u1,u2]) (I.ok.hd hc) (pP.new s1.heap _) fun h' hx'=>?_)));have I3:=I2.kept (h':=h') (t':=s1.toks) fun b o e=>hx' b o (bf (Θ e)) e;show ρ _ _ (assignInOrder [fun v=>bindName X.env y v,fun v=>bindName X.env x v] [u2,u1] >>= fun _=>pure Flow.next) _ _ _
 refine δ (og (wpAny_bindName (zp I3 hN hj (.inl hy) rw' (fun s2 I4=>?_) (.inr hy))));refine og (wpAny_bindName (zp I4 hN hi (.inl hx) rv (fun s3 I5=>assignInOrder_nil (μ ?_)) (.inr hx)));rw[List.set_comm _ _ (dy hij)] at I5;exact⟨_,H1,I5,q1⟩
def OM(i:Nat)(te:TE)(ti:Aq):TS:=fun D σ H=>∃x,σ[i]?=some (some x)/\te σ H fun y H1=>ti x y H1 fun z H2=>D.nx (σ.set i (some z)) H2
theorem W3{i:Nat}{x:ν}{e:υ}{te:TE}{op:nE}{ti:Aq}{pos':aN}(hN:X.N.Nodup)(hi:X.N[i]?=some x)(hx:Loc X.env.scope x)(he:PE X e te)(ho:Hg X op ti)(hf:X.fn x=true∨X.env.scope.names.lookup x=some .local:=by first|exact .inl rfl|exact .inr rfl|assumption):
  PS X (.AugAssign (.Name x pos') op e pos) (OM i te ti):=by
 intro pins s σ H D I h;obtain⟨v,e1,h⟩:=h;obtain⟨m,hn,hl⟩:=I.loc;have kU:Ap X.env.scope x:=by rcases hx with k|k;exact .inl k;exact .inr (.inl k)
 obtain⟨u,r,l⟩:=hl i x v hi e1 kU;refine wpAny_AugAssign_Name ?_;have go:ρ (model X.prog X.w) X.A (eval e X.env) (fun w s₂=>ρ (model X.prog X.w) X.A (inplaceOp op u w) (fun r s₃=>ρ (model X.prog X.w) X.A (storeName X.env x r) (fun _=>SP X pins D .next) X.xe s₃) X.xe s₂) X.xe s:=by
  refine bO (he pins s σ H _ I h) fun w s1 ⟨y,H1,I1,r1,q1⟩=>?_;refine bO (ho pins s1 σ H1 v y u w _ I1 r r1 q1) fun z s2 ⟨zv,H2,I2,r2,q2⟩=>?_;exact zp I2 hN hi hx r2 (fun s3 I3=>⟨_,H2,I3,q2⟩) hf
 rcases l with⟨hk,hm⟩|⟨hk,c,hc,hcell⟩
 ·exact gD I.ok.kind hk hn hm go
 ·rcases hk with hk|hk
  ·exact mY I.ok.kind hk hc hcell go
  ·rcases hx with k|k
   ·have:X.env.scope.names.lookup x=some .free:=hk;rw[k] at this;cases this
   ·have:X.env.scope.names.lookup x=some .free:=hk;rw[k] at this;cases this
def Om(f:Int->Int->Int):Aq:=fun x y H Q=>∃i j,x=.int i/\y=.int j/\Q (.int (f i j)) H
theorem W2:Hg X .Add (Om fun i j=>i+j):=by
 intro pins s σ H x y v u Q I r1 r2 h;obtain⟨i,j,e1,e2,q⟩:=h;subst e1;subst e2;obtain⟨t,rfl⟩:=r1;obtain⟨t',rfl⟩:=r2;exact iadd_int ⟨.int _,H,I.tok _,⟨_,rfl⟩,q⟩
end
section
variable {X:Cx} {pos:aN}
def HW(c:TT)(tb:TS):TS:=fun D σ H=>∃W:Nat->St->Hp->Prop,(∃m,W m σ H)/\∀m σ H,W m σ H ->
 c σ H fun b H1=>if b=true then ∃N:St->Hp->Prop,(∀σ' H',N σ' H'->∃m',m' < m/\W m' σ' H')/\tb { D with nx:=N,ct:=N,bk:=D.nx } σ H1 else D.nx σ H1
theorem W1{c:υ}{body:List aM}{tc:TT}{tb:TS}(hp:lU (model X.prog X.w) X.A X.env X.xe)(hc:PT X c tc)(hb:nZ X body tb):PS X (.While c body [] pos) (HW tc tb):=by
 intro pins s σ H D I h;obtain⟨W,⟨m0,w0⟩,turn⟩:=h;refine wpAny_While (codeAny_whileLoop (fun n s'=>∃σ' H',Inv X pins σ' H' s'/\W n σ' H') ?_ m0 ⟨σ,H,I,w0⟩);rintro n s1 ⟨σ1,H1,I1,w1⟩;refine gh hp (bO (hc pins s1 σ1 H1 _ I1 (turn n σ1 H1 w1)) fun b s2 ⟨H2,I2,q2⟩=>?_);cases b with
 |true=>
  obtain⟨N,hN,q2⟩:=q2;rw[if_pos rfl];refine gh hp (bO (hb pins s2 σ1 H2 _ I2 q2) fun f s3 q3=>?_);cases f with
  |next=>
   obtain⟨σ3,H3,I3,n3⟩:=q3;obtain⟨m',hm,w3⟩:=hN σ3 H3 n3;exact⟨m',hm,σ3,H3,I3,w3⟩
  |cont=>
   obtain⟨σ3,H3,I3,n3⟩:=q3;obtain⟨m',hm,w3⟩:=hN σ3 H3 n3;exact⟨m',hm,σ3,H3,I3,w3⟩
  |brk=>exact q3
  |ret v=>exact q3
 |false=>
  rw[if_neg ay];exact gi ⟨σ1,H2,I2,q2⟩
end
structure It where
 go:Nat->Hp->Prop
 Gj:Nat->Hp->V->Hp->Prop
 stop:Nat->Hp->Prop
def j4(X:Cx)(pins:List (ζ×aH))(H:Hp)(b:ζ):Prop:=
 H b=none/\b≠X.env.locals/\b∉X.fs/\(b∈X.ex∨X.s₀.heap.objs.size≤b)/\(∀x c,X.env.cells.lookup x=some c->c≠b)/\∀p∈X.pn++pins,p.1≠b
theorem Inv.tj{X:Cx}{pins:List (ζ×aH)}{σ:St}{H H':Hp}{s:θ}{b:ζ}(I:Inv X pins σ H s)(hb:s.heap.objs.size≤b)(hn:H' b=none):j4 X pins H' b:=by
 refine⟨hn,dS (bu I.lt hb),I.aaD hb,.inr (aD I.sz hb),fun x c e z=>?_,fun p hp z=>?_⟩
 ·obtain⟨v,q⟩:=I.cell x c e;exact absurd (bu q.lt (by rw[z];exact hb)) (cE _)
 ·exact absurd (bu (Θ (I.pin p hp).1) (by rw[z];exact hb)) (cE _)
structure Turn(P:ag)(w:av)(K:η)(tg:υ)(J:It)(fp:List ζ)(it:ζ)(tn:Nat->Ψ->Prop):Prop where
 mem:it∈fp
 obj:∀i h,tn i h->∀b∈fp,∃o,h.get? b=some o/\∀v,o.data≠.cell v
 keep:∀i h h',tn i h->(∀b∈fp,∀o,h.get? b=some o->h'.get? b=some o)->tn i h'
 item:∀(X:Cx),X.prog=P->X.w=w->X.K=K->X.calm=true->∀(i:Nat) (pins:List (ζ×aH)) (s:θ) (σ:St) (H:Hp) (E:ε->θ->Prop),Inv X pins σ H s->(∀b∈fp,j4 X pins H b)->tn i s.heap->J.go i H ->
  ρ (model P w) X.A (pyNext (.ref it)) (fun r s1=>∃u,r=some u ∧
   ρ (model P w) X.A (letOwnedTupleGo tg (.ref it) u) (fun _ s2=>∃x H',Inv X pins σ H' s2/\RelV x u/\J.Gj i H x H'/\tn (i+1) s2.heap/\∀b∈fp,H' b=none) E s1) E s
 done:∀(X:Cx),X.prog=P->X.w=w->X.K=K->X.calm=true->∀(i:Nat) (pins:List (ζ×aH)) (s:θ) (σ:St) (H:Hp) (E:ε->θ->Prop),Inv X pins σ H s->(∀b∈fp,j4 X pins H b)->tn i s.heap->J.stop i H ->
  ρ (model P w) X.A (pyNext (.ref it)) (fun r s1=>r=none/\Inv X pins σ H s1) E s
 self:∀(A:aJ) (i:Nat) (s:θ) (Q:ε->θ->Prop) (E:ε->θ->Prop),tn i s.heap->Q (.ref it) s->ρ (model P w) A (pyIter (.ref it)) Q E s
abbrev TI:=St->Hp->(It->Hp->Prop)->Prop
def Hh(X:Cx)(pins:List (ζ×aH))(σ:St)(tg:υ)(R:It->Hp->Prop)(itv:ε)(s2:θ):Prop:=
 ∃(it:ζ) (fp:List ζ) (tn:Nat->Ψ->Prop) (J:It) (H':Hp),itv=.ref it/\Inv X pins σ H' s2/\Turn X.prog X.w X.K tg J fp it tn/\tn 0 s2.heap/\(∀b∈fp,j4 X pins H' b)/\R J H'
def PI(X:Cx)(tg iter:υ)(wi:TI):Prop:=
 ∀(pins:List (ζ×aH)) (s:θ) (σ:St) (H:Hp) (R:It->Hp->Prop),Inv X pins σ H s->wi σ H R ->
  ρ (model X.prog X.w) X.A (eval iter X.env) (fun v s1=>ρ (model X.prog X.w) X.A (pyIter v) (Hh X pins σ tg R) X.xe s1) X.xe s
theorem zo{M:Model}{A:aJ}{E:ε->θ->Prop}{s:θ}{tg:υ}{it:ζ}{u:ε}{o:aH}{n:String}{vs:Array ε}{Q:Unit->θ->Prop}(ho:s.heap.get? it=some o)(hc:o.cls=.type n)(hd:o.data=.fields vs)
    (hn:["enumerate","zip","dict_itemiterator","dict_reverseitemiterator","odict_iterator","itertools.zip_longest","itertools.pairwise"].contains n=false) (hQ:Q () s):ρ M A (letOwnedTupleGo tg (.ref it) u) Q E s:=by
  unfold letOwnedTupleGo;cases tg<;>first
    |exact μ hQ
    | (cases u<;>first
        |exact μ hQ
        | (refine δ (wpAny_load ho ?_)
           rw[hc,hd];show ρ M A (if (["enumerate","zip","dict_itemiterator","dict_reverseitemiterator","odict_iterator","itertools.zip_longest","itertools.pairwise"].contains n&&vs[0]?==some (rawInt _))=true then _ else _) Q E s;rw[if_neg (by intro h;rw[hn,Bool.false_and] at h;cases h)];exact μ hQ))
def OA(K:η)(a:ζ):It:=
 ⟨fun i H=>∃xs x,fg K H a xs/\xs[i]?=some x,fun i H x H'=>H'=H/\∀xs,fg K H a xs->xs[i]?=some x,fun i H=>∃xs,fg K H a xs/\xs.length≤i⟩
def Oz(K:η)(a:ζ):It:=
 ⟨fun i H=>∃xs x,cL K H a xs/\xs[i]?=some x,fun i H x H'=>H'=H/\∀xs,cL K H a xs->xs[i]?=some x,fun i H=>∃xs,cL K H a xs/\xs.length≤i⟩
def Hi(lo:Int)(n:Nat):It:=⟨fun i _=>i<n,fun i H x H'=>H'=H/\x=.int (lo+i),fun i _=>n≤i⟩
theorem W0{P:ag}{w:av}{K:η}{tg:υ}(a it:ζ):Turn P w K tg (OA K a) [it] it (fun i h=>h.IsListIter it a i) where
 mem:=by simp
 obj:=fun i h st b hb=>by
  have e:b=it:=by simpa using hb
  subst e;obtain⟨o,e,c,d⟩:=st;exact⟨o,e,fun v z=>by rw[d] at z;cases z⟩
 keep:=fun i h h' st k=>st.at fun o e=>k it (by simp) o e
 item:=by
  intro X hP hw hK hc i pins s σ H E I hf st hg;subst hP hw hK;obtain⟨xs,x,hq,hx⟩:=hg;obtain⟨its,rv,p,hz⟩:=I.list hq;obtain⟨u,hu,ru⟩:=rv.get hx;obtain⟨f0,f1,f2,f3,f4,f5⟩:=hf it (by simp);refine wpAny_pyNext_list_item st p.isList (x:=u) (by simpa using hu) fun h' st' sb=>?_;have I1:Inv X pins σ H { s with heap:=h' }:=I.turned (t':=s.toks) (fun b o hb e=>(sb.2 b hb).trans e) f0 f1 f3 f4 f5;obtain⟨o,e,c,d⟩:=id st';exact⟨u,rfl,zo (s:={ s with heap:=h' }) e c d (by decide) ⟨x,H,I1,ru,⟨rfl,fun ys hy=>by rw[I.zG hy hq];exact hx⟩,st',fun b hb=>(hf b hb).1⟩⟩
 done:=by
  intro X hP hw hK hc i pins s σ H E I hf st hg;subst hP hw hK;obtain⟨xs,hq,hx⟩:=hg;obtain⟨its,rv,p,hz⟩:=I.list hq;obtain⟨f0,f1,f2,f3,f4,f5⟩:=hf it (by simp);have hl:=rv.length;exact wpAny_pyNext_list_end (I.ok.hd hc) st p.isList (by simp;lia) fun h' eb=>⟨rfl,I.turned (t':=s.toks) (fun b o hb e=>eb b o hb e) f0 f1 f3 f4 f5⟩
 self:=fun _ _ _ _ _ st h=>wpAny_pyIter_listiter st h
theorem WZ{P:ag}{w:av}{K:η}{tg:υ}(a it:ζ):Turn P w K tg (Oz K a) [it] it (fun i h=>h.IsTupleIter it a i) where
 mem:=by simp
 obj:=fun i h st b hb=>by
  have e:b=it:=by simpa using hb
  subst e;obtain⟨o,e,c,d⟩:=st;exact⟨o,e,fun v z=>by rw[d] at z;cases z⟩
 keep:=fun i h h' st k=>st.at fun o e=>k it (by simp) o e
 item:=by
  intro X hP hw hK hc i pins s σ H E I hf st hg;subst hP hw hK;obtain⟨xs,x,hq,hx⟩:=hg;obtain⟨its,rv,p,hz⟩:=I.tuple hq;obtain⟨u,hu,ru⟩:=rv.get hx;obtain⟨f0,f1,f2,f3,f4,f5⟩:=hf it (by simp);refine wpAny_pyNext_tuple_item st (show s.heap.IsTuple a its.toArray from p) (x:=u) (by simpa using hu) fun h' st' sb=>?_;have I1:Inv X pins σ H { s with heap:=h' }:=I.turned (t':=s.toks) (fun b o hb e=>(sb.2 b hb).trans e) f0 f1 f3 f4 f5;obtain⟨o,e,c,d⟩:=id st';exact⟨u,rfl,zo (s:={ s with heap:=h' }) e c d (by decide) ⟨x,H,I1,ru,⟨rfl,fun ys hy=>by rw[I.yf hy hq];exact hx⟩,st',fun b hb=>(hf b hb).1⟩⟩
 done:=by
  intro X hP hw hK hc i pins s σ H E I hf st hg;subst hP hw hK;obtain⟨xs,hq,hx⟩:=hg;obtain⟨its,rv,p,hz⟩:=I.tuple hq;obtain⟨f0,f1,f2,f3,f4,f5⟩:=hf it (by simp);have hl:=rv.length;exact wpAny_pyNext_tuple_end (I.ok.hd hc) st (show s.heap.IsTuple a its.toArray from p) (by simp;lia) fun h' eb=>⟨rfl,I.turned (t':=s.toks) (fun b o hb e=>eb b o hb e) f0 f1 f3 f4 f5⟩
 self:=fun _ _ _ _ _ st h=>wpAny_pyIter_tupleiter st h
theorem WY{P:ag}{w:av}{K:η}{tg:υ}(it:ζ)(lo:Int)(n:Nat):Turn P w K tg (Hi lo n) [it] it (fun i h=>rP h it (lo+(i:Nat)*1) ((n:Int)-(i:Nat)) 1) where
 mem:=by simp
 obj:=fun i h st b hb=>by
  have e:b=it:=by simpa using hb
  subst e;exact⟨_,st,fun v z=>by
   have z':nS _=lW v:=z;cases z'⟩
 keep:=fun i h h' st k=>k it (by simp) _ st
 item:=by
  intro X hP hw hK hc i pins s σ H E I hf st hg;subst hP hw hK;obtain⟨f0,f1,f2,f3,f4,f5⟩:=hf it (by simp);have W:=Walks.range (prog:=X.prog) (w:=X.w) (I.ok.hd hc) it lo 1 n;refine W.item i s _ _ hg st fun v h' tk hv st' kk=>?_;obtain⟨t,rfl⟩:=hv;have I1:Inv X pins σ H { s with heap:=h',toks:=tk }:=I.turned (fun b o hb e=>kk b o (by simpa using hb) e) f0 f1 f3 f4 f5;refine⟨_,rfl,zo (s:={ s with heap:=h',toks:=tk }) (n:="range_iterator") st' rfl rfl (by decide) ⟨.int (lo+i),H,I1,⟨t,?_⟩,⟨rfl,rfl⟩,st',fun b hb=>(hf b hb).1⟩⟩;rw[ls]
 done:=by
  intro X hP hw hK hc i pins s σ H E I hf st hg;subst hP hw hK;obtain⟨f0,f1,f2,f3,f4,f5⟩:=hf it (by simp);exact wpAny_pyNext_range_end (I.ok.hd hc) st (by have:n≤i:=hg;lia) fun h' eb=>⟨rfl,I.turned (t':=s.toks) (fun b o hb e=>eb b o hb e) f0 f1 f3 f4 f5⟩
 self:=fun _ _ _ _ _ st h=>wpAny_pyIter_rangeiter st h
end L2
namespace L2
open PySem PySem.Spec PyProof.Rows
section
variable {X:Cx} {tg:υ}
theorem WX{pins:List (ζ×aH)}{σ:St}{H:Hp}{s:θ}{R:It->Hp->Prop}{E:ε->θ->Prop}{lo hi:Int}{t u v:Tok}{tk:Nat}(I:Inv X pins σ H s)(h1:-(2^62)≤lo)(h2:lo<2^62)(h3:-(2^62)≤hi)(h4:hi<2^62)
  (q:R (Hi lo (hi-lo).toNat) H):ρ (model X.prog X.w) X.A (pyIter (.ref s.heap.objs.size)) (Hh X pins σ tg R) E { s with heap:=s.heap.push { cls:=.type "range",data:=.fields #[.int lo t,.int hi u,.int 1 v]},toks:=tk }:=by
 refine wpAny_pyIter_range (vW ..) (small_one h1 h2 h3 h4) ?_;have I1:Inv X pins σ H { s with heap:=s.heap.push { cls:=.type "range",data:=.fields #[.int lo t,.int hi u,.int 1 v]},toks:=tk }:=I.kept fun b o e=>ι _ e;refine⟨(s.heap.push { cls:=.type "range",data:=.fields #[.int lo t,.int hi u,.int 1 v]}).objs.size,[(s.heap.push { cls:=.type "range",data:=.fields #[.int lo t,.int hi u,.int 1 v]}).objs.size],_,_,H,rfl,
  I1.kept (t':=tk) fun b o e=>ι _ e,WY _ lo (hi-lo).toNat,?_,fun b hb=>?_,q⟩
 ·have e1:lo+((0:Nat):Int)*1=lo:=by simp
  have e2:(((hi-lo).toNat:Nat):Int)-((0:Nat):Int)=et lo hi 1:=by rw[rangeSize_one];split<;>lia
  show rP _ _ (lo+((0:Nat):Int)*1) ((((hi-lo).toNat:Nat):Int)-((0:Nat):Int)) 1;rw[e1,e2];exact ae _ rfl
 ·have e:b=(s.heap.push { cls:=.type "range",data:=.fields #[.int lo t,.int hi u,.int 1 v]}).objs.size:=by simpa using hb
  subst e;exact I1.tj (Φ _) (I1.bJ.fresh (Φ _))
def nJ(ta:TA):TI:=fun σ H R=>ta σ H fun vs H1=>∃j:Int,vs=[.int j]/\-(2^62)≤j/\j<2^62/\R (Hi 0 j.toNat) H1
theorem WW{a:υ}{ta:TA}{p pos:aN}(hg:Gl X "range")(hm:X.mg "range" = none)(ha:PA X [a] ta)(hs:bI [a] X.env=[(false,eval a X.env)]:=by rfl):PI X tg (.Call (.Name "range" p) [a] [] pos) (nJ ta):=by
 intro pins s σ H R I h;refine Call_ (xJ I hg hm boot_range (fW (bO (ha pos pins s σ H _ I h) fun us s1 ⟨vs,H1,I1,r1,q1⟩=>?_) hs rfl));obtain⟨j,e,q1,q2,q⟩:=q1;subst e;cases r1 with
 |cons r rr=>
  cases rr;obtain⟨t,rfl⟩:=r;exact call_range_1 (WX I1 (by lia) (by lia) q1 q2 (by simpa using q))
def OL(wi:TI)(g:TG)(tb:TS):TS:=fun D σ H=>wi σ H fun J H1=>∃W:Nat->Nat->St->Hp->Prop,(∃m,W 0 m σ H1)/\∀i m σ H,W i m σ H ->
 (J.stop i H/\D.nx σ H)∨(J.go i H/\∃N:St->Hp->Prop,(∀σ' H',N σ' H'->∃m',m' < m/\W (i+1) m' σ' H')/\∀x H',J.Gj i H x H'->g x σ H' fun σ2 H2=>tb { D with nx:=N,ct:=N,bk:=D.nx } σ2 H2)
def uB(fp:List ζ)(h:Ψ):List (ζ×aH):=fp.filterMap fun b=>(h.get? b).map fun o=>(b,o)
theorem Bh{fp:List ζ}{h:Ψ}{b:ζ}{o:aH}(hb:b∈fp)(e:h.get? b=some o):(b,o)∈uB fp h:=oq.mpr ⟨b,hb,by rw[e];rfl⟩
theorem WV{fp:List ζ}{h:Ψ}{p:ζ×aH}(hp:p∈uB fp h):p.1∈fp/\h.get? p.1=some p.2:=by
 obtain⟨b,hb,e⟩:=oq.mp hp;cases q:h.get? b with
 |none=>rw[q] at e;cases e
 |some o=>
  rw[q] at e;have e':(b,o)=p:=aO e;subst e';exact⟨hb,q⟩
theorem Inv.pinned{pins:List (ζ×aH)}{σ:St}{H:Hp}{s:θ}{fp:List ζ}(I:Inv X pins σ H s)(hf:∀b∈fp,j4 X pins H b)(ho:∀b∈fp,∃o,s.heap.get? b=some o/\∀v,o.data≠.cell v):Inv X (pins++uB fp s.heap) σ H s:=
 I.Ai fun p hp=>(cA.mp hp).elim (fun z=>I.pin p (bG _ z)) fun z=>by
  obtain⟨hb,e⟩:=WV z;obtain⟨f0,f1,f2,_⟩:=hf p.1 hb;obtain⟨o,e',d⟩:=ho p.1 hb;rw[e] at e';cases e';exact⟨e,f0,f1,f2,d⟩
theorem Inv.sE{pins pl:List (ζ×aH)}{σ:St}{H:Hp}{s:θ}(I:Inv X (pins++pl) σ H s):Inv X pins σ H s:=I.Ai fun p hp=>I.pin p (bG _ (fm _ hp))
theorem WU{iter:υ}{body:List aM}{wi:TI}{g:TG}{tb:TS}{pos:aN}(hp:lU (model X.prog X.w) X.A X.env X.xe)(hc:X.calm=true)(hi:PI X tg iter wi)(hg:PG X tg g)(hb:nZ X body tb)
  (hs:∀x,foldedSetIterable iter X.env x=pure x:=by intro _;rfl):PS X (.For tg iter body [] pos) (OL wi g tb):=by
 intro pins s σ H D I h;refine wpAny_For (bO (hi pins s σ H _ I h) fun v s1 h1=>bO h1 fun itv s2 h2=>?_) hs;obtain⟨it,fp,tn,J,H2,e,I2,T,st2,f2,W,⟨m0,w0⟩,turn⟩:=h2;subst e
 -- what stays true of the iterator's objects through the loop
 have stat:∀{H':Hp},(∀b∈fp,H' b=none)->∀b∈fp,j4 X pins H' b:=fun hn b hb=>⟨hn b hb,(f2 b hb).2⟩;refine codeAny_forLoop_any (fun n s'=>∃i σ' H',Inv X pins σ' H' s'/\tn i s'.heap/\(∀b∈fp,H' b=none)/\W i n σ' H') ?_ m0 ⟨0,σ,H2,I2,st2,fun b hb=>(f2 b hb).1,w0⟩;rintro n s3 ⟨i,σ3,H3,I3,st3,fr3,w3⟩;rcases turn i n σ3 H3 w3 with⟨stop,qn⟩|⟨go,N,hN,step⟩
 ·refine gh hp (bO (T.done X rfl rfl rfl hc i pins s3 σ3 H3 X.xe I3 (stat fr3) st3 stop) fun r s4 ⟨hr,I4⟩=>?_);subst hr;exact gi ⟨σ3,H3,I4,qn⟩
 ·refine gh hp (bO (T.item X rfl rfl rfl hc i pins s3 σ3 H3 X.xe I3 (stat fr3) st3 go) fun r s4 ⟨u,hr,h4⟩=>?_);subst hr;refine gh hp (bO h4 fun _ s5 ⟨x,H5,I5,r5,y5,st5,fr5⟩=>?_);have I5':=I5.pinned (stat fr5) (T.obj _ _ st5);refine gh hp (bO (hg _ s5 σ3 H5 x u _ I5' r5 (step x H5 y5)) fun _ s6 ⟨σ6,H6,I6,q6⟩=>?_);refine gh hp (bO (hb _ s6 σ6 H6 _ I6 q6) fun f s7 q7=>?_);have again:∀{σ7:St} {H7:Hp},Inv X (pins++uB fp s5.heap) σ7 H7 s7->N σ7 H7->∃m,m<n/\∃i σ' H',Inv X pins σ' H' s7/\tn i s7.heap/\(∀b∈fp,H' b=none)/\W i m σ' H':=fun {σ7 H7} I7 n7=>by
   obtain⟨m',hm,w7⟩:=hN σ7 H7 n7;refine⟨m',hm,i+1,σ7,H7,I7.sE,T.keep _ _ _ st5 fun b hb o e=>(I7.pin (b,o) (bG _ (bG _ (Bh hb e)))).1,fun b hb=>?_,w7⟩;obtain⟨o,e,d⟩:=T.obj _ _ st5 b hb;exact (I7.pin (b,o) (bG _ (bG _ (Bh hb e)))).2.1
  cases f with
  |next=>obtain⟨σ7,H7,I7,n7⟩:=q7;exact again I7 n7
  |cont=>obtain⟨σ7,H7,I7,n7⟩:=q7;exact again I7 n7
  |brk=>obtain⟨σ7,H7,I7,q7⟩:=q7;exact⟨σ7,H7,I7.sE,q7⟩
  |ret v=>obtain⟨x7,σ7,H7,I7,r7,q7⟩:=q7;exact⟨x7,σ7,H7,I7.sE,r7,q7⟩
end
end L2
namespace L2
open PySem PySem.Spec PyProof.Rows
abbrev R2:=V->V->Hp->VK->Prop
def eZ(X:Cx)(f:ε->ε->j7 ε)(r:R2):Prop:=
 ∀(pins:List (ζ×aH)) (s:θ) (σ:St) (H:Hp) (x y:V) (v u:ε) (Q:VK),Inv X pins σ H s->RelV x v->RelV y u->r x y H Q ->
  ρ (model X.prog X.w) X.A (f v u) (EP X pins σ Q) X.xe s
def M1(X:Cx)(f:ε->j7 ε)(r:V->Hp->VK->Prop):Prop:=
 ∀(pins:List (ζ×aH)) (s:θ) (σ:St) (H:Hp) (x:V) (v:ε) (Q:VK),Inv X pins σ H s->RelV x v->r x H Q ->
  ρ (model X.prog X.w) X.A (f v) (EP X pins σ Q) X.xe s
def ku(X:Cx)(f:ε)(r:List V->Hp->VK->Prop):Prop:=
 ∀(pins:List (ζ×aH)) (s:θ) (σ:St) (H:Hp) (xs:List V) (us:List ε) (Q:VK),Inv X pins σ H s->bh xs us->r xs H Q ->
  ρ (model X.prog X.w) X.A (call f us) (EP X pins σ Q) X.xe s
def aa9(X:Cx)(r:V->Hp->(Bool->Hp->Prop)->Prop):Prop:=
 ∀(pins:List (ζ×aH)) (s:θ) (σ:St) (H:Hp) (x:V) (v:ε) (Q:Bool->Hp->Prop),Inv X pins σ H s->RelV x v->r x H Q ->
  ρ (model X.prog X.w) X.A (truthy v) (TP X pins σ Q) X.xe s
def C1(r:R2)(ta tb:TE):TE:=fun σ H Q=>ta σ H fun x H1=>tb σ H1 fun y H2=>r x y H2 Q
def tUn(r:V->Hp->VK->Prop)(ta:TE):TE:=fun σ H Q=>ta σ H fun x H1=>r x H1 Q
def rI(C:Int->Int->Prop)(g:Int->Int->V):R2:=fun x y H Q=>∃i j,x=.int i/\y=.int j/\C i j/\Q (g i j) H
def p6(g:Int->Int->V):R2:=fun x y H Q=>∃i j,x=.int i/\y=.int j/\Q (g i j) H
def rU(g:Int->V):V->Hp->VK->Prop:=fun x H Q=>∃i,x=.int i/\Q (g i) H
section
variable {X:Cx} {a b c:υ} {ta tb tc:TE} {pos:aN}
theorem FZ(ha:PE X a ta)(hb:PE X b tb){pins:List (ζ×aH)}{s:θ}{σ:St}{H:Hp}{R:V->V->Hp->Prop}(I:Inv X pins σ H s)
  (h:ta σ H fun x H1=>tb σ H1 fun y H2=>R x y H2) {Q:ε->θ->Prop} {f:ε->ε->j7 ε}
  (hf:∀v u s2 x y H2,Inv X pins σ H2 s2->RelV x v->RelV y u->R x y H2->ρ (model X.prog X.w) X.A (f v u) Q X.xe s2):
  ρ (model X.prog X.w) X.A (eval a X.env) (fun v s₁=>ρ (model X.prog X.w) X.A (eval b X.env) (fun u s₂=>ρ (model X.prog X.w) X.A (f v u) Q X.xe s₂) X.xe s₁) X.xe s:=by
 refine bO (ha pins s σ H _ I h) fun v s1 ⟨x,H1,I1,r1,q1⟩=>?_;refine bO (hb pins s1 σ H1 _ I1 q1) fun u s2 ⟨y,H2,I2,r2,q2⟩=>?_;exact hf v u s2 x y H2 I2 r1 r2 q2
theorem WT{op:nE}{r:R2}(ho:eZ X (binaryOp op) r)(ha:PE X a ta)(hb:PE X b tb):PE X (.BinOp a op b pos) (C1 r ta tb):=by
 intro pins s σ H Q I h;exact wpAny_BinOp (FZ ha hb I h fun v u s2 x y H2 I2 rx ry q=>ho pins s2 σ H2 x y v u Q I2 rx ry q)
theorem WS{op:UnaryOp}{r:V->Hp->VK->Prop}(ho:M1 X (unaryOp op) r)(ha:PE X a ta):PE X (.UnaryOp op a pos) (tUn r ta):=by
 intro pins s σ H Q I h;exact UnaryOp_ (bO (ha pins s σ H _ I h) fun v s1 ⟨x,H1,I1,r1,q1⟩=>ho pins s1 σ H1 x v Q I1 r1 q1)
theorem GB{f:ε->ε->j7 ε}{C:Int->Int->Prop}{g:Int->Int->Int}
  (rule:∀(i j:Int) (t u:Tok) (s:θ) (Q:ε->θ->Prop) (E:ε->θ->Prop),C i j->Q (.int (g i j) s.toks) { s with toks:=s.toks+1 }->ρ (model X.prog X.w) X.A (f (.int i t) (.int j u)) Q E s):
  eZ X f (rI C fun i j=>.int (g i j)):=by
 intro pins s σ H x y v u Q I rx ry h;obtain⟨i,j,rfl,rfl,hc,q⟩:=h;obtain⟨t,rfl⟩:=rx;obtain⟨t',rfl⟩:=ry;exact rule i j t t' s _ _ hc ⟨.int (g i j),H,I.tok _,⟨_,rfl⟩,q⟩
theorem Mz{f:ε->ε->j7 ε}{g:Int->Int->Int}
  (rule:∀(i j:Int) (t u:Tok) (s:θ) (Q:ε->θ->Prop) (E:ε->θ->Prop),Q (.int (g i j) s.toks) { s with toks:=s.toks+1 }->ρ (model X.prog X.w) X.A (f (.int i t) (.int j u)) Q E s):
  eZ X f (p6 fun i j=>.int (g i j)):=by
 intro pins s σ H x y v u Q I rx ry h;obtain⟨i,j,rfl,rfl,q⟩:=h;obtain⟨t,rfl⟩:=rx;obtain⟨t',rfl⟩:=ry;exact rule i j t t' s _ _ ⟨.int (g i j),H,I.tok _,⟨_,rfl⟩,q⟩
theorem Bv{f:ε->ε->j7 ε}{g:Int->Int->Bool}
  (rule:∀(i j:Int) (t u:Tok) (s:θ) (Q:ε->θ->Prop) (E:ε->θ->Prop),Q (.bool (g i j)) s->ρ (model X.prog X.w) X.A (f (.int i t) (.int j u)) Q E s):
  eZ X f (p6 fun i j=>.bl (g i j)):=by
 intro pins s σ H x y v u Q I rx ry h;obtain⟨i,j,rfl,rfl,q⟩:=h;obtain⟨t,rfl⟩:=rx;obtain⟨t',rfl⟩:=ry;exact rule i j t t' s _ _ ⟨.bl (g i j),H,I,rfl,q⟩
def Gi(i j:Int):Prop:=0≤j/\j≤1000000/\i.natAbs<2^64
theorem Mx:eZ X (binaryOp .Add) (p6 fun i j=>.int (i+j)):=Mz fun _ _ _ _ _ _ _ q=>add_int q
theorem oJ:eZ X (binaryOp .Sub) (p6 fun i j=>.int (i-j)):=Mz fun _ _ _ _ _ _ _ q=>sub_int q
theorem mh:eZ X (binaryOp .Mod) (rI (fun _ j=>0<j) fun i j=>.int (i%j)):=GB fun i j _ _ _ _ _ hc q=>by
 have h1:(0:Int)<j:=hc;exact mod_int' (by lia) (by rw[Int.fmod_eq_emod_of_nonneg i (by lia)];exact q)
theorem zm:eZ X (binaryOp .Pow) (rI Gi fun i j=>.int (i^j.toNat)):=GB fun _ _ _ _ _ _ _ hc q=>pow_int_small hc.1 hc.2.1 hc.2.2 q
theorem unI{f:ε->j7 ε}{g:Int->Int}
  (rule:∀(i:Int) (t:Tok) (s:θ) (Q:ε->θ->Prop) (E:ε->θ->Prop),Q (.int (g i) s.toks) { s with toks:=s.toks+1 }->ρ (model X.prog X.w) X.A (f (.int i t)) Q E s):
  M1 X f (rU fun i=>.int (g i)):=by
 intro pins s σ H x v Q I rx h;obtain⟨i,rfl,q⟩:=h;obtain⟨t,rfl⟩:=rx;exact rule i t s _ _ ⟨.int (g i),H,I.tok _,⟨_,rfl⟩,q⟩
theorem WR:M1 X (unaryOp .USub) (rU fun i=>.int (-i)):=unI fun _ _ _ _ _ q=>neg_int q
end
section
variable {X:Cx} {a b c:υ} {ta tb tc:TE} {pos:aN}
theorem Mh{pins:List (ζ×aH)}{σ:St}{H:Hp}{s:θ}{Q:VK}{k k':Bool}(I:Inv X pins σ H s)(q:Q (.bl k) H)(e:k=k'):EP X pins σ Q (.bool k') s:=by
 subst e;exact⟨.bl k,H,I,rfl,q⟩
theorem Nv:eZ X (compareOp .Lt) (p6 fun i j=>.bl (decide (i<j))):=Bv fun _ _ _ _ _ _ _ q=>lt_int q
theorem WQ:eZ X (compareOp .LtE) (p6 fun i j=>.bl (decide (i≤j))):=Bv fun _ _ _ _ _ _ _ q=>le_int q
theorem xI:eZ X (compareOp .Gt) (p6 fun i j=>.bl (decide (j<i))):=Bv fun _ _ _ _ _ _ _ q=>gt_int q
theorem WO:eZ X (compareOp .GtE) (p6 fun i j=>.bl (decide (j≤i))):=Bv fun _ _ _ _ _ _ _ q=>ge_int q
theorem WN:eZ X (compareOp .Is) (fun x y H Q=>y=.aB/\Q (.bl (decide (x=.aB))) H):=by
 intro pins s σ H x y v u Q I rx ry h;obtain⟨rfl,q⟩:=h;cases ry;refine is_none_gen (Mh I q ?_);cases x<;>first
  | (cases rx;rfl)
  | (obtain⟨t,rfl⟩:=rx;rfl)
theorem WM:eZ X (compareOp .IsNot) (fun x y H Q=>y=.aB/\Q (.bl (!decide (x=.aB))) H):=by
 intro pins s σ H x y v u Q I rx ry h;obtain⟨rfl,q⟩:=h;cases ry;refine isnot_none_gen (Mh I q ?_);cases x<;>first
  | (cases rx;rfl)
  | (obtain⟨t,rfl⟩:=rx;rfl)
theorem eZ.or{f:ε->ε->j7 ε}{r r':R2}(h:eZ X f r)(h':eZ X f r'):eZ X f (fun x y H Q=>r x y H Q∨r' x y H Q):=by
 intro pins s σ H x y v u Q I rx ry q;rcases q with q|q
 ·exact h pins s σ H x y v u Q I rx ry q
 ·exact h' pins s σ H x y v u Q I rx ry q
theorem b9(b:υ){op:CmpOp}(h:op≠.In:=by decide)(h2:op≠.NotIn:=by decide):behindInMarks op b=false:=by
 have e1:(op==CmpOp.In)=false:=by cases op<;>first|rfl|exact absurd rfl h
 have e2:(op==CmpOp.NotIn)=false:=by cases op<;>first|rfl|exact absurd rfl h2
 cases b<;>simp[behindInMarks,e1,e2]
theorem WL{op:CmpOp}{r:R2}(ho:eZ X (compareOp op) r)(ha:PE X a ta)(hb:PE X b tb)(hm:behindInMarks op b=false):PE X (.Compare a [op] [b] pos) (C1 r ta tb):=by
 intro pins s σ H Q I h;exact wpAny_Compare1 (FZ ha hb I h fun v u s2 x y H2 I2 rx ry q=>ho pins s2 σ H2 x y v u Q I2 rx ry q) hm
def Gm(t:TE):TT:=fun σ H Q=>t σ H fun x H'=>∃k,x=.bl k/\Q k H'
theorem WJ{op:CmpOp}{r:R2}(ho:eZ X (compareOp op) r)(ha:PE X a ta)(hb:PE X b tb)(hm:behindInMarks op b=false):PT X (.Compare a [op] [b] pos) (Gm (C1 r ta tb)):=by
 intro pins s σ H Q I h;refine wpAny_isTrue_Compare1 (bO (ha pins s σ H _ I h) fun v s1 ⟨x,H1,I1,r1,q1⟩=>bO (hb pins s1 σ H1 _ I1 q1) fun u s2 ⟨y,H2,I2,r2,q2⟩=>
  bO (ho pins s2 σ H2 x y v u _ I2 r1 r2 q2) fun c s3 ⟨z,H3,I3,r3,k,e,q3⟩=>?_) hm
 subst e;cases r3;exact kR ⟨H3,I3,q3⟩
def M3(K:η)(x:V)(H:Hp)(k:Bool):Prop:=
 match x with
 |.aB=>k=false
 |.bl b=>k=b
 |.int i=>k=(i != 0)
 |.str y=>y.length≤aw/\k=((y.length:Int) != 0)
 |.Dv y=>y.size≤aw/\k=((y.size:Int) != 0)
 |.ref p=>(∃xs,fg K H p xs/\k = !xs.isEmpty)∨(∃xs,cL K H p xs/\k = !xs.isEmpty)∨∃kvs,H p=some (.dK kvs)/\k = !kvs.isEmpty
 |_=>False
theorem WI{κ:Type}{kvs:List (κ×V)}{vs:List (κ×ε)}(r:KV kvs vs):(!vs.isEmpty) = !kvs.isEmpty:=by
 cases r<;>rfl
theorem Mg{xs:List V}{its:List ε}(r:bh xs its):(!its.toArray.isEmpty) = !xs.isEmpty:=by
 cases r<;>simp
theorem rT:(aw:Nat)<2^63:=by rw[cq];decide
theorem WH:aa9 X (fun x H Q=>∃k,M3 X.K x H k/\Q k H):=by
 intro pins s σ H x v Q I rx h;obtain⟨k,e,q⟩:=h;have hl:=rT;have hs:aw=16777216:=cq;cases x with
 |aB=>
  cases rx;have e':k=false:=e;subst e';exact truthy_none ⟨H,I,q⟩
 |bl b=>
  cases rx;have e':k=b:=e;subst e';exact kR ⟨H,I,q⟩
 |int i=>
  obtain⟨t,rfl⟩:=rx;have e':k=(i != 0):=e;subst e';exact PySem.P.truthy_int ⟨H,I,q⟩
 |str y=>
  obtain⟨t,rfl⟩:=rx;obtain⟨hy,e'⟩:y.length≤aw/\k=((y.length:Int) != 0):=e;subst e';exact PySem.P.truthy_str (by lia) ⟨H,I.tok _,q⟩
 |Dv y=>
  obtain⟨t,rfl⟩:=rx;obtain⟨hy,e'⟩:y.size≤aw/\k=((y.size:Int) != 0):=e;subst e';exact PySem.W.truthy_bytes (by lia) ⟨H,I.tok _,q⟩
 |ref p=>
  cases rx;have e':(∃xs,fg X.K H p xs/\k = !xs.isEmpty)∨(∃xs,cL X.K H p xs/\k = !xs.isEmpty)∨∃kvs,H p=some (.dK kvs)/\k = !kvs.isEmpty:=e;rcases e' with⟨xs,hx,e'⟩|⟨xs,hx,e'⟩|⟨kvs,hx,e'⟩
  ·subst e';obtain⟨its,r,pl,hz⟩:=I.list hx;have hlen:=r.length;exact wpAny_truthy_list pl.isList (by simp only[ψ];lia) ⟨H,I.tok _,by rw[Mg r];exact q⟩
  ·subst e';obtain⟨its,r,pl,hz⟩:=I.tuple hx;have hlen:=r.length;exact truthy_tuple pl (by simp only[ψ];lia) ⟨H,I.tok _,by rw[Mg r];exact q⟩
  ·subst e';obtain⟨hz,hS,vs,r,m⟩:kvs.length≤aw/\(p==sysModules)=false/\∃vs,KV kvs vs/\s.heap.DictOf (xX X.prog X.w) p vs:=I.bJ p _ hx;have hlen:kvs.length=vs.length:=Paired.length r;exact wpAny_truthy_dict hS m (by lia) ⟨H,I.tok _,by rw[WI r];exact q⟩
 |_=>exact (show False from e).elim
theorem WG(ha:PE X a ta)(he:∀whole,isTrue a X.env whole=(do let v ←whole;standAt a.pos;holding [v] (truthy v))):
  PT X a (fun σ H Q=>ta σ H fun x H'=>∃k,M3 X.K x H' k/\Q k H'):=by
 intro pins s σ H Q I h;exact isTrue_plain (bO (ha pins s σ H _ I h) fun v s1 ⟨x,H1,I1,r1,q1⟩=>WH pins s1 σ H1 x v Q I1 r1 q1) (he _)
theorem vals1{x:V}{us:List ε}(r:bh [x] us):∃u,us=[u]/\RelV x u:=by
 cases r with
 |cons r1 r2=>cases r2;exact⟨_,rfl,r1⟩
theorem vals2{x y:V}{us:List ε}(r:bh [x,y] us):∃u w',us=[u,w']/\RelV x u/\RelV y w':=by
 cases r with
 |cons r1 r2=>
  cases r2 with
  |cons r3 r4=>cases r4;exact⟨_,_,rfl,r1,r3⟩
theorem WE(hc:X.calm=true):ku X (.builtin "max") (fun xs H Q=>∃i j,xs=[.int i,.int j]/\Q (.int (if j > i then j else i)) H):=by
 intro pins s σ H xs us Q I r h;obtain⟨i,j,rfl,q⟩:=h;obtain⟨u,w',rfl,⟨t,rfl⟩,⟨t',rfl⟩⟩:=vals2 r;refine max_two_ints (I.ok.hd hc) fun h' tk k=>⟨_,H,I.kept k,?_,q⟩;by_cases hj:j > i
 ·rw[if_pos hj,if_pos hj];exact⟨_,rfl⟩
 ·rw[if_neg hj,if_neg hj];exact⟨_,rfl⟩
theorem WD(hc:X.calm=true):ku X (.builtin "min") (fun xs H Q=>∃i j,xs=[.int i,.int j]/\Q (.int (if j<i then j else i)) H):=by
 intro pins s σ H xs us Q I r h;obtain⟨i,j,rfl,q⟩:=h;obtain⟨u,w',rfl,⟨t,rfl⟩,⟨t',rfl⟩⟩:=vals2 r;refine min_two_ints (I.ok.hd hc) fun h' tk k=>⟨_,H,I.kept k,?_,q⟩;by_cases hj:j<i
 ·rw[if_pos hj,if_pos hj];exact⟨_,rfl⟩
 ·rw[if_neg hj,if_neg hj];exact⟨_,rfl⟩
theorem WC:ku X (.type "int") (fun xs H Q=>(∃i,xs=[.int i]/\Q (.int i) H)∨∃k,xs=[.bl k]/\Q (.int (if k then 1 else 0)) H):=by
 intro pins s σ H xs us Q I r h;rcases h with⟨i,rfl,q⟩|⟨k,rfl,q⟩
 ·obtain⟨u,rfl,t,rfl⟩:=vals1 r;exact call_int_int ⟨.int i,H,I,⟨_,rfl⟩,q⟩
 ·obtain⟨u,rfl,r1⟩:=vals1 r;cases r1;exact call_int_bool ⟨.int (if k then 1 else 0),H,I.tok _,⟨_,rfl⟩,q⟩
end
end L2
namespace L2
open PySem PySem.Spec PyProof.Rows
theorem Xe{h:Ψ}{dx:ζ}{mA:ν->Option ε}(n:h.Ns1 dx mA):∃od,h.get? dx=some od/\∀name,sk name od=some (mA name):=by
 obtain⟨o,es,ep,ho,hd,hk,_,hm⟩:=n;refine⟨o,ho,fun name=>?_⟩;have e:=hm name;unfold nsFind findBy at e;rw[←Array.find?_toList] at e;unfold sk;rw[hd];dsimp only;split
 ·rename_i y q;rw[q] at e;exact congrArg some e
 ·rename_i q;rw[q] at e;have a:es.toList.any (·.refKey)=false:=by
   rw[List.any_eq_false];intro y hy;obtain⟨z,t,hkey⟩:=hk y (gH.mp hy);simp[kl.refKey,hkey]
  have a':¬es.toList.any (·.refKey)=true:=by rw[a];exact ay
  rw[if_neg a'];exact congrArg some e
theorem tD.some_of{v:V}{o:Option ε}(r:tD (some v) o):∃u,o=some u/\RelV v u:=by
 cases o with
 |none=>exact (show False from r).elim
 |some u=>exact⟨u,rfl,r⟩
section
variable {X:Cx} {pins:List (ζ×aH)} {σ:St} {H:Hp} {s:θ} {a C dx:ζ} {fs:List (ν×V)} {f:ν} {v:V} {A:aJ} {E:ε->θ->Prop}
theorem Xd{prog:ag}{w:av}{env:dq}{e:υ}{f:ν}{pos:aN}{s:θ}{Q:ε->θ->Prop}(hb:attributeBase e f env (eval e env)=eval e env)
  (h:ρ (model prog w) A (eval e env) (fun o s₁=>ρ (model prog w) A (getAttr o f true) Q E s₁) E s):ρ (model prog w) A (eval (.Attribute e f pos) env) Q E s:=
 Attribute_any_ h (by rw[arm_eval_Attribute,hb])
end
end L2
namespace L2
open PySem PySem.Spec PyProof.Rows
structure dW(k:Nat)(A:aJ):Prop where
 hd:A.handled=none
 dp:A.depth+3*k+5<recursionLimit
 un:A.units+16*k+200<cLine
theorem dW.mono{j k:Nat}{A:aJ}(r:dW k A)(h:j≤k):dW j A:=⟨r.hd,by have:=r.dp;lia,by have:=r.un;lia⟩
theorem dW.deeper{k:Nat}{A:aJ}(r:dW (k+1) A)(env:dq):dW k (A.deeper env):=
 ⟨r.hd,by have:=r.dp;show A.depth+1+3*k+5<_;lia,by have:=r.un;show A.units+3+16*k+200<_;lia⟩
theorem Xc{A:aJ}{C:ζ}{us:List ε}{kw:List (ν×ε)}:(A.under (.builtin "type.__call__" ⟨.ref C::us,kw⟩)).depth=A.depth+1:=by
 first|rfl|simp[aJ.under,Code.weight,Code.isCreation,Code.isGuard,Code.isCaller,Code.frames,Code.isFrame,guardIds]
theorem dW.depth{k:Nat}{A:aJ}(r:dW k A):A.depth<recursionLimit:=by have:=r.dp;lia
theorem dW.units{k:Nat}{A:aJ}(r:dW k A):A.units+64<cLine:=by have:=r.un;lia
theorem dW.uh{k:Nat}{A:aJ}(r:dW k A):A.units<cLine:=by have:=r.un;lia
def HY:TA:=fun _ H Q=>Q [] H
def Aw(ta:TE)(tr:TA):TA:=fun σ H Q=>ta σ H fun x H1=>tr σ H1 fun xs H2=>Q (x::xs) H2
section
variable {X:Cx} {e:υ} {es:List υ} {te:TE} {t:TA} {pos:aN}
theorem xH:PA X [] HY:=fun _ _ _ _ H Q I h=>vJ ⟨[],H,I,.nil,h⟩
theorem sJ(ha:PE X e te)(hr:PA X es t)(hs:bI (e::es) X.env=(false,eval e X.env)::bI es X.env:=by rfl):PA X (e::es) (Aw te t):=by
 intro pos pins s σ H Q I h;rw[hs];show ρ _ _ (spliced ((false,eval e X.env)::backTo pos (bI es X.env))) _ _ s;refine oA (bO (ha pins s σ H _ I h) fun u s1 ⟨x,H1,I1,r1,q1⟩=>?_);exact bO (hr pos pins s1 σ H1 _ I1 q1) fun us s2 ⟨xs,H2,I2,r2,q2⟩=>⟨x::xs,H2,I2,.cons r1 r2,q2⟩
def OF(t:TA):TE:=fun σ H Q=>t σ H fun xs H1=>xs.length≤aw/\∀p,H1 p=none->Q (.ref p) (upd H1 p (.tup xs))
def OJ(t:TA):TE:=fun σ H Q=>t σ H fun xs H1=>xs.length≤aw/\∀p,H1 p=none->Q (.ref p) (upd H1 p (.lst xs))
theorem Xb{x1}(h:PA X es t):PE X (.Tuple es x1 pos) (OF t):=by
 intro pins s σ H Q I hq;refine wpAny_Tuple_spliced (bO (h pos pins s σ H _ I hq) fun us s1 ⟨xs,H1,I1,r,z,q⟩=>⟨by rw[←r.length];exact z,?_⟩);have hf:H1 s1.heap.objs.size=none:=I1.bJ.fresh (Φ _);refine⟨.ref s1.heap.objs.size,upd H1 s1.heap.objs.size (.tup xs),I1.laid (t':=s1.toks) (fun b u e=>ι _ e) (Φ _) ?_,rfl,q _ hf⟩;exact⟨z,us,r,⟨_,ae _ rfl,rfl,⟨_,rfl⟩,rfl⟩⟩
theorem Mf(h:PA X es t):PE X (.List es pos) (OJ t):=by
 intro pins s σ H Q I hq;refine wpAny_List_spliced (bO (h pos pins s σ H _ I hq) fun us s1 ⟨xs,H1,I1,r,z,q⟩=>⟨by rw[←r.length];exact z,?_⟩);have hf:H1 s1.heap.objs.size=none:=I1.bJ.fresh (Φ _);refine⟨.ref s1.heap.objs.size,upd H1 s1.heap.objs.size (.lst xs),I1.laid (t':=s1.toks) (fun b u e=>ι _ e) (Φ _) ?_,rfl,q _ hf⟩;exact⟨z,us,0,r,ae _ rfl⟩
end
abbrev Sp:=List V->Hp->VK->XK->Prop
abbrev sd:=List dq->Hp->θ->XK->ε->θ->Prop
structure wL(P:ag)(w:av)(K:η)(mg:ν->Option ε)(base:Ψ)(A:aJ)(outer:List dq)(s:θ)(H:Hp):Prop where
 frames:A.frames=some outer
 mod:Mod K mg base
 bs:∀b o,base.get? b=some o->s.heap.get? b=some o/\H b=none
 uM:base.objs.size≤s.heap.objs.size
 ml:s.heap.FunFrames base outer
 yh:∀b∈fQ outer,H b=none
 bJ:fF P w H s.heap
 bare:kC s.gens
def CE(outer:List dq)(P:ag)(w:av)(H:Hp)(s:θ)(Q:VK)(u:ε)(s':θ):Prop:=
 ∃v H',s'.os=s.os/\kC s'.gens/\Un (fQ outer) [] H H' s.heap s'.heap/\fF P w H' s'.heap/\RelV v u/\Q v H'
def CR(CX:sd)(outer:List dq)(P:ag)(w:av)(H:Hp)(s:θ)(Q:VK)(E:XK)(r:Result)(s':θ):Prop:=
 match r with
 |.ok (.ret u)=>CE outer P w H s Q u s'
 |.ok _=>False
 |.error e=>CX outer H s E e s'
structure j5(P:ag)(w:av)(K:η)(mg:ν->Option ε)(base:Ψ)(CX:sd)(k:Nat)(f:ζ)(fd:aq)(ps:List ν)(sp:Sp):Prop where
 len:∀vs H Q E,sp vs H Q E->vs.length=ps.length
 run:∀(A:aJ) (outer:List dq) (s:θ) (H:Hp) (args:Args) (us:List ε) (vs:List V) (Q:VK) (E:XK),dW k A->wL P w K mg base A outer s H->pV s fd args (ps.zip us)->bh vs us->sp vs H Q E ->
  iL (model P w) A (.call (.ref f) args) (CR CX outer P w H s Q E) s
theorem j5.mono{P:ag}{w:av}{K:η}{mg:ν->Option ε}{base:Ψ}{CX:sd}{j k:Nat}{f:ζ}{fd:aq}{ps:List ν}{sp:Sp}(F:j5 P w K mg base CX j f fd ps sp)(h:j≤k):
  j5 P w K mg base CX k f fd ps sp:=⟨F.len,fun A outer s H args us vs Q E hr=>F.run A outer s H args us vs Q E (hr.mono h)⟩
theorem j5.imp{P:ag}{w:av}{K:η}{mg:ν->Option ε}{base:Ψ}{CX:sd}{k:Nat}{f:ζ}{fd:aq}{ps:List ν}{sp sp':Sp}(F:j5 P w K mg base CX k f fd ps sp)
  (h:∀vs H Q E,sp' vs H Q E->sp vs H Q E):j5 P w K mg base CX k f fd ps sp':=
 ⟨fun vs H Q E q=>F.len vs H Q E (h _ _ _ _ q),fun A outer s H args us vs Q E hr he hb hv hs=>F.run A outer s H args us vs Q E hr he hb hv (h _ _ _ _ hs)⟩
section
variable {X:Cx} {pins:List (ζ×aH)} {σ:St} {H:Hp} {s s':θ}
theorem Inv.MV(I:Inv X pins σ H s):wL X.prog X.w X.K X.mg X.base X.A X.stack s H:=
 ⟨I.ok.frames,I.ok.mod,I.bs,aD I.ok.uM I.sz,I.stack,I.lQ,I.bJ,I.bare⟩
theorem Inv.after{Q:VK}{u:ε}(I:Inv X pins σ H s)(h:CE X.stack X.prog X.w H s Q u s'):EP X pins σ Q u s':=by
 obtain⟨v,H',os,bare,un,bJ,r,q⟩:=h;obtain⟨hh,g,d,t,os'⟩:=s';obtain rfl:os'=s.os:=os;exact⟨v,H',I.call (h':=hh) (g':=g) (d':=d) (t':=t) (ch:=[]) un bJ bare (fun b z=>absurd z (by simp)),r,q⟩
end
def Ax(sp:Sp)(dvs:List V)(E:XK)(t:TA):TE:=fun σ H Q=>t σ H fun vs H1=>sp (vs++dvs) H1 Q E
def Binds(K:η)(fd:aq)(ps:List ν)(ds:List ε):Prop:=
 ∀(s:θ) (us:List ε),K.In s.heap->(us++ds).length=ps.length->pV s fd ⟨us,[]⟩ (ps.zip (us++ds))
theorem Binds.all{K:η}{fd:aq}{ps:List ν}(h:∀us:List ε,us.length=ps.length->bindArgs fd ⟨us,[]⟩=pure (ps.zip us)):Binds K fd ps []:=fun s us _ hl=>by
 rw[bV] at hl ⊢;exact .of_eq (h us hl)
def mx(CX:sd)(X:Cx)(E:XK):Prop:=∀(pins:List (ζ×aH)) (σ:St) (H:Hp) (s:θ) (e:ε) (s':θ),Inv X pins σ H s->CX X.stack H s E e s'->X.xe e s'
section
variable {X:Cx} {CX:sd} {k:Nat} {f C:ζ} {fd:aq} {ps:List ν} {sp:Sp} {dvs:List V} {ds:List ε} {E:XK} {x m:ν} {p pos apos:aN} {e o:υ} {es:List υ} {ta:TE} {t:TA}
theorem Xa{pins:List (ζ×aH)}{σ:St}{H:Hp}{s:θ}{Q:VK}{us:List ε}{vs:List V}(F:j5 X.prog X.w X.K X.mg X.base CX k f fd ps sp)(hr:dW k X.A)(hb:Binds X.K fd ps ds)(hd:bh dvs ds)(hx:mx CX X E)
  (I:Inv X pins σ H s) (r:bh vs us) (h:sp (vs++dvs) H Q E):ρ (model X.prog X.w) X.A (call (.ref f) us) (EP X pins σ Q) X.xe s:=by
 have r2:bh (vs++dvs) (us++ds):=r.append hd;have hl:(us++ds).length=ps.length:=by rw[←r2.length];exact F.len _ _ _ _ h
 refine i8 (fV (F.run X.A X.stack s H ⟨us,[]⟩ (us++ds) (vs++dvs) Q E hr I.MV (hb s us I.hZ hl) r2 h) fun r s' hq=>?_);cases r with
 |error e=>exact hx pins σ H s e s' I hq
 |ok fl=>
  cases fl with
  |ret u=>exact I.after hq
  |next=>exact cI hq
  |brk=>exact cI hq
  |cont=>exact cI hq
theorem W9(F:j5 X.prog X.w X.K X.mg X.base CX k f fd ps sp)(hr:dW k X.A)(hg:Gl X x)(hm:X.mg x=some (.ref f))(hk:bW X.K (.ref f)=true)(hb:Binds X.K fd ps ds)(hd:bh dvs ds)(hx:mx CX X E)
  (ha:PA X (e::es) t) (hdb:(x==("__debug__":ν))=false:=by decide) (he:bI (e::es) X.env=(false,eval e X.env)::bI es X.env:=by rfl) (hpl:(backTo pos (bI es X.env)).any (·.1)=false:=by rfl):
  PE X (.Call (.Name x p) (e::es) [] pos) (Ax sp dvs E t):=by
 intro pins s σ H Q I h;refine eR (wt I hg hm ?_ hdb);refine ik (h₀:=X.base) I.ok.mod.uD hk (bO (ha pos pins s σ H _ I h) fun us s1 ⟨vs,H1,I1,r,q⟩=>⟨I1.hZ,?_⟩) he hpl;exact Xa F hr hb hd hx I1 r q
end
structure bp(N P:List ν)(sc:eV):Prop where
 kind:sc.kind=.function
 co:sc.isCoroutine=false
 gen:sc.isGenerator=false
 nd:N.Nodup
 pre:N.take P.length=P
 par:∀x∈P,sc.names.lookup x=some .local∨sc.names.lookup x=some .cell
 MC:∀y∈sc.names,y.2≠.free
theorem Me{kindOf:ν->Option fL}{x:ν}:∀{binds:List (ν×ε)} {m:ν->Option ε},(∀v,(x,v)∉binds)->bindL kindOf binds m x=m x
 |[],_,_=>rfl
 | (n,v)::r,m,h=>by
  unfold bindL;rw[Me fun w hw=>h w (Γ _ hw)];split
  ·have:x≠n:=by rintro rfl;exact h v aa
   simp[this]
  ·rfl
theorem Md{kindOf:ν->Option fL}{x:ν}:∀{binds:List (ν×ε)} {m:ν->Option ε},(∀v,(x,v)∉binds)->bindC kindOf binds m x=m x
 |[],_,_=>rfl
 | (n,v)::r,m,h=>by
  unfold bindC;rw[Md fun w hw=>h w (Γ _ hw)];split
  ·rfl
  ·have:x≠n:=by rintro rfl;exact h v aa
   simp[this]
theorem Bg{kindOf:ν->Option fL}{x:ν}{v:ε}:∀{P:List ν} {vs:List ε} {i:Nat} {m:ν->Option ε},P.Nodup->P[i]?=some x->vs[i]?=some v->kindOf x=some .local ->
  bindL kindOf (P.zip vs) m x=some v
 |[],_,_,_,_,h,_,_=>by simp at h
 |_::_,[],_,_,_,_,h,_=>by simp at h
 |p::P,w::vs,0,m,nd,h1,h2,hk=>by
  simp at h1 h2;subst h1;subst h2;show bindL kindOf ((p,w)::P.zip vs) m p=_;unfold bindL;rw[Me fun v hv=>(dP.mp nd).1 (gj hv).1,if_pos hk];simp
 |p::P,w::vs,i+1,m,nd,h1,h2,hk=>by
  show bindL kindOf ((p,w)::P.zip vs) m x=_;unfold bindL;exact Bg (i:=i) (dP.mp nd).2 (by simpa using h1) (by simpa using h2) hk
theorem Mc{kindOf:ν->Option fL}{x:ν}{v:ε}:∀{P:List ν} {vs:List ε} {i:Nat} {m:ν->Option ε},P.Nodup->P[i]?=some x->vs[i]?=some v->kindOf x≠some .local ->
  bindC kindOf (P.zip vs) m x=some v
 |[],_,_,_,_,h,_,_=>by simp at h
 |_::_,[],_,_,_,_,h,_=>by simp at h
 |p::P,w::vs,0,m,nd,h1,h2,hk=>by
  simp at h1 h2;subst h1;subst h2;show bindC kindOf ((p,w)::P.zip vs) m p=_;unfold bindC;rw[Md fun v hv=>(dP.mp nd).1 (gj hv).1,if_neg hk];simp
 |p::P,w::vs,i+1,m,nd,h1,h2,hk=>by
  show bindC kindOf ((p,w)::P.zip vs) m x=_;unfold bindC;exact Mc (i:=i) (dP.mp nd).2 (by simpa using h1) (by simpa using h2) hk
def start(N:List ν)(vs:List V):St:=vs.map some++aA (N.length-vs.length) none
def iJ(CX:sd)(P:ag)(w:av)(K:η)(mg:ν->Option ε)(base:Ψ)(N:List ν)(qual:ν)(scope:eV)(f:ζ)(cd:ε)(A:aJ)(outer:List dq)(s:θ)(H:Hp)(E:XK):Cx where
 prog:=P
 w:=w
 K:=K
 mg:=mg
 base:=base
 A:=A.deeper (envOfC qual scope s.heap.objs.size f cd)
 N:=N
 s₀:=s
 H₀:=H
 env:=envOfC qual scope s.heap.objs.size f cd
 outer:=outer
 stack:=envOfC qual scope s.heap.objs.size f cd::outer
 ex:=[]
 calm:=true
 fn:=fun _=>true
 pn:=[]
 xe:=fun e s'=>ρ (model P w) (A.deeper (envOfC qual scope s.heap.objs.size f cd)) (leaving (envOfC qual scope s.heap.objs.size f cd) e) (fun _ s''=>CX outer H s E e s'') (fun e' s''=>CX outer H s E e' s'') s'
theorem Mb{sc:eV}{n:Nat}{x:ν}(h:sc.names.lookup x=some .cell):∃c,(cellsFrom n sc.names []).lookup x=some c:=by
 have q:=lj sc.names n [] (.inl h);exact kc.mp q
theorem Ma{CX:sd}{P:ag}{w:av}{K:η}{mg:ν->Option ε}{base:Ψ}{N ps:List ν}{qual:ν}{scope:eV}{f:ζ}{cd:ε}{A:aJ}{outer:List dq}{s s1:θ}{H:Hp}{E:XK}{us:List ε}{vs:List V}
  (S:bp N ps scope) (hd:A.handled=none) (e0:wL P w K mg base A outer s H) (hl:vs.length=ps.length) (r:bh vs us)
  (x:InCallC s s.heap.objs.size (bindL (envOfC qual scope s.heap.objs.size f cd).kindOf (ps.zip us) fun _=>none) (cellsFrom (s.heap.objs.size+1) scope.names []) (bindC (envOfC qual scope s.heap.objs.size f cd).kindOf (ps.zip us) fun _=>none) s1):
  Inv (iJ CX P w K mg base N qual scope f cd A outer s H E) [] (start N vs) H s1:=by
 have hpl:ps.length≤N.length:=by have:=congrArg e7 S.pre;rw[eP] at this;lia
 obtain⟨h1,tk,rfl,hk⟩:=x.done;have noA:∀b:ζ,b∉(iJ CX P w K mg base N qual scope f cd A outer s H E).ex:=fun b z=>absurd (show b∈([]:List ζ) from z) (by simp);refine⟨⟨e0.mod,S.kind,rfl,rfl,Φ _,fun y z c h1 h2=>?_,fun y hy=>?_,fun y c _ h=>?_,fun _=>hd,tP e0.frames,.inr ⟨rfl,rfl⟩,fun b z=>absurd z (noA b),e0.bs,e0.uM,fun b _ _=>noA b,fun b z=>absurd z (noA b),e0.ml,e0.yh⟩,
  rfl,e0.bare,Un.kept hk,⟨_,x.toInCall.ns,fun i y v h1 h2 h3=>?_⟩,fun y c h=>⟨_,x.cell y c h⟩,e0.bJ.fresh (Φ _),fun y c h=>?_,fun p hp=>absurd (show p∈([]:List (ζ×aH)) from hp) (by simp),e0.bJ.kept hk,?_⟩
 ·exact name_of_addr x.apart (fG h1) (fG h2)
 ·have hy:scope.names.lookup y=some .cell∨scope.names.lookup y=some .free:=hy;rcases hy with hy|hy
  ·exact Mb hy
  ·exact absurd rfl (S.MC _ (fG hy))
 ·exact qu (x.above y c (fG h))
 ·have hi:i<vs.length:=by
   unfold start at h2;by_cases hi:i<vs.length
   ·exact hi
   ·rw[eL (by simpa using hi)] at h2;rw[g9] at h2;split at h2<;>cases h2
  have ha:vs[i]?=some v:=by
   unfold start at h2;rw[eW (by simpa using hi),aK] at h2;cases e:vs[i]? with
   |none=>rw[e] at h2;cases h2
   |some a=>rw[e] at h2;cases h2;rfl
  obtain⟨u,hu,rv⟩:=r.get ha;have hp:ps[i]?=some y:=by
   rw[←S.pre,qA (by lia)];exact h1
  have ndP:ps.Nodup:=by rw[←S.pre];exact S.nd.sublist (pF _ _)
  refine⟨u,rv,?_⟩;rcases S.par y (bF hp) with k|k
  ·exact .inl ⟨k,Bg ndP hp hu k⟩
  ·obtain⟨c,e⟩:=Mb (n:=s.heap.objs.size+1) k;refine .inr ⟨.inl k,c,e,?_⟩;have q:=x.cell y c e;rw[Mc ndP hp hu (by show scope.names.lookup y≠_;rw[k];decide)] at q;exact q
 ·exact e0.bJ.fresh (qu (x.above y c (fG h)))
 ·unfold start;show _=N.length;rw[ah,π,gm];lia
theorem L9{CX:sd}{P:ag}{w:av}{K:η}{mg:ν->Option ε}{base:Ψ}{k:Nat}{f:ζ}{name qual:ν}{params:Arguments}{body:List aM}{scope:eV}{dV kV doc pm cdv ct oc:ε}{an od:Option ζ}
  {osl:Array (Option ε)} {N ps:List ν} {sp:Sp} (lk:K.lookup f=some ⟨oc,od,.func (gT name qual params body scope dV kV doc pm an cdv ct),osl⟩) (g7:ky K cdv qual=true) (S:bp N ps scope)
  (len:∀vs H Q E,sp vs H Q E->vs.length=ps.length)
  (ia:∀(A:aJ) (outer:List dq) (s:θ) (H:Hp) (vs:List V) (Q:VK) (E:XK),dW k (A.deeper (envOfC qual scope s.heap.objs.size f cdv))->sp vs H Q E ->
   ∃t,nZ (iJ CX P w K mg base N qual scope f cdv A outer s H E) body t/\t { nx:=fun _ H'=>Q .aB H',rt:=Q } (start N vs) H):
  j5 P w K mg base CX (k+1) f (gT name qual params body scope dV kV doc pm an cdv ct) ps sp:=by
 refine⟨len,fun A outer s H args us vs Q E hr e0 hb r uH=>?_⟩;have hl:=len _ _ _ _ uH;have KX:K.In s.heap:=e0.mod.uD.keeps fun b o e=>(e0.bs b o e).1;have lim:s.heap.NoLimit:=e0.mod.nolimit.keeps fun b o e=>(e0.bs b o e).1;have hkind:∀y∈ps.zip us,scope.names.lookup y.1=some .local∨(scope.names.lookup y.1=some .cell/\((cellsFrom (s.heap.objs.size+1) scope.names []).lookup y.1).isSome=true):=fun⟨n,v⟩ hy=>by
  rcases S.par n (gj hy).1 with q|q
  ·exact .inl q
  ·exact .inr ⟨q,lj _ _ _ (.inl q)⟩
 refine lT hr.depth (KX _ _ lk) rfl S.co S.gen rfl (oj KX g7) (hb _ _ _ _ ?_);refine jm S.kind hkind fun env he s1 x=>?_;subst he;refine⟨lim.keeps x.toInCall.keep,codeAny_func ?_⟩;obtain⟨t,ht,hq⟩:=ia A outer s H vs Q E (hr.deeper _) uH;have I:Inv (iJ CX P w K mg base N qual scope f cdv A outer s H E) [] (start N vs) H s1:=Ma S hr.hd e0 hl r x;refine cS (ht [] s1 (start N vs) H _ I hq) (fun fl s' hs=>?_) fun e s' hs=>hs;have fin:∀{σ':St} {H':Hp} {v:V} {u:ε},Inv (iJ CX P w K mg base N qual scope f cdv A outer s H E) [] σ' H' s'->RelV v u->Q v H'->CE outer P w H s Q u s':=
  fun {σ' H' v u} J rv q=>⟨v,H',J.os,J.bare,J.base,J.bJ,rv,q⟩
 cases fl with
 |ret u=>
  obtain⟨v,σ',H',J,rv,q⟩:=hs;exact fin J rv q
 |next=>
  obtain⟨σ',H',J,q⟩:=hs;exact fin (v:=V.aB) (u:=aX) J rfl q
 |brk=>
  obtain⟨_,_,_,q⟩:=hs;exact cI q
 |cont=>
  obtain⟨_,_,_,q⟩:=hs;exact cI q
end L2
namespace L2
open PySem PySem.Spec PyProof.Rows
section
variable {X:Cx} {x:ν} {p pos:aN} {e:υ} {es:List υ} {t:TA} {id T:String} {r:List V->Hp->VK->Prop}
def C2(r:List V->Hp->VK->Prop)(t:TA):TE:=fun σ H Q=>t σ H fun vs H1=>r vs H1 Q
theorem sI(hc:ku X (.builtin id) r)(hg:Gl X x)(hm:X.mg x=none)(hv:gS x=some (.builtin id))(ha:PA X (e::es) t)(hn:x≠"__name__":=by decide)(hdb:(x==("__debug__":ν))=false:=by decide)
  (he:bI (e::es) X.env=(false,eval e X.env)::bI es X.env:=by rfl) (hpl:(backTo pos (bI es X.env)).any (·.1)=false:=by rfl):PE X (.Call (.Name x p) (e::es) [] pos) (C2 r t):=by
 intro pins s σ H Q I h;refine eR (xJ I hg hm hv ?_ hn hdb);exact PyProof.Rows.callWith_builtin1 (bO (ha pos pins s σ H _ I h) fun us s1 ⟨vs,H1,I1,r1,q1⟩=>hc pins s1 σ H1 vs us Q I1 r1 q1) he hpl
theorem Fj(hc:ku X (.type T) r)(hg:Gl X x)(hm:X.mg x=none)(hv:gS x=some (.type T))(ha:PA X (e::es) t)(hn:x≠"__name__":=by decide)(hdb:(x==("__debug__":ν))=false:=by decide)
  (he:bI (e::es) X.env=(false,eval e X.env)::bI es X.env:=by rfl) (hpl:(backTo pos (bI es X.env)).any (·.1)=false:=by rfl):PE X (.Call (.Name x p) (e::es) [] pos) (C2 r t):=by
 intro pins s σ H Q I h;refine eR (xJ I hg hm hv ?_ hn hdb);exact fW (bO (ha pos pins s σ H _ I h) fun us s1 ⟨vs,H1,I1,r1,q1⟩=>hc pins s1 σ H1 vs us Q I1 r1 q1) he hpl
end
end L2
namespace HT
open PySem PyProof.Rows
def lexLt:List Int->List Int->Bool
 |[],[]=>false
 |[],_::_=>true
 |_::_,[]=>false
 |x::xs,y::ys=>if x=y then lexLt xs ys else decide (x<y)
theorem W8(x y:Int)(xs ys:List Int):lexLt (x::xs) (y::ys)=if x=y then lexLt xs ys else decide (x<y):=rfl
theorem W7:lexLt [] []=false:=rfl
theorem W6(y:Int)(ys:List Int):lexLt [] (y::ys)=true:=rfl
theorem W5(x:Int)(xs:List Int):lexLt (x::xs) []=false:=rfl
theorem Wr(A:aJ)(s:θ)(a:Int)(t:Tok)(c:Int)(u:Tok):∃e,SeqAt.EqAt A s (.int a t) (.int c u) e/\(e=true↔a=c):=
 ⟨(a==c),SeqAt.EqAt.int_int a t c u,by simp⟩
theorem Wq(A:aJ)(s:θ)(a:Int)(t:Tok)(c:Int)(u:Tok)(prog:ag)(w:av)(E:ε->θ->Prop)(Q:ε->θ->Prop)(h:Q (.bool (decide (a<c))) s):
  ρ (model prog w) A (richCompare .Lt (.int a t) (.int c u)) Q E s:=
 (PyProof.Rows.lt_int h:ρ (model prog w) A (compareOp .Lt (.int a t) (.int c u)) Q E s)
section
open PySem.SeqAt
open PySem.AutoSeq1 (wpAny_loadPart')
open PySem.MeetsSeq PySem.MeetsSeq2 PySem.MeetsSeq3
theorem Wp(l b:ζ)(items items2:Array ε)(n n2:Nat)(dd dd2:Option ζ)(sl sl2:Array (Option ε))(ns ms:List Int)(hi:gL items.toList ns)(hj:gL items2.toList ms):
  Meets (di.«tuple.__lt__» ⟨[.ref l,.ref b],[]⟩)
   (fun _ R s=>s.heap.get? l=some { cls:=.type "tuple",dict:=dd,data:=.seq items n,slots:=sl }/\s.heap.get? b=some { cls:=.type "tuple",dict:=dd2,data:=.seq items2 n2,slots:=sl2 } ∧
    R (.ok (.ret (.bool (lexLt ns ms)))) s):=
 .of_wp fun prog w A R s h=>by
  obtain⟨hp,g,d,tk,os⟩:=s;obtain⟨hl,hb,h⟩:=h;have f2:=AutoSeq1.sub_tuple_tuple;have z1:items.size=ns.length:=by rw[←hi.length];simp
  have z2:items2.size=ms.length:=by rw[←hj.length];simp
  wp_walk using wpAny_loadPart' hl,wpAny_loadPart' hb,lL _ (fun rest b s'=>b.1=none/\s'=⟨hp,g,d,tk,os⟩/\∃(vs ws:List ε) (ns' ms':List Int),rest=vs.zip ws ∧
   gL vs ns'/\gL ws ms'/\ns'.length+items2.size=ms'.length+items.size/\R (.ok (.ret (.bool (lexLt ns' ms')))) ⟨hp,g,d,tk,os⟩) _
  case turn=>
   rintro⟨y,x⟩ rest b s' ⟨hb',rfl,vs,ws,ns',ms',hz,hvi,hwi,hlen,hR⟩;cases hvi with
   |nil=>rw[List.zip_nil_left] at hz;cases hz
   |cons a t hvi'=>
    cases hwi with
    |nil=>rw[List.zip_nil_right] at hz;cases hz
    |cons c u hwi'=>
     rw[kf] at hz;injection hz with hyx hrest;injection hyx with hy hx;subst hy hx;rw[W8] at hR;simp only[az] at hlen;obtain⟨e,he,hiff⟩:=Wr A.in1 ⟨hp,g,d,tk,os⟩ a t c u;refine δ (he prog w _ _ ?_);cases e with
     |true=>
      rw[if_pos (hiff.mp rfl)] at hR;wp_walk;exact⟨rfl,rfl,_,_,_,_,hrest,hvi',hwi',by lia,hR⟩
     |false=>
      rw[if_neg (fun q=>absurd (hiff.mpr q) ay)] at hR;have hri:=Wq A.in1 ⟨hp,g,d,tk,os⟩ a t c u prog w;wp_walk using hri;exact⟨_,rfl,by simpa using hR⟩
  case fin=>
   rintro⟨b1,b2⟩ s' ⟨hb',rfl,vs,ws,ns',ms',hz,hvi,hwi,hlen,hR⟩;simp only at hb';subst hb';have hv:lexLt ns' ms'=decide (items.size<items2.size):=by
    cases hvi with
    |nil=>
     cases hwi with
     |nil=>
      simp only[gp] at hlen;rw[W7];exact (decide_eq_false (by lia)).symm
     |cons c u hw=>
      simp only[gp,az] at hlen;rw[W6];exact (decide_eq_true (by lia)).symm
    |cons a t hv=>
     cases hwi with
     |nil=>
      simp only[gp,az] at hlen;rw[W5];exact (decide_eq_false (by lia)).symm
     |cons c u hw=>
      rw[kf] at hz;cases hz
   rw[hv] at hR;wp_walk;exact⟨_,rfl,by simpa [di.Tuple.tupleCompareSizes] using hR⟩
  case h=>
   exact⟨rfl,rfl,items.toList,items2.toList,ns,ms,rfl,hi,hj,by lia,h⟩
end
section
variable {prog:ag} {w:av} {A:aJ} {E:ε->θ->Prop} {s:θ}
theorem BA{l b:ζ}{items items2:Array ε}{ns ms:List Int}{Q:ε->θ->Prop}(hl:pP s.heap l items)(hb:pP s.heap b items2)(hi:gL items.toList ns)(hj:gL items2.toList ms)
  (hu:A.units<cLine) (h:Q (.bool (lexLt ns ms)) s):ρ (model prog w) A (compareOp .Lt (.ref l) (.ref b)) Q E s:=by
 obtain⟨⟨cls,dd,data,sl⟩,ho,hc,n,hd⟩:=id hl;obtain⟨⟨cls2,dd2,data2,sl2⟩,ho2,hc2,n2,hd2⟩:=id hb;simp only at hc hd hc2 hd2;subst hc hd hc2 hd2;exact richCompare_meets_room (op:=.Lt) ⟨_,ho,rfl⟩ ⟨_,ho2,rfl⟩ PySem.F.slot_tuple_lt PySem.F.entry_tuple_lt (PySem.F.args_tuple_lt_2 _ _) (Wp l b items items2 n n2 dd dd2 sl sl2 ns ms hi hj)
  ⟨ho,ho2,show fj (lexLt ns ms)≠ε.notImplemented/\Q (.bool (lexLt ns ms)) s from⟨(fun x=>nomatch x),h⟩⟩ hu
theorem HM{t b:ζ}{vs ws:List ε}{Q:ε->θ->Prop}(ht:pP s.heap t vs.toArray)(hb:pP s.heap b ws.toArray)(hv:vs≠[])
  (h1:ws=[]->Q (.ref t) s) (h2:ws≠[]->Q (.ref s.heap.objs.size) { s with heap:=s.heap.push { cls:=.type "tuple",data:=.seq (vs++ws).toArray }})
  (hsz:vs.length+ws.length≤aw):ρ (model prog w) A (binaryOp .Add (.ref t) (.ref b)) Q E s:=by
 obtain⟨⟨cls,dd,data,sl⟩,ho,hc,n,hd⟩:=id ht;obtain⟨⟨cls2,dd2,data2,sl2⟩,ho2,hc2,n2,hd2⟩:=id hb;simp only at hc hd hc2 hd2;subst hc hd hc2 hd2;have e:vs.toArray++ws.toArray=(vs++ws).toArray:=by simp
 by_cases hw:ws=[]
 ·exact qo ⟨_,ho,rfl⟩ ⟨_,ho2,rfl⟩ qm tT ll kH (j8 _ _)
   (tuple_addW1 t b vs.toArray ws.toArray n n2 dd dd2 sl sl2 (by simpa using hv) (by simp[hw])) ⟨ho,ho2,h1 hw⟩
 ·refine qo ⟨_,ho,rfl⟩ ⟨_,ho2,rfl⟩ qm tT ll kH (j8 _ _)
   (tuple_addW2 t b vs.toArray ws.toArray n n2 dd dd2 sl sl2 (by simpa using hv) (by simpa using hw) (by rw[ψ,ψ];exact hsz)) ⟨ho,ho2,?_⟩
  rw[e];exact h2 hw
def cu(n d:Nat):Option Int->Nat
 |none=>d
 |some v=>if v<0 then (v+(n:Int)).toNat else min v.toNat n
theorem DG(n d:Nat):cu n d none=d:=rfl
theorem HE(n d k:Nat):cu n d (some (k:Int))=min k n:=by
 show (if (k:Int)<0 then ((k:Int)+(n:Int)).toNat else min (k:Int).toNat n)=min k n;rw[if_neg (by lia),bY]
theorem Wo(n d:Nat)(hd:d≤n)(o:Option Int):cu n d o≤n:=by
 cases o with
 |none=>exact hd
 |some v=>
  show (if v<0 then (v+(n:Int)).toNat else min v.toNat n)≤n;by_cases hv:v<0
  ·rw[if_pos hv];lia
  ·rw[if_neg hv];exact Nat.min_le_right _ _
theorem L8(v:Int)(n d:Nat):(if v<0 then max (v+(n:Int)) 0 else min v (n:Int))=((cu n d (some v):Nat):Int):=by
 show (if v<0 then max (v+(n:Int)) 0 else min v (n:Int))=(((if v<0 then (v+(n:Int)).toNat else min v.toNat n):Nat):Int);by_cases hv:v<0
 ·simp only[if_pos hv];lia
 ·simp only[if_neg hv];lia
theorem Wn(lo hi:Option Int)(n:Nat):jR lo hi 1 (n:Int)=(((cu n 0 lo:Nat):Int),((cu n n hi:Nat):Int)):=by
 have h1:¬((1:Int)<0):=by lia
 unfold jR;simp only[h1,if_false];refine Prod.ext ?_ ?_
 ·cases lo with
  |none=>rfl
  |some v=>exact L8 v n 0
 ·cases hi with
  |none=>rfl
  |some v=>exact L8 v n n
theorem Wm(i j:Nat):gG (i:Int) (j:Int) 1=j-i:=by
 unfold gG;have h1:(1:Int) > 0:=by lia
 simp only[h1,if_true,Int.ediv_one];split<;>lia
theorem L7{v:ε}{o:Option Int}{Q:Option Int->θ->Prop}(p:mM v o)(h:Q o s):ρ (model prog w) A (di.Slice.slicePartIndex v) Q E s:=by
 cases p with
 |none=>exact slicePart_none h
 |int i t=>exact slicePart_int h
theorem pY{sl:ζ}{vl vu:ε}{lo hi:Option Int}{n:Nat}{Q:Int×Int×Nat->θ->Prop}(hs:s.heap.IsSliceOf sl vl vu .none)(pl:mM vl lo)(pu:mM vu hi)
  (h:Q (((cu n 0 lo:Nat):Int),1,cu n n hi-cu n 0 lo) s):ρ (model prog w) A (oV (.ref sl) (pure (n:Int))) Q E s:=by
 obtain⟨os,hos,hcs,hds⟩:=id hs;unfold oV di.Slice.sliceFields;refine δ (δ (bA hos hds (x:=vl) rfl (δ (bA hos hds (x:=vu) rfl (δ (bA hos hds (x:=.none) rfl (μ ?_)))))));refine δ (slicePart_none ?_);show ρ _ _ (if ((1:Int)==0)=true then _ else _) _ _ s;rw[if_neg (by decide)];refine δ (L7 pl (δ (L7 pu (δ (μ ?_)))));show ρ _ _ (match jR lo hi 1 (n:Int) with|(lo,hi)=>pure (lo,(1:Int),gG lo hi 1)) _ _ s
 rw[Wn lo hi n];show ρ _ _ (pure (((cu n 0 lo:Nat):Int),(1:Int),gG ((cu n 0 lo:Nat):Int) ((cu n n hi:Nat):Int) 1)) _ _ s;rw[Wm];exact μ h
theorem Wl(xs:Array ε)(i k:Nat):((ar k).filterMap fun (m:Nat)=>xs[((i:Int)+(m:Int)*1).toNat]?).toArray=((xs.toList.drop i).take k).toArray:=by
 have e:(fun (m:Nat)=>xs[((i:Int)+(m:Int)*1).toNat]?)=fun m=>xs[i+m]?:=by
  funext m;have:((i:Int)+(m:Int)*1).toNat=i+m:=by lia
  rw[this]
 rw[e];have:=pick_run xs i k;rw[u6] at this;have e2:((fun x=>xs[x]?) ∘ fun x=>i+x)=fun m=>xs[i+m]?:=rfl;rw[e2] at this;rw[this]
theorem vC{t sl:ζ}{items:Array ε}{vl vu:ε}{lo hi:Option Int}{Q:ε->θ->Prop}(ht:pP s.heap t items)(hs:s.heap.IsSliceOf sl vl vu .none)(pl:mM vl lo)(pu:mM vu hi)
  (hw:¬(cu items.size 0 lo=0/\cu items.size items.size hi=items.size))
  (h:Q (.ref s.heap.objs.size) { s with heap:=s.heap.push { cls:=.type "tuple",data:=.seq ((items.toList.drop (cu items.size 0 lo)).take (cu items.size items.size hi-cu items.size 0 lo)).toArray }})
  (hsz:items.size≤aw):ρ (model prog w) A (getItem (.ref t) (.ref sl)) Q E s:=by
 have htake:sizeOk (.seq ((items.toList.drop (cu items.size 0 lo)).take (cu items.size items.size hi-cu items.size 0 lo)).toArray):=by
  show ((items.toList.drop (cu items.size 0 lo)).take (cu items.size items.size hi-cu items.size 0 lo)).toArray.size≤aw;rw[ψ,eP,qy,fI];lia
 have hj:cu items.size items.size hi≤items.size:=Wo _ _ (Φ _) hi;obtain⟨os,hos,hcs,hds⟩:=id hs;have hTs:s.TypeIs (.ref sl) "slice":=⟨os,hos,hcs⟩;unfold getItem
 try with_reducible refine bK ?_
 first|refine δ (μ ?_)|skip
 refine δ (wpAny_sequenceKey ht.typeIs (by decide) ?_);refine δ (cm (name:=fk "__getitem__") ht.typeIs cV
  (bU cV ht.typeIs entry_tuple_getitem ?_ (args_tuple_getitem _ _)))
 show ρ _ _ (oU (.ref t) >>= _) _ _ s;refine δ (tupleItemsOf_ ht ?_);refine δ (j6 hTs ?_);rw[if_pos (by decide)];refine δ (pY hs pl pu ?_);have hno:¬((((cu items.size 0 lo:Nat):Int)==0&&(1:Int)==1&&(cu items.size items.size hi-cu items.size 0 lo)==items.size)=true):=by
  intro q;rw[cR,cR] at q;have q1:((cu items.size 0 lo:Nat):Int)=0:=eq_of_beq q.1.1;have q2:cu items.size items.size hi-cu items.size 0 lo=items.size:=eq_of_beq q.2;exact hw ⟨by lia,by lia⟩
 show ρ _ _ (if (((cu items.size 0 lo:Nat):Int)==0&&(1:Int)==1&&(cu items.size items.size hi-cu items.size 0 lo)==items.size)=true then _ else _) _ _ s;rw[if_neg hno,Wl]
 first
  |exact δ (m:=gX _) (bz (μ ⟨_,rfl,μ h⟩) htake)
  |exact δ (m:=gX _) (bz (δ (μ (μ ⟨_,rfl,μ h⟩))) htake)
  |exact δ (δ (m:=gX _) (bz (μ (μ ⟨_,rfl,μ h⟩)) htake))
  |exact δ (δ (m:=gX _) (bz (μ ⟨_,rfl,μ h⟩) htake))
end
end HT
namespace L2
open PySem PySem.Spec PyProof.Rows
abbrev TO:=St->Hp->(Option Int->Hp->Prop)->Prop
def PO(X:Cx)(e:Option υ)(t:TO):Prop:=
 ∀(pins:List (ζ×aH)) (s:θ) (σ:St) (H:Hp) (Q:Option Int->Hp->Prop),Inv X pins σ H s->t σ H Q ->
  ρ (model X.prog X.w) X.A (evalPart e X.env) (fun u s'=>∃o H',Inv X pins σ H' s'/\mM u o/\Q o H') X.xe s
def HC:TO:=fun _ H Q=>Q none H
def Nk(t:TE):TO:=fun σ H Q=>t σ H fun x H1=>∃i,x=.int i/\Q (some i) H1
theorem intsAre_of{ns:List Int}:∀{us:List ε},bh (ns.map V.int) us->gL us ns:=by
 induction ns with
 |nil=>intro us r;rw[uX] at r;cases r;exact .nil
 |cons n ns ih=>
  intro us r;rw[aC] at r;cases r with
  |cons r1 r2=>
   obtain⟨t,e⟩:=r1;subst e;exact .cons n t (ih r2)
section
variable {X:Cx} {e:υ} {te:TE} {lo hi:Option υ} {tl th:TO} {pos p2:aN}
theorem Wk:PO X none HC:=by
 intro pins s σ H Q I h;rw[evalPart_none];exact μ ⟨none,H,I,.none,h⟩
theorem Wj(h:PE X e te):PO X (some e) (Nk te):=by
 intro pins s σ H Q I hw;rw[evalPart_some];refine bO (h pins s σ H _ I hw) fun u s1 ⟨x,H1,I1,r1,q1⟩=>?_;obtain⟨i,rfl,q⟩:=q1;obtain⟨t,rfl⟩:=r1;exact⟨some i,H1,I1,.int i t,q⟩
def yk(X:Cx)(r:V->Option Int->Option Int->Hp->VK->Prop):Prop:=
 ∀(pins:List (ζ×aH)) (s:θ) (σ:St) (H:Hp) (x:V) (v vl vu:ε) (lo hi:Option Int) (sl:ζ) (Q:VK),Inv X pins σ H s->RelV x v->s.heap.IsSliceOf sl vl vu .none->mM vl lo->mM vu hi->r x lo hi H Q ->
  ∃T id,typeLookup (.type T) "__getitem__" = pure (some (.builtin id))/\s.TypeIs v T/\ρ (model X.prog X.w) X.A (getItem v (.ref sl)) (EP X pins σ Q) X.xe s
theorem yk.or{r r':V->Option Int->Option Int->Hp->VK->Prop}(h:yk X r)(h':yk X r'):yk X (fun x lo hi H Q=>r x lo hi H Q∨r' x lo hi H Q):=by
 intro pins s σ H x v vl vu lo hi sl Q I rx hs pl pu q;rcases q with q|q
 ·exact h pins s σ H x v vl vu lo hi sl Q I rx hs pl pu q
 ·exact h' pins s σ H x v vl vu lo hi sl Q I rx hs pl pu q
def tSl(r:V->Option Int->Option Int->Hp->VK->Prop)(te:TE)(tl th:TO):TE:=fun σ H Q=>te σ H fun x H1=>tl σ H1 fun l H2=>th σ H2 fun u H3=>r x l u H3 Q
theorem Wi{r:V->Option Int->Option Int->Hp->VK->Prop}(hr:yk X r)(he:PE X e te)(hl:PO X lo tl)(hu:PO X hi th):PE X (.Subscript e (.Slice lo hi none p2) pos) (tSl r te tl th):=by
 intro pins s σ H Q I h;refine Subscript_ (bO (he pins s σ H _ I h) fun v s1 ⟨x,H1,I1,r1,q1⟩=>?_);refine wpAny_Slice (bO (hl pins s1 σ H1 _ I1 q1) fun vl s2 ⟨l,H2,I2,pl,q2⟩=>bO (hu pins s2 σ H2 _ I2 q2) fun vu s3 ⟨u,H3,I3,pu,q3⟩=>?_);rw[evalPart_none];refine μ ?_;have I4:Inv X pins σ H3 { s3 with heap:=s3.heap.push { cls:=.type "slice",data:=.fields #[vl,vu,.none]}}:=I3.kept (t':=s3.toks) fun b ob q=>ι _ q;obtain⟨T,id,hT,ht,hg⟩:=hr pins { s3 with heap:=s3.heap.push { cls:=.type "slice",data:=.fields #[vl,vu,.none]}} σ H3 x v vl vu l u s3.heap.objs.size Q I4 r1 (Ψ.IsSliceOf.new ..) pl pu q3;show ρ (model X.prog X.w) X.A (subscriptTail e (.Slice lo hi none p2) v (.ref s3.heap.objs.size)) (EP X pins σ Q) X.xe { s3 with heap:=s3.heap.push { cls:=.type "slice",data:=.fields #[vl,vu,.none]}};exact tail_any (ops:=[.ref s3.heap.objs.size,v]) ht hT hg (by with_unfolding_all rfl)
def uL(xs:List V)(lo hi:Option Int):List V:=(xs.drop (HT.cu xs.length 0 lo)).take (HT.cu xs.length xs.length hi-HT.cu xs.length 0 lo)
theorem L6(xs:List V)(lo hi:Option Int):(uL xs lo hi).length≤xs.length:=by
 unfold uL;rw[eP,qy];lia
def OS(K:η):V->Option Int->Option Int->Hp->VK->Prop:=fun x lo hi H Q=>∃a xs,x=.ref a/\cL K H a xs ∧
 ¬(HT.cu xs.length 0 lo=0/\HT.cu xs.length xs.length hi=xs.length)/\∀p,H p=none->Q (.ref p) (upd H p (.tup (uL xs lo hi)))
theorem Ib:yk X (OS X.K):=by
 intro pins s σ H x v vl vu lo hi sl Q I rx hs pl pu h;obtain⟨a,xs,rfl,hx,hw,q⟩:=h;cases rx;obtain⟨its,r,ht,hz⟩:=I.tuple hx;have hlen:its.toArray.size=xs.length:=by rw[ψ];exact r.length.symm
 refine⟨"tuple",_,cV.lookup,ht.typeIs,?_⟩;refine HT.vC ht hs pl pu (by rw[hlen];exact hw) ?_ (by rw[hlen];exact hz);rw[hlen];refine⟨.ref s.heap.objs.size,_,I.laid (t':=s.toks) (o:=.tup (uL xs lo hi)) (fun b ob q=>ι _ q) (Φ _) ?_,rfl,q _ (I.bJ.fresh (Φ _))⟩;exact⟨aD (L6 xs lo hi) hz,_,(r.drop (HT.cu xs.length 0 lo)).take (HT.cu xs.length xs.length hi-HT.cu xs.length 0 lo),kZ.new _ _⟩
def Ig(K:η):R2:=fun x y H Q=>∃a b ns ms,x=.ref a/\y=.ref b/\cL K H a (ns.map V.int)/\cL K H b (ms.map V.int)/\Q (.bl (HT.lexLt ns ms)) H
theorem Wh(hu:X.A.units<cLine):eZ X (compareOp .Lt) (Ig X.K):=by
 intro pins s σ H x y v u Q I rx ry h;obtain⟨a,b,ns,ms,rfl,rfl,ha,hb,q⟩:=h;cases rx;cases ry;obtain⟨its,r1,p1,_⟩:=I.tuple ha;obtain⟨its2,r2,p2,_⟩:=I.tuple hb;have i1:gL its.toArray.toList ns:=intsAre_of r1;have i2:gL its2.toArray.toList ms:=intsAre_of r2;exact HT.BA p1 p2 i1 i2 hu ⟨.bl (HT.lexLt ns ms),H,I,rfl,q⟩
def Gv(K:η):R2:=fun x y H Q=>∃a b xs ys,x=.ref a/\y=.ref b/\cL K H a xs/\cL K H b ys/\xs≠[]/\xs.length+ys.length≤aw ∧
 (ys=[]->Q (.ref a) H)/\(ys≠[]->∀p,H p=none->Q (.ref p) (upd H p (.tup (xs++ys))))
theorem bh.xW{xs:List V}{us:List ε}(r:bh xs us):us=[]↔xs=[]:=by
 cases r with
 |nil=>simp
 |cons _ _=>simp
theorem HH:eZ X (binaryOp .Add) (Gv X.K):=by
 intro pins s σ H x y v u Q I rx ry h;obtain⟨a,b,xs,ys,rfl,rfl,ha,hb,hx,hz,q1,q2⟩:=h;cases rx;cases ry;obtain⟨its,r1,p1,_⟩:=I.tuple ha;obtain⟨its2,r2,p2,_⟩:=I.tuple hb;refine HT.HM p1 p2 (fun z=>hx (r1.xW.mp z)) (fun z=>⟨.ref a,H,I,rfl,q1 (r2.xW.mp z)⟩) (fun z=>?_) (by rw[←r1.length,←r2.length];exact hz);refine⟨.ref s.heap.objs.size,_,I.laid (t':=s.toks) (o:=.tup (xs++ys)) (fun b ob q=>ι _ q) (Φ _) ?_,rfl,q2 (fun w=>z (r2.xW.mpr w)) _ (I.bJ.fresh (Φ _))⟩;exact⟨by rw[ah];exact hz,_,r1.append r2,kZ.new _ _⟩
end
end L2
namespace L2
open PySem PySem.Spec PyProof.Rows
def wX(n:Nat)(i:Int):Option Nat:=if 0≤i then (if i<n then some i.toNat else none) else if -(n:Int)≤i then some (i+n).toNat else none
def mv{α:Type}(xs:List α)(i:Int):Option α:=(wX xs.length i).bind fun j=>xs[j]?
theorem L5{n:Nat}{i:Int}{j:Nat}(h:wX n i=some j):seqIndex? i n=some j/\j<n/\-(n:Int)≤i/\i<n:=by
 unfold wX at h;by_cases h0:0≤i
 ·rw[if_pos h0] at h;by_cases h1:i<n
  ·rw[if_pos h1] at h;have e:i.toNat=j:=aO h;exact⟨by rw[seqIndex_of h0 h1,e],by lia,by lia,h1⟩
  ·rw[if_neg h1] at h;cases h
 ·rw[if_neg h0] at h;by_cases h1:-(n:Int)≤i
  ·rw[if_pos h1] at h;have e:(i+n).toNat=j:=aO h;exact⟨by rw[seqIndex_neg (by lia) h1,e],by lia,h1,by lia⟩
  ·rw[if_neg h1] at h;cases h
theorem Fi{α:Type}{xs:List α}{i:Int}{v:α}(h:mv xs i=some v):∃j,seqIndex? i xs.length=some j/\xs[j]?=some v/\j<xs.length/\-(xs.length:Int)≤i/\i<xs.length:=by
 unfold mv at h;cases e:wX xs.length i with
 |none=>rw[e] at h;cases h
 |some j=>
  rw[e] at h;obtain⟨h1,h2,h3,h4⟩:=L5 e;exact⟨j,h1,h,h2,h3,h4⟩
theorem Bf{α:Type}{xs:List α}{j:Nat}{v:α}(h:xs[j]?=some v):mv xs (j:Int)=some v:=by
 have hj:j<xs.length:=(au.mp h).1;have e:wX xs.length (j:Int)=some j:=by
  unfold wX;rw[if_pos (by lia),if_pos (by lia)];simp
 unfold mv;rw[e];exact h
def rX(b:υ):Prop:=∀o i,subscripted b false o i=operate [o,i] (getItem o i)
def xg(X:Cx)(r:R2):Prop:=
 ∀(value slice:υ) (pins:List (ζ×aH)) (s:θ) (σ:St) (H:Hp) (x y:V) (v u:ε) (Q:VK),Inv X pins σ H s->RelV x v->RelV y u->r x y H Q ->
  subscripted slice false v u=operate [v,u] (getItem v u)->ρ (model X.prog X.w) X.A (subscriptTail value slice v u) (EP X pins σ Q) X.xe s
def Dy(X:Cx)(id:String)(r:V->List V->Hp->VK->Prop):Prop:=
 ∀(pins:List (ζ×aH)) (s:θ) (σ:St) (H:Hp) (x:V) (xs:List V) (v:ε) (us:List ε) (Q:VK),Inv X pins σ H s->RelV x v->bh xs us->r x xs H Q ->
  ρ (model X.prog X.w) X.A (call (.builtin id) (v::us)) (EP X pins σ Q) X.xe s
section
variable {X:Cx} {a b:υ} {ta tb:TE} {pos:aN}
theorem xg.or{r r':R2}(h:xg X r)(h':xg X r'):xg X (fun x y H Q=>r x y H Q∨r' x y H Q):=by
 intro value slice pins s σ H x y v u Q I rx ry q hs;rcases q with q|q
 ·exact h value slice pins s σ H x y v u Q I rx ry q hs
 ·exact h' value slice pins s σ H x y v u Q I rx ry q hs
theorem L4{r:R2}(hr:xg X r)(ha:PE X a ta)(hb:PE X b tb)(hs:rX b):PE X (.Subscript a b pos) (C1 r ta tb):=by
 intro pins s σ H Q I h;exact Subscript_ (FZ ha hb I h fun v u s2 x y H2 I2 rx ry q=>hr a b pins s2 σ H2 x y v u Q I2 rx ry q (hs _ _))
def Im(K:η):R2:=fun x y H Q=>∃p xs i v,x=.ref p/\y=.int i/\fg K H p xs/\mv xs i=some v/\Q v H
def Ij(K:η):R2:=fun x y H Q=>∃p xs i v,x=.ref p/\y=.int i/\cL K H p xs/\mv xs i=some v/\Q v H
def Il:R2:=fun x y H Q=>∃z i c,x=.str z/\y=.int i/\z.length≤aw/\mv z.cps.toList i=some c/\Q (.str ⟨#[c]⟩) H
theorem HJ:xg X (Im X.K):=by
 intro value slice pins s σ H x y v u Q I rx ry h hs;obtain⟨p,xs,i,z,rfl,rfl,hq,he,q⟩:=h;cases rx;obtain⟨t,rfl⟩:=ry;obtain⟨its,r,pl,hz⟩:=I.list hq;obtain⟨j,h1,h2,h3,h4,h5⟩:=Fi he;obtain⟨w,ew,rw'⟩:=r.get h2;have hl:=r.length;have hn:=rT;have fin:EP X pins σ Q w s:=⟨z,H,I,rw',q⟩;by_cases h0:0≤i
 ·have hj:i.toNat=j:=by
   rw[seqIndex_of h0 h5] at h1;exact aO h1
  exact item_listR pl.isList h0 (by lia) (by rw[hj];simpa using ew) fin hs
 ·have hj:(i+(its.toArray.size:Int)).toNat=j:=by
   rw[seqIndex_neg (by lia) h4] at h1;rw[ψ,←hl];exact aO h1
  exact subscriptTail_builtinR (x:=w) pl.isList.typeIs slot_list_getitem.lookup
   (wpAny_getItem_list_neg (Q:=fun r s'=>r=w/\EP X pins σ Q r s') pl.isList (by lia) (by rw[ψ]<;>lia) (by lia) (by rw[hj];simpa using ew) ⟨rfl,fin⟩) hs
theorem MO:xg X (Ij X.K):=by
 intro value slice pins s σ H x y v u Q I rx ry h hs;obtain⟨p,xs,i,z,rfl,rfl,hq,he,q⟩:=h;cases rx;obtain⟨t,rfl⟩:=ry;obtain⟨its,r,pl,hz⟩:=I.tuple hq;obtain⟨j,h1,h2,h3,h4,h5⟩:=Fi he;obtain⟨w,ew,rw'⟩:=r.get h2;have hl:=r.length;have hn:=rT;have fin:EP X pins σ Q w s:=⟨z,H,I,rw',q⟩;exact subscriptTail_builtinR (x:=w) pl.typeIs slot_tuple_getitem.lookup
  (getItem_tuple (j:=j) (Q:=fun r s'=>r=w/\EP X pins σ Q r s') pl (by lia) (by lia) (by rw[ψ,←hl];exact h1) (by simpa using ew) ⟨rfl,fin⟩) hs
theorem Wg:xg X Il:=by
 intro value slice pins s σ H x y v u Q I rx ry h hs;obtain⟨z,i,c,rfl,rfl,hz,he,q⟩:=h;obtain⟨t,rfl⟩:=rx;obtain⟨t',rfl⟩:=ry;obtain⟨j,h1,h2,h3,h4,h5⟩:=Fi he;have hl:z.cps.toList.length=z.length:=by simp[ν.length]
 rw[hl] at h1 h4 h5;have hn:=rT;exact tail_any (typeIs_str s z t) slot_str_getitem.lookup (getItem_str (c:=c) (by
  have e1:decide (i < -(2^63:Int))=false:=decide_eq_false (by lia);have e2:decide (i≥2^63)=false:=decide_eq_false (by lia);rw[e1,e2,Bool.or_false]) (by rw[h1];simpa using h2) ⟨.str ⟨#[c]⟩,H,I.tok _,⟨_,rfl⟩,q⟩) hs
def Oj(K:η):R2:=fun x y H Q=>Im K x y H Q∨Ij K x y H Q∨Il x y H Q
theorem LZ:xg X (Oj X.K):=HJ.or (MO.or Wg)
theorem Wf(its:List ε)(n j:Nat)(u:ε):bx (·.setIfInBounds j u) { cls:=.type "list",data:=.seq its.toArray n }={ cls:=.type "list",data:=.seq (its.set j u).toArray n }:=by
 simp[bx]
theorem Inv.lst{pins:List (ζ×aH)}{σ:St}{H:Hp}{s:θ}{p:ζ}{xs:List V}(I:Inv X pins σ H s)(h:H p=some (.lst xs)):
  ∃(its:List ε) (n:Nat),bh xs its/\s.heap.get? p=some { cls:=.type "list",data:=.seq its.toArray n }/\xs.length≤aw:=by
 obtain⟨z,its,n,r,e⟩:=I.bJ p _ h;exact⟨its,n,r,e,z⟩
theorem Inv.ML{pins:List (ζ×aH)}{σ:St}{H:Hp}{s:θ}{p:ζ}{xs ys:List V}{its its':List ε}{n n':Nat}{f:aH->aH}(I:Inv X pins σ H s)(h:H p=some (.lst xs))
  (ho:s.heap.get? p=some { cls:=.type "list",data:=.seq its.toArray n }) (hf:f { cls:=.type "list",data:=.seq its.toArray n }={ cls:=.type "list",data:=.seq its'.toArray n' }) (r:bh ys its') (hz:ys.length≤aw) (t:Nat):
  Inv X pins σ (upd H p (.lst ys)) { s with heap:=s.heap.update p f,toks:=t }:=by
 have e:(s.heap.update p f).get? p=some { cls:=.type "list",data:=.seq its'.toArray n' }:=by
  rw[ck f ho (by rw[hf]<;>rfl),hf]
 refine I.write (x:=p) (e:=p) (by rw[h];trivial) (.inl rfl) (fun b u hb q=>(bB _ _ (dy hb)).trans q) ⟨_,e⟩ ?_;exact⟨hz,its',n',r,e⟩
def Gr:V->V->V->Hp->(Hp->Prop)->Prop:=fun o i v H Q=>∃p xs k j,o=.ref p/\i=.int k/\H p=some (.lst xs)/\wX xs.length k=some j/\Q (upd H p (.lst (xs.set j v)))
theorem set_list:M4 X Gr:=by
 intro pins s σ H o i v ov iv u Q I ro ri rv h;obtain⟨p,xs,k,j,rfl,rfl,hp,hj,q⟩:=h;cases ro;obtain⟨t,rfl⟩:=ri;obtain⟨its,n,r,ho,hz⟩:=I.lst hp;obtain⟨h1,h2,h3,h4⟩:=L5 hj;have hl:=r.length;have hn:=rT;have I':Inv X pins σ (upd H p (.lst (xs.set j v))) { s with heap:=s.heap.update p (bx (·.setIfInBounds j u))}:=
  I.ML hp ho (Wf its n j u) (r.set rv j) (by rw[List.length_set];exact hz) s.toks
 by_cases h0:0≤k
 ·have hk:k.toNat=j:=by
   rw[seqIndex_of h0 h4] at h1;exact aO h1
  exact PySem.W.ki_setAt ho h0 (by lia) (by rw[ψ,←hl];exact h4) (by rw[hk];exact⟨_,I',q⟩)
 ·have hk:(k+(its.toArray.size:Int)).toNat=j:=by
   rw[seqIndex_neg (by lia) h3] at h1;rw[ψ,←hl];exact aO h1
  exact PySem.W.ki_setBack ho (by lia) (by rw[ψ,←hl];exact h3) (by lia) (by rw[hk];exact⟨_,I',q⟩)
theorem We(lo hi:Option Int)(n:Nat):(sliceBounds lo hi none n).1=((HT.cu n 0 lo:Nat):Int)/\(sliceBounds lo hi none n).2.1=((HT.cu n n hi:Nat):Int)/\(sliceBounds lo hi none n).2.2=1:=by
 refine⟨?_,?_,rfl⟩
 ·cases lo with
  |none=>simp[sliceBounds,HT.cu]
  |some i=>
   simp only[sliceBounds,HT.cu,wM,show (1:Int) > 0 by decide,if_true];by_cases h:i<0
   ·simp only[h,if_true]<;>lia
   ·simp only[h,if_false]<;>lia
 ·cases hi with
  |none=>simp[sliceBounds,HT.cu]
  |some i=>
   simp only[sliceBounds,HT.cu,wM,show (1:Int) > 0 by decide,if_true];by_cases h:i<0
   ·simp only[h,if_true]<;>lia
   ·simp only[h,if_false]<;>lia
theorem Wd(its:List ε)(lo hi:Option Int):slicePick its.toArray lo hi none=((its.drop (HT.cu its.length 0 lo)).take (HT.cu its.length its.length hi-HT.cu its.length 0 lo)).toArray:=by
 obtain⟨h1,h2,h3⟩:=We lo hi its.toArray.size;unfold slicePick;rw[h1,h2,h3];simp only[sliceRange_one,pick_run,ψ]<;>rfl
def OT(K:η):V->Option Int->Option Int->Hp->VK->Prop:=fun x lo hi H Q=>∃a xs,x=.ref a/\fg K H a xs/\∀p,H p=none->Q (.ref p) (upd H p (.lst (uL xs lo hi)))
theorem Wc:yk X (OT X.K):=by
 intro pins s σ H x v vl vu lo hi sl Q I rx hs pl pu h;obtain⟨a,xs,rfl,hx,q⟩:=h;cases rx;obtain⟨its,r,ht,hz⟩:=I.list hx;have hlen:=r.length;refine⟨"list",_,slot_list_getitem.lookup,ht.isList.typeIs,?_⟩;refine wpAny_getItem_list_slice ht.isList hs pl pu .none (by simp) ?_ (by rw[ψ]<;>lia)
 rw[Wd,←hlen];refine⟨.ref s.heap.objs.size,_,I.laid (t':=s.toks) (o:=.lst (uL xs lo hi)) (fun b ob q=>ι _ q) (Φ _) ?_,rfl,q _ (I.bJ.fresh (Φ _))⟩;exact⟨aD (L6 xs lo hi) hz,_,0,(r.drop (HT.cu xs.length 0 lo)).take (HT.cu xs.length xs.length hi-HT.cu xs.length 0 lo),ae _ rfl⟩
theorem Wb:ku X (.builtin "len") (fun xs H Q=>∃p ys,xs=[.ref p]/\(fg X.K H p ys∨cL X.K H p ys)/\Q (.int ys.length) H):=by
 intro pins s σ H xs us Q I r h;obtain⟨p,ys,rfl,hq,q⟩:=h;obtain⟨u,rfl,rx⟩:=vals1 r;cases rx;have hn:=rT;rcases hq with hq|hq
 ·obtain⟨its,r',pl,hz⟩:=I.list hq;have hlen:=r'.length;exact Calls.call_len_list pl.isList (by simp only[ψ]<;>lia) ⟨.int ys.length,H,I.tok _,⟨s.toks+1,by rw[ψ,hlen]⟩,q⟩
 ·obtain⟨its,r',pl,hz⟩:=I.tuple hq;have hlen:=r'.length;exact len_tuple pl (by simp only[ψ]<;>lia) ⟨.int ys.length,H,I.tok _,⟨s.toks+1,by rw[ψ,hlen]⟩,q⟩
theorem Wa:ku X (.type "tuple") (fun xs H Q=>∃p ys,xs=[.ref p]/\((fg X.K H p ys/\∀l,H l=none->Q (.ref l) (upd H l (.tup ys)))∨(cL X.K H p ys/\Q (.ref p) H))):=by
 intro pins s σ H xs us Q I r h;obtain⟨p,ys,rfl,h⟩:=h;obtain⟨u,rfl,rx⟩:=vals1 r;cases rx;rcases h with⟨hq,q⟩|⟨hq,q⟩
 ·obtain⟨its,r',pl,hz⟩:=I.list hq;have hlen:=r'.length;refine call_tuple_list pl.isList (fun h' kp=>?_) (by simp only[ψ]<;>lia)
  have I1:Inv X pins σ H { s with heap:=h' }:=I.kept (t':=s.toks) kp;have I2:Inv X pins σ (upd H h'.objs.size (.tup ys)) { s with heap:=h'.push { cls:=.type "tuple",data:=.seq its.toArray }}:=
   I1.laid (t':=s.toks) (fun b o e=>ι _ e) (Φ _) (show cM X.prog X.w _ _ _ (.tup ys) from⟨hz,its,r',kZ.new _ _⟩)
  exact⟨.ref h'.objs.size,_,I2,rfl,q _ (I1.bJ.fresh (Φ _))⟩
 ·obtain⟨its,r',pl,hz⟩:=I.tuple hq;exact call_tuple_same pl ⟨.ref p,H,I,rfl,q⟩
def Oh(K:η)(T:String)(x:V)(H:Hp):Prop:=match x with
 |.str _=>T="str"
 |.int _=>T="int"
 |.ref p=>(T="list"/\∃xs,fg K H p xs)∨(T="tuple"/\∃o,K.lookup p=some o/\o.cls=.type "tuple"/\o.dict=none) ∨
   (T="dict"/\((∃kvs,H p=some (.dK kvs))∨∃kvs,H p=some (.dT kvs)))∨(T="set"/\∃S n,H p=some (.set S n))
 |_=>False
theorem V9{pins:List (ζ×aH)}{σ:St}{H:Hp}{s:θ}{T:String}{x:V}{v:ε}(I:Inv X pins σ H s)(r:RelV x v)(ty:Oh X.K T x H):
  s.TypeIs v T/\∀a,v=.ref a->∃ob,s.heap.get? a=some ob/\ob.dict=none:=by
 cases x with
 |str z=>
  obtain⟨t,rfl⟩:=r;cases (show T="str" from ty);exact⟨typeIs_str s z t,fun _ e=>nomatch e⟩
 |int i=>
  obtain⟨t,rfl⟩:=r;cases (show T="int" from ty);exact⟨typeIs_int s i t,fun _ e=>nomatch e⟩
 |ref p=>
  cases r;rcases ty with⟨rfl,xs,hq⟩|⟨rfl,o,hk,hc,hd⟩|⟨rfl,hk⟩|⟨rfl,S,n,hk⟩
  ·obtain⟨its,_,pl,_⟩:=I.list hq;refine⟨pl.isList.typeIs,fun a e=>?_⟩;cases e;obtain⟨o,n,e,c,hd,_⟩:=pl;exact⟨o,e,hd⟩
  ·refine⟨⟨o,I.hZ p o hk,hc⟩,fun a e=>?_⟩;cases e;exact⟨o,I.hZ _ o hk,hd⟩
  ·have z:∃o,s.heap.get? p=some o/\o.ExactDict:=by
    rcases hk with⟨kvs,hk⟩|⟨kvs,hk⟩
    ·obtain⟨_,_,_,_,o,_,_,e,ex,_⟩:=I.bJ p _ hk;exact⟨o,e,ex⟩
    ·obtain⟨_,_,_,_,o,_,_,e,ex,_⟩:=I.bJ p _ hk;exact⟨o,e,ex⟩
   obtain⟨o,e,ex⟩:=z;refine⟨⟨o,e,ex.1⟩,fun a e2=>?_⟩;cases e2;exact⟨o,e,ex.2.1⟩
  ·obtain⟨o,_,_,_,e,ex,_⟩:=I.bJ p _ hk;refine⟨⟨o,e,ex.1⟩,fun a e2=>?_⟩;cases e2;exact⟨o,e,ex.2.1⟩
 |_=>exact cI ty
def Ia(K:η)(T:String)(r:V->List V->Hp->VK->Prop)(to:TE)(t:TA):TE:=fun σ H Q=>to σ H fun x H1=>Oh K T x H1/\t σ H1 fun xs H2=>r x xs H2 Q
variable {o e:υ} {es:List υ} {to:TE} {t:TA} {name:ν} {apos cpos:aN} {T id:String} {r:V->List V->Hp->VK->Prop}
theorem V8(pa:PlainAttrs T)(slot:Slot T name id)(hty:typeOf (.builtin id)=pure (.type "method_descriptor"))(hm:Dy X id r)(ho:PE X o to)(ha:PA X (e::es) t)
  (kn:attributeBase o name X.env (eval o X.env)=eval o X.env:=by rfl)
  (FD:((backTo cpos (bI (e::es) X.env)).all (fun x=>!x.1)&&(backToKw cpos (keywordEach [] X.env)).all (fun x=>x.1.isSome)
   && decide ((e::es).length+([]:List sC).length+(if ([]:List sC).isEmpty then 0 else 1)<30))=true:=by rfl)
  (pL:(apos.endLine==cpos.line)=true:=by rfl) (hs:bI (e::es) X.env=(false,eval e X.env)::bI es X.env:=by rfl) (hplain:(backTo cpos (bI es X.env)).any (·.1)=false:=by rfl):
  PE X (.Call (.Attribute o name apos) (e::es) [] cpos) (Ia X.K T r to t):=by
 intro pins s σ H Q I h;refine wpAny_Call_method_late kn FD pL rfl (bO (ho pins s σ H _ I h) fun v s1 ⟨x,H1,I1,r1,ty,q1⟩=>?_);obtain⟨h1,h2⟩:=V9 I1 r1 ty;refine⟨T,id,pa,slot,hty,h1,h2,?_⟩;have hA:=ha cpos pins s1 σ H1 _ I1 q1;rw[hs] at hA ⊢;refine ly (by show (false||(backTo cpos (bI es X.env)).any (·.1))=false;rw[hplain]<;>rfl) (tN ?_)
 exact bO hA fun us s2 ⟨vs,H2,I2,r2,q2⟩=>hm pins s2 σ H2 x vs v us Q I2 r1 r2 q2
/- xs.append(e),list.index on a module's tuple .. are Dy facts of 06m -/
end
end L2
namespace L2
open PySem PySem.Spec PyProof.Rows
def M7(X:Cx)(id:String)(r:V->List V->Hp->VK->Prop):Prop:=
 ∀(pins:List (ζ×aH)) (s:θ) (σ:St) (H:Hp) (x:V) (xs:List V) (v:ε) (us:List ε) (Q:VK),Inv X pins σ H s->RelV x v->bh xs us->r x xs H Q ->
  ρ (model X.prog X.w) X.A (call (.builtin id) (v::us)) (EP X pins σ Q) X.xe s
theorem bh.one:∀{x:V} {us:List ε},bh [x] us->∃u,us=[u]/\RelV x u
 |_,_,.cons r .nil=>⟨_,rfl,r⟩
theorem bh.zero:∀{us:List ε},bh [] us->us=[]
 |_,.nil=>rfl
theorem bh.eraseIdx:∀{xs:List V} {us:List ε} (i:Nat),bh xs us->bh (xs.eraseIdx i) (us.eraseIdx i)
 |_,_,_,.nil=>.nil
 |_,_,0,.cons _ t=>t
 |_,_,i+1,.cons r t=>.cons r (bh.eraseIdx i t)
theorem bh.rep{xs:List V}{us:List ε}(h:bh xs us):∀k:Nat,bh (aA k xs).flatten (aA k us).flatten
 |0=>.nil
 |k+1=>by
  rw[dj,dj,gz,gz];exact bh.append h (bh.rep h k)
theorem Fh{α:Type}:∀(l:List α) (i:Nat),(l.eraseIdx i).length≤l.length
 |[],_=>Φ _
 |_::_,0=>rG _
 |_::r,i+1=>Nat.succ_le_succ (Fh r i)
theorem foldl_rep(its:List ε):∀(k:Nat) (acc:List ε),
  xq (fun x1 x2=>x1++x2) acc.toArray (aA k its.toArray)=(acc++(aA k its).flatten).toArray
 |0,acc=>by simp
 |k+1,acc=>by
  have e:acc.toArray++its.toArray=(acc++its).toArray:=by simp
  have e2:(acc++its)++(aA k its).flatten=acc++(aA (k+1) its).flatten:=by
   rw[dj,gz,iD]
  rw[←e2,←foldl_rep its k (acc++its),←e,dj,qU]
section
variable {X:Cx} {pins:List (ζ×aH)} {σ:St} {H:Hp} {s:θ} {l b:ζ} {xs ys zs:List V}
theorem Inv.Fz{its its':List ε}{n:Nat}{f:Array ε->Array ε}{t':Nat}(I:Inv X pins σ H s)(hH:H l=some (.lst xs))
  (e:s.heap.get? l=some { cls:=.type "list",data:=.seq its.toArray n }) (hf:f its.toArray=its'.toArray) (hv:bh ys its') (hz:ys.length≤aw):
  Inv X pins σ (upd H l (.lst ys)) { s with heap:=s.heap.update l (bx f),toks:=t' }:=by
 have q:=PySem.IsL.update e f;rw[hf] at q;refine I.write (x:=l) (e:=l) (by rw[hH];exact trivial) (.inl rfl) (fun b' u hb hu=>(bB s.heap (bx f) (dy hb)).trans hu) ⟨_,q⟩ ?_;exact⟨hz,its',_,hv,q⟩
theorem Inv.BC{its:List ε}{t':Nat}(I:Inv X pins σ H s)(hv:bh ys its)(hz:ys.length≤aw):
  Inv X pins σ (upd H s.heap.objs.size (.lst ys)) { s with heap:=s.heap.push { cls:=.type "list",data:=.seq its.toArray },toks:=t' }:=
 I.laid (fun _ _ q=>ι _ q) (Φ _) ⟨hz,its,0,hv,ae _ rfl⟩
theorem Inv.fresh(I:Inv X pins σ H s):H s.heap.objs.size=none:=I.bJ.fresh (Φ _)
theorem Inv.sR(I:Inv X pins σ H s)(hH:H l=some (.lst xs)):xs.length≤aw/\∃(its:List ε) (n:Nat),bh xs its/\xs.length=its.length/\s.heap.get? l=some { cls:=.type "list",data:=.seq its.toArray n }:=by
 obtain⟨z,its,n,r,e⟩:=I.bJ l _ hH;exact⟨z,its,n,r,r.length,e⟩
theorem zD{n:Nat}(h:n≤aw):gY n=false:=by
 unfold gY;exact decide_eq_false (by lia)
end
section
variable {X:Cx}
def Ah:V->List V->Hp->VK->Prop:=fun x vs H Q=>∃l xs y,x=.ref l/\vs=[y]/\H l=some (.lst xs)/\xs.length<aw/\Q .aB (upd H l (.lst (xs++[y])))
theorem LY:M7 X "list.append" Ah:=by
 intro pins s σ H x vs v us Q I rx rv h;obtain⟨l,xs,y,rfl,rfl,hH,hz,q⟩:=h;cases rx;obtain⟨u,rfl,ru⟩:=rv.one;obtain⟨z,its,n,r,hl,e⟩:=I.sR hH;refine kv F.slot_list_append ⟨_,e,rfl⟩ F.entry_list_append (F.args_list_append_2 _ _) (PySem.list_append l its.toArray n u (by rw[ψ];lia)) ⟨e,?_⟩;refine⟨.aB,_,I.Fz (its':=its++[u]) hH e (by simp) (r.append (.cons ru .nil)) ?_,rfl,q⟩;rw[ah,gk];lia
def HF:V->List V->Hp->VK->Prop:=fun x vs H Q=>∃l b xs zs,x=.ref l/\vs=[.ref b]/\H l=some (.lst xs)/\H b=some (.lst zs)/\xs.length+zs.length≤aw/\Q .aB (upd H l (.lst (xs++zs)))
theorem abO:M7 X "list.extend" HF:=by
 intro pins s σ H x vs v us Q I rx rv h;obtain⟨l,b,xs,zs,rfl,rfl,hH,hB,hz,q⟩:=h;cases rx;obtain⟨u,rfl,ru⟩:=rv.one;cases ru;obtain⟨z,its,n,r,hl,e⟩:=I.sR hH;obtain⟨z2,its2,n2,r2,hl2,e2⟩:=I.sR hB;have hsz:its.toArray.size+its2.toArray.size≤aw:=by rw[ψ,ψ];lia
 have hlong:¬(!its.toArray.isEmpty&&gY (its.toArray.size+its2.toArray.size))=true:=by
  rw[zD hsz,Bool.and_false];exact ay
 refine kv F.slot_list_extend ⟨_,e,rfl⟩ F.entry_list_extend (F.args_list_extend_2 _ _)
  (AutoSeq1.list_extend_list_list_0 l its.toArray n b its2.toArray n2 hlong (by rw[ψ];lia) (by lia)) ⟨e,e2,?_⟩
 refine⟨.aB,_,I.Fz (its':=its++its2) hH e (by simp) (r.append r2) ?_,rfl,q⟩;rw[ah];lia
def Df:V->List V->Hp->VK->Prop:=fun x vs H Q=>∃l xs i k y,x=.ref l/\vs=[.int i]/\H l=some (.lst xs)/\-(2^63)≤i/\i<2^63/\seqIndex? i xs.length=some k/\xs[k]?=some y/\Q y (upd H l (.lst (xs.eraseIdx k)))
theorem Mt:M7 X "list.pop" Df:=by
 intro pins s σ H x vs v us Q I rx rv h;obtain⟨l,xs,i,k,y,rfl,rfl,hH,h1,h2,hk,hy,q⟩:=h;cases rx;obtain⟨u,rfl,ru⟩:=rv.one;obtain⟨t,rfl⟩:=ru;obtain⟨z,its,n,r,hl,e⟩:=I.sR hH;obtain⟨w,hw,rw'⟩:=r.get hy;refine kv F.slot_list_pop ⟨_,e,rfl⟩ F.entry_list_pop (F.args_list_pop_2 _ _)
  (MeetsSeq.list_pop_at l its.toArray n i t k w (fitsIndex_both h1 h2) (by rw[ψ,←hl];exact hk) (by rw[←aZ];exact hw) (by rw[ψ];lia)) ⟨e,?_⟩
 refine⟨y,_,I.Fz (its':=its.eraseIdx k) hH e ?_ (r.eraseIdx k) ?_,rw',q⟩
 ·show its.toArray.eraseIdxIfInBounds k=(its.eraseIdx k).toArray;rw[List.eraseIdxIfInBounds_toArray]
 ·have:=Fh xs k;lia
def Ip:R2:=fun x y H Q=>∃l b xs zs,x=.ref l/\y=.ref b/\H l=some (.lst xs)/\H b=some (.lst zs)/\xs.length+zs.length≤aw/\∀p,H p=none->Q (.ref p) (upd H p (.lst (xs++zs)))
theorem Mw:eZ X (binaryOp .Add) Ip:=by
 intro pins s σ H x y v u Q I rx ry h;obtain⟨l,b,xs,zs,rfl,rfl,hH,hB,hz,q⟩:=h;cases rx;cases ry;obtain⟨z,its,n,r,hl,e⟩:=I.sR hH;obtain⟨z2,its2,n2,r2,hl2,e2⟩:=I.sR hB;refine PySem.P.add_list e e2 ?_ (by rw[ψ,ψ];lia);have ea:its.toArray++its2.toArray=(its++its2).toArray:=by simp
 rw[ea];exact⟨.ref _,_,I.BC (t':=s.toks) (r.append r2) (by rw[ah];lia),rfl,q _ I.fresh⟩
def Ie:R2:=fun x y H Q=>∃l k xs,x=.ref l/\y=.int k/\H l=some (.lst xs)/\-(2^63)≤k/\k<2^63/\xs.length*k.toNat≤aw ∧
 ∀p,H p=none->Q (.ref p) (upd H p (.lst (aA k.toNat xs).flatten))
theorem len_rep{α:Type}(xs:List α)(k:Nat):(aA k xs).flatten.length=k*xs.length:=by
 induction k with
 |zero=>simp
 |succ k ih=>rw[dj,gz,ah,ih,Nat.succ_mul,Nat.add_comm]
theorem V7:eZ X (binaryOp .Mult) Ie:=by
 intro pins s σ H x y v u Q I rx ry h;obtain⟨l,k,xs,rfl,rfl,hH,h1,h2,hz,q⟩:=h;cases rx;obtain⟨t,rfl⟩:=ry;obtain⟨z,its,n,r,hl,e⟩:=I.sR hH;have hlen:its.toArray.size*k.toNat≤aw:=by rw[ψ,←hl];exact hz
 have hcap:¬its.toArray.size*k.toNat > (2^63-1) / 8:=by
  have:(aw:Nat)≤(2^63-1) / 8:=by decide
  lia
 have hfit:¬(!di.List.listFitsIndex k)=true:=by
  rw[fitsIndex_both h1 h2];exact ay
 have hlong:¬gY (its.toArray.size*k.toNat)=true:=by
  rw[zD hlen];exact ay
 have hnew:xq (fun x1 x2=>x1++x2) #[] (aA (if its.toArray.isEmpty=true then 0 else k.toNat) its.toArray)=(aA k.toNat its).flatten.toArray:=by
  have f0:∀m:Nat,xq (fun x1 x2=>x1++x2) #[] (aA m its.toArray)=(aA m its).flatten.toArray:=fun m=>by
   have:=foldl_rep its m [];rw[eG] at this;exact this
  rw[f0];cases its with
  |nil=>simp
  |cons a r'=>rw[if_neg (by simp)]
 refine wpAny_binaryOp_repeat_ref (T:="list") (U:="int") (by decide) ⟨_,e,rfl⟩ (fun s'=>typeIs_int s' k t) noFill_list_mul F.fills_int_mul F.slot_int_rmul repeat_list F.slot_int_index.lookup
  (kv F.slot_int_rmul (typeIs_int s k t) F.entry_int_rmul (F.args_int_rmul_2 _ _) (int___rmul___int_list k t l its.toArray n)
   ⟨e,rfl,⟨_,e,rfl⟩,kv F.slot_list_mul ⟨_,e,rfl⟩ F.entry_list_mul (F.args_list_mul_2 _ _) (AutoListH.list___mul___list_int_3 l its.toArray n k t hfit hcap hlong) ⟨e,?_⟩⟩)
 rw[hnew];exact⟨.ref _,_,I.BC (t':=s.toks) (r.rep k.toNat) (by rw[len_rep,iO];exact hz),rfl,q _ I.fresh⟩
end
end L2
namespace OB
open PySem PySem.W PySem.Calls PyProof.Rows
theorem V6{P:Params}{h:Ψ}:∀(ns:List Int) (vs:List ε),WellAll P h vs (ns.map WData.int)->gL vs ns:=by
 intro ns
 induction ns with
 |nil=>
  intro vs w;rw[uX] at w;cases w;exact .nil
 |cons n ns ih=>
  intro vs w;rw[aC] at w;cases w with
  |cons a b=>
   cases a;exact .cons _ _ (ih _ b)
theorem V5{l:OpenLaw}{n:Nat}(hn:l.most=some n){P:Params}{h:Ψ}{args:List WData}{vals:List ε}
  (BG:l.row.toRowW.claim.pre args=true) (hwl:WellAll P h vals args):
  ∃a vs ns,vals=[aF a]/\args=[WData.list (ns.map WData.int)]/\h.get? a=some { cls:=.type "list",data:=.seq vs.toArray }/\gL vs ns/\ns.length≤n:=by
 have hsh:WShape.hasAll [] args [.list .int]=true:=(pre_splitW BG).1;have hc:l.pre.holds [] { args:=args }=true:=(pre_splitW BG).2;obtain⟨d,r,rfl,h1,h2⟩:=hasAllW_cons hsh;obtain rfl:=hasAllW_nil h2;obtain⟨xs,rfl,h3⟩:=hasW_list h1;obtain⟨ns,rfl⟩:=items_int h3;have hlen:ns.length≤n:=by
  unfold OpenLaw.pre at hc;have h4:(WTm.not (.lt (.lit (.int (n:Int))) (.len (.arg 0)))).holds [] { args:=[.list (ns.map .int)]}=true:=by
   have h4:=(holds_andW hc).1;rw[hn] at h4;exact h4
  have h5:=condW_of h4 (w_not (w_lt w_lit (w_len_list (w_arg rfl))));rw[π] at h5;refine Nat.le_of_not_lt fun q=>?_;have q':(n:Int)<((ns.length:Nat):Int):=by lia
  first
   | (rw[decide_eq_true q'] at h5;exact absurd h5 (by decide))
   | (simp at h5;lia)
 cases hwl with
 |cons w1 w2=>
  cases w2;cases w1 with
  |list ho hall=>exact⟨_,_,ns,rfl,rfl,ho,V6 ns _ hall,hlen⟩
theorem V4(l:OpenLaw)(args:List WData):l.row.toRowW.claim.post args (.bool true) args=true:=
 postW_of (r:=l.row.toRowW) (X:=(true==true))
  (show WShape.has [] (.bool true) .bool=true by first|rfl|decide|simp[WShape.has,WShape.arms,WShape.armsAll])
  (show (WTm.eq .res (.lit (.bool true))).value [] { args:=args,res:=some (.bool true),after:=args }=some (.bool (true==true)) from w_eq_bool (w_res rfl) w_lit) rfl
theorem Aa{l:OpenLaw}{n:Nat}{q:ag}{loose:List ν}{XP:(ν->Option ε)->Ψ->Prop}{YP:av->Ψ->Prop}{d:DefRec}
  (hn:l.most=some n) (hdf:d.params.defaults=[])
  (call:∀(w:av) (s₀ s₁:θ) (mg mb:ν->Option ε) (fa:ζ) (o:aH) (pm cd doc:ε) (a:ζ) (vs:List ε) (ns:List Int),
   Ground q loose [] XP w s₀ mg mb s₁.heap->YP w s₁.heap ->
   s₁.heap.get? fa=some o->o.data=.func (docDef d.name d.params d.body d.scope pm cd doc)->s₁.heap.CodeRec cd d.name->mg d.name=some (.ref fa) ->
   s₁.heap.get? a=some { cls:=.type "list",data:=.seq vs.toArray }->gL vs ns->ns.length≤n->s₁.gens = #[] ->
   iL (model l.prog w) callerA (.call (.ref fa) ⟨[.ref a],[]⟩) (fun r s'=>r=.ok (.ret (.bool true))/\OldK s₁.heap s'.heap/\s'.os=s₁.os/\kC s'.gens) s₁):
  WalkO q loose XP YP l.row.toRowW d [] (fun f vs=>xl f vs):=by
 intro w s₀ s₁ mg mb G Y fa o pm cd doc dV kV ho hd g7 hD hmg hg args vals as BG hlay tQ hwl hlo;obtain rfl:dV=.none:=Dflts.none hD hdf;obtain rfl:kV=.none:=Dflts.noKw hD;obtain⟨a,vs,ns,rfl,rfl,hobj,hints,hlen⟩:=V5 hn BG hwl;refine enter_call (fV (call w s₀ s₁ mg mb fa o pm cd doc a vs ns G Y ho (fd_plain hd) g7 hmg hobj hints hlen hg) fun r s' hq=>?_);obtain⟨rfl,h2,h3,h4⟩:=hq;exact⟨.inl ⟨.bool true,.bool true,[],rfl,fun _=>rfl,.bool true,V4 l _,fun _=>⟨vG,fun _ hm=>(nomatch hm)⟩⟩,h2,h3,h4⟩
end OB
namespace L2
open PySem PySem.Spec PyProof.Rows
theorem Ms:∀{vs:List ε} {ns:List Int},gL vs ns->bh (ns.map V.int) vs
 |_,_,.nil=>.nil
 |_,_,.cons n t h=>.cons ⟨t,rfl⟩ (Ms h)
def CJ(H:Hp):Prop:=∀b,H b=none∨∃o xs,H b=some (.dZ o (.lst xs))
theorem V2{P:ag}{w:av}{K:η}{mg mb:ν->Option ε}{CX:sd}{k:Nat}{fa a:ζ}{fd:aq}{x:ν}{sp:Sp}{s₁:θ}{vs:List ε}{ns:List Int}
  (KX:K.In s₁.heap) (hns:s₁.heap.Ns aS mg) (hb:s₁.heap.Ns builtinsNs mb) (hbb:∀x:ν,x≠"__name__"->mb x=gS x) (hlim:s₁.heap.NoLimit) (hg:s₁.gens = #[])
  (ha:s₁.heap.get? a=some { cls:=.type "list",data:=.seq vs.toArray }) (hi:gL vs ns) (hl:ns.length≤aw) (hr:dW k callerA)
  (F:∀base:Ψ,K.In base->base.Ns aS mg->j5 P w K mg base CX k fa fd [x] sp) (hbind:∀(s:θ) (u:ε),pV s fd ⟨[u],[]⟩ [(x,u)])
  (uH:∀H:Hp,CJ H->fg K H a (ns.map V.int)->sp [.ref a] H (fun v _=>v=.bl true) fun _ _ _=>False)
  (MR:∀H e s',CX [] H s₁ (fun _ _ _=>False) e s'->False):
  iL (model P w) callerA (.call (.ref fa) ⟨[.ref a],[]⟩) (fun r s'=>r=.ok (.ret (.bool true))/\OldK s₁.heap s'.heap/\s'.os=s₁.os/\kC s'.gens) s₁:=by
 have rv:=Ms hi;have lenV:=hi.length
 -- from an abstract heap in which nothing but the script may be tracked
 have core:∀H:Hp,CJ H->fg K H a (ns.map V.int)->fF P w H s₁.heap->(∀b,H b≠none->b=a)->(H a≠none->K.lookup a=none) ->
   iL (model P w) callerA (.call (.ref fa) ⟨[.ref a],[]⟩) (fun r s'=>r=.ok (.ret (.bool true))/\OldK s₁.heap s'.heap/\s'.os=s₁.os/\kC s'.gens) s₁:=by
  intro H hO hS bJ hA hK;have base_of:∀{b:ζ} {o:aH},s₁.heap.get? b=some o->H b=none->(tf s₁.heap H).get? b=some o:=fun e n=>Xs e n;have noA:∀{b:ζ} {o:aH} {es:Array kl} {ep:Nat},s₁.heap.get? b=some o->o.data=.dict es ep->H b=none:=fun {b o es ep} e d=>by
   cases q:H b with
   |none=>rfl
   |some u=>
    have e':b=a:=hA b (by rw[q];simp);subst e';rw[ha] at e;cases e;have d':Data.seq vs.toArray _=Data.dict es ep:=d;cases d'
  have nsK:∀{b:ζ} {m:ν->Option ε},s₁.heap.Ns b m->(tf s₁.heap H).Ns b m:=fun {b m} ⟨o,es,ep,e,d,r⟩=>⟨o,es,ep,base_of e (noA e d),d,r⟩;have hKb:K.In (tf s₁.heap H):=fun b o e=>base_of (KX b o e) (by
   cases q:H b with
   |none=>rfl
   |some u=>
    have e':b=a:=hA b (by rw[q];simp);subst e';rw[hK (by rw[q];simp)] at e;cases e)
  have hM:Mod K mg (tf s₁.heap H):=⟨hKb,nsK hns,⟨mb,nsK hb,hbb⟩,let ⟨mc,h1,h2⟩:=hlim;⟨mc,nsK h1,h2⟩⟩
  have e0:wL P w K mg (tf s₁.heap H) callerA [] s₁ H:=⟨rfl,hM,fun b o e=>Xr e,Nat.le_of_eq (Xt _ _),trivial,fun b hb=>absurd (show b∈([]:List ζ) from hb) (by simp),bJ,.of_eq hg⟩;refine fV ((F _ hKb (nsK hns)).run callerA [] s₁ H ⟨[.ref a],[]⟩ [.ref a] [.ref a] _ _ hr e0 (hbind s₁ (.ref a)) (.cons rfl .nil) (uH H hO hS)) fun r s' h=>?_;cases r with
  |error e=>exact (MR H e s' h).elim
  |ok fl=>
   cases fl with
   |next=>exact cI h
   |brk=>exact cI h
   |cont=>exact cI h
   |ret u=>
    obtain⟨v,H',os,bare,un,hok',r',q⟩:=h;have q':v=.bl true:=q;subst q';obtain rfl:u=fj true:=r';refine⟨rfl,OldK.of_keep fun b o e=>?_,os,bare⟩;cases q:H b with
    |none=>exact un.keep b o e q (by intro z;exact absurd (show b∈([]:List ζ) from z) (by simp)) (by simp)
    |some u=>
     rcases hO b with z|⟨ob,xs,z⟩
     ·rw[q] at z;cases z
     ·have z2:=un.kQ b ob _ z;obtain⟨e1,_⟩:=bJ b _ z;obtain⟨e2,_⟩:=hok' b _ z2;rw[e] at e1;cases e1;exact e2
 cases hk:K.lookup a with
 |some o=>
  -- the script is one of the module's own objects
  have e:=KX a o hk;rw[ha] at e;cases e;refine core (fun _=>none) (fun _=>.inl rfl) (.inr ⟨_,vs.toArray,_,hk,rfl,rfl,rfl,by rw[ψ,lenV];exact hl,by simpa using rv⟩) (fun b u z=>by have z':(none:Option HO)=some u:=z;cases z') (fun b z=>absurd rfl z) fun z=>absurd rfl z
 |none=>
  refine core (fun b=>if b=a then some (.dZ { cls:=.type "list",data:=.seq vs.toArray } (.lst (ns.map V.int))) else none) (fun b=>?_) (.inl (.inr ⟨{ cls:=.type "list",data:=.seq vs.toArray },if_pos rfl⟩)) (fun b u z=>?_) (fun b z=>?_) fun _=>hk
  ·by_cases hb:b=a
   ·exact .inr ⟨_,_,if_pos hb⟩
   ·exact .inl (if_neg hb)
  ·by_cases hb:b=a
   ·have z':=(if_pos hb).symm.trans z;cases z';subst hb;exact⟨ha,by rw[π];exact hl,vs,_,rv,ha⟩
   ·have z':=(if_neg hb).symm.trans z;cases z'
  ·by_cases hb:b=a
   ·exact hb
   ·exact absurd (if_neg hb) z
end L2
namespace L2
open PySem PySem.Spec PyProof.Rows
theorem Ac{l:xo}{n k:Nat}{q:ag}{loose:List ν}{XP:(ν->Option ε)->Ψ->Prop}{YP:av->Ψ->Prop}{d:DefRec}{K:Params->η}{CX:av->sd}{sp:av->Sp}{x:ν}
  (hn:l.most=some n) (hn2:n≤aw) (hdf:d.params.defaults=[]) (hr:dW k callerA)
  (hY:∀(w:av) (h:Ψ),YP w h->(K w.params).In h)
  (F:∀(w:av) (mg:ν->Option ε) (fa:ζ) (h:Ψ),(K w.params).In h->h.Ns aS mg->mg d.name=some (.ref fa) ->
   ∃fd:aq,(∀(s:θ) (u:ε),pV s fd ⟨[u],[]⟩ [(x,u)]) ∧
    ∀base:Ψ,(K w.params).In base->base.Ns aS mg->j5 l.prog w (K w.params) mg base (CX w) k fa fd [x] (sp w))
  (uH:∀(w:av) (H:Hp) (a:ζ) (ns:List Int),ns.length≤n->CJ H->fg (K w.params) H a (ns.map V.int)->sp w [.ref a] H (fun v _=>v=.bl true) fun _ _ _=>False)
  (MR:∀(w:av) (H:Hp) (s:θ) (e:ε) (s':θ),CX w [] H s (fun _ _ _=>False) e s'->False):
  PySem.W.WalkO q loose XP YP l.row.toRowW d [] (fun f vs=>xl f vs):=by
 refine OB.Aa hn hdf fun w s₀ s₁ mg mb fa o pm cd doc a vs ns G Y ho hd g7 hmg hobj hints hlen hg=>?_;have KX:=hY w _ Y;obtain⟨fd,hb,hF⟩:=F w mg fa _ KX G.T.g hmg;exact V2 KX G.T.g G.T.b G.T.builtins G.T.nolimit hg hobj hints (aD hlen hn2) hr hF hb (fun H hO hS=>uH w H a ns hlen hO hS) fun H e s'=>MR w H s₁ e s'
end L2
/- THE LAST THEOREM (shape;LID,My.* are yours):
  My.HA: a structure of the addresses that your layer names (classes,functions);My.Txt K t: a structure (Prop) of the equations over K;
  My.yB:{K} {implicit addresses ..} (e1:nsIn K aS "law" = some (some (.ref f))) (e2:K.lookup f=some ⟨oc,od,.func (fnOf "law" "law" params body scope dV kV doc pm an cdv ct),sl⟩) (e3:codeIn K cdv "law" = true) ..:∃t,My.Txt K t
set_option maxRecDepth 100000 in
set_option maxHeartbeats 0 in
theorem PySem.Challenge.cw_LID_holds : PySem.Challenge.rw_LID.Holds := by
 w_on;o_law;k_head;(case hw=>w_witness2)
 k_fill
 refine L2.Ac (l:=PySem.Challenge.rw_LID) (n:=63) (k:=40) (x:="script") (CX:=fun w=>..) (sp:=fun _=>My.nT) rfl (by decide) rfl ⟨rfl,by decide,by decide⟩ (fun w h Y=>PySem.W.kIn_of Y) ?F ?S ?C
 case F=>
  intro w mg fa h KX G hmg
  have T:∃t,My.Txt (L2.KOf KX) t:=by
   dsimp only[L2.KOf]                          -- K must stand as «<heap const> w.params» for k_is
   refine' My.yB ?e1 ?e2 ?e3 ..
   (case e1=>PySem.W.k_is)                    -- in the order: a name -> its address -> its object -> its parts
   (case e2=>PySem.W.k_is)
   ..
  obtain⟨t,T⟩:=T
  have e0:=hmg.symm.trans (ak KX G T.law)
  cases e0                                       -- fa is the law's own address
  exact⟨_,fun s u=>.of_eq rfl,fun base kb nb=>My.law_fn T kb nb⟩     -- if «.of_eq rfl» comes too early: refine' ⟨_,?b,fun base kb nb=>My.law_fn T kb nb⟩;exact fun s u=>.of_eq rfl
 case S=>exact fun w H a ns hl hO hS=>..
 case C=>exact ..
(the tactic k_is has no namespace: write k_is) -/
namespace L2
open PySem PySem.Spec PyProof.Rows
def pQ(s:aM):Arguments:=match s with
 |.FunctionDef _ a _ _ _ _ _ _ _ _=>a
 |_=>{ posonlyargs:=[],args:=[],vararg:=none,kwonlyargs:=[],kw_defaults:=[],kwarg:=none,defaults:=[]}
def fu(s:aM):List aM:=match s with
 |.FunctionDef _ _ b _ _ _ _ _ _ _=>b
 |_=>[]
def Ξ(s:aM):eV:=match s with
 |.FunctionDef _ _ _ _ _ _ sc _ _ _=>sc
 |_=>{ kind:=.function,names:=[],isGenerator:=false,isCoroutine:=false }
abbrev se:sd:=fun _ _ _ _ _ _=>False
abbrev E0:XK:=fun _ _ _=>False
theorem Nt{X:Cx}:mx se X E0:=fun _ _ _ _ _ _ _ h=>h.elim
structure dR(K:η)(x qual:ν)(st:aM)(f:ζ)(fd:aq):Prop where
 ex:∃(oc:ε) (od:Option ζ) (kV doc pm:ε) (an:Option ζ) (cdv ct:ε) (osl:Array (Option ε)),
  fd=gT x qual (pQ st) (fu st) (Ξ st) .none kV doc pm an cdv ct/\K.lookup f=some ⟨oc,od,.func fd,osl⟩/\ky K cdv qual=true
 kp:bW K (.ref f)=true
section
variable {P:ag} {w:av} {K:η} {mg:ν->Option ε} {base:Ψ}
theorem dR.ok{x qual:ν}{st:aM}{f:ζ}{fd:aq}{N ps:List ν}{k:Nat}{sp:Sp}(F:dR K x qual st f fd)(S:bp N ps (Ξ st))(len:∀vs H Q E,sp vs H Q E->vs.length=ps.length)
  (ia:∀(cdv:ε) (A:aJ) (outer:List dq) (s:θ) (H:Hp) (vs:List V) (Q:VK) (E:XK),dW k (A.deeper (envOfC qual (Ξ st) s.heap.objs.size f cdv))->sp vs H Q E ->
   ∃t,nZ (iJ se P w K mg base N qual (Ξ st) f cdv A outer s H E).mX (fu st) t/\t { nx:=fun _ H'=>Q .aB H',rt:=Q } (start N vs) H):j5 P w K mg base se (k+1) f fd ps sp:=by
 obtain⟨oc,od,kV,doc,pm,an,cdv,ct,osl,rfl,lk,g7⟩:=F.ex;refine L9 lk g7 S len fun A outer s H vs Q E hr uH=>?_;obtain⟨t,h,q⟩:=ia cdv A outer s H vs Q E hr uH;exact⟨t,h.mX,q⟩
theorem dR.binds{x qual:ν}{st:aM}{f:ζ}{fd:aq}{ps:List ν}(F:dR K x qual st f fd)
  (h:∀(kV doc pm:ε) (an:Option ζ) (cdv ct:ε) (us:List ε),us.length=ps.length->bindArgs (gT x qual (pQ st) (fu st) (Ξ st) .none kV doc pm an cdv ct) ⟨us,[]⟩=pure (ps.zip us)):Binds K fd ps []:=by
 obtain⟨oc,od,kV,doc,pm,an,cdv,ct,osl,rfl,lk,g7⟩:=F.ex;exact .all (h kV doc pm an cdv ct)
theorem Mr{x qual:ν}{st:aM}{f:ζ}{oc:ε}{od an:Option ζ}{osl:Array (Option ε)}{kV doc pm cdv ct:ε}(l:K.lookup f=some ⟨oc,od,.func (gT x qual (pQ st) (fu st) (Ξ st) .none kV doc pm an cdv ct),osl⟩)
  (c:ky K cdv qual=true) (k:bW K (.ref f)=true):dR K x qual st f (gT x qual (pQ st) (fu st) (Ξ st) .none kV doc pm an cdv ct):=⟨⟨oc,od,kV,doc,pm,an,cdv,ct,osl,rfl,l,c⟩,k⟩
end
section
variable {X:Cx}
theorem pv(i:Nat){x:ν}{pos:aN}(hN:X.N[i]?=some x:=by rfl)(hv:Ap X.env.scope x:=by first|exact ka rfl|exact ip (ka rfl)|exact ip (ip rfl))(hd:(x==("__debug__":ν))=false:=by decide)
  (g7:(x==("__classdict__":ν))=false:=by decide):PE X (.Name x pos) (Av i):=Xq hN hv hd g7
end
end L2
namespace L3
open PySem PySem.Spec PyProof.Rows L2
inductive D where
 |aB|bl (b:Bool)|int (i:Int)|str (x:ν)|tup (xs:List D)|fy (xs:List D)|obj (a:ζ)|dc (a:ζ)
def pj(K:η)(H:Hp)(a:ζ)(xs:List V):Prop:=
 (∃o,H a=some (.dZ o (.lst xs))) ∨
  ∃(o:aH) (its:Array ε) (n:Nat),K.lookup a=some o/\o.cls=.type "list"/\o.dict=none/\o.data=.seq its n/\its.size≤aw/\bh xs its.toList
theorem pj.l{K:η}{H:Hp}{a:ζ}{xs:List V}(h:pj K H a xs):fg K H a xs:=by
 rcases h with h|h
 ·exact .inl (.inr h)
 ·exact .inr h
mutual
def Hv(K:η)(H:Hp):D->V->Prop
 |.aB,v=>v=.aB
 |.bl b,v=>v=.bl b
 |.int i,v=>v=.int i
 |.str x,v=>v=.str x
 |.tup ds,v=>∃a vs,v=.ref a/\cL K H a vs/\aR K H ds vs
 |.fy ds,v=>∃a vs,v=.ref a/\pj K H a vs/\aR K H ds vs
 |.obj a,v=>v=.ref a
 |.dc a,v=>v=.ref a/\∃ob φ,H a=some (.dZ ob (.ext φ))/\ob.cls=.type "dict"
def aR(K:η)(H:Hp):List D->List V->Prop
 |[],vs=>vs=[]
 |d::ds,vs=>∃v r,vs=v::r/\Hv K H d v/\aR K H ds r
end
inductive GO where
 |lst (ds:List D)|mW|ji
 |gen (R:η->ζ->Hp->Prop)
def GO.plain:GO->Prop
 |.gen _=>False
 |_=>True
abbrev Gp:=ζ->Option GO
def du(G:Gp)(a:ζ)(o:GO):Gp:=fun b=>if b=a then some o else G b
theorem o9{G:Gp}{a:ζ}{o:GO}:du G a o a=some o:=by simp[du]
theorem oZ{G:Gp}{a b:ζ}{o:GO}(h:b≠a):du G a o b=G b:=by simp[du,h]
theorem V1{G:Gp}{a b:ζ}{o u:GO}(hn:G a=none)(h:G b=some u):du G a o b=some u:=by
 rw[oZ]
 ·exact h
 ·intro e;rw[e,hn] at h;cases h
theorem WB{G:Gp}{a:ζ}{o u:GO}:du (du G a o) a u=du G a u:=by
 funext b;unfold du;by_cases h:b=a
 ·rw[if_pos h,if_pos h]
 ·rw[if_neg h,if_neg h,if_neg h]
def vt(a b c:Int):Prop:=0≤a/\0≤c/\c<2147483647
def uS(K:η)(H:Hp)(a:ζ):GO->Prop
 |.lst ds=>∃vs,H a=some (.lst vs)/\aR K H ds vs
 |.mW=>∃i j k,H a=some (.lst [.int i,.int j,.int k])/\vt i j k
 |.ji=>H a=some (.ext fun h=>∃o,h.get? a=some o/\o.cls=.type "dict")
 |.gen R=>R K a H/\(∃o,H a=some o/\(∀xs,o≠.tup xs)/\∀ob u,o≠.dZ ob u)/\∀H1 H2:Hp,(∀b xs,H1 b=some (.tup xs)->H2 b=some (.tup xs))->(∀b o u,H1 b=some (.dZ o u)->H2 b=some (.dZ o u))->H2 a=H1 a->R K a H1->R K a H2
def aV(K:η)(G:Gp)(H:Hp):Prop:=∀a o,G a=some o->uS K H a o
structure Ext(H H':Hp):Prop where
 tup:∀b xs,H b=some (.tup xs)->H' b=some (.tup xs)
 dZ:∀b o u,H b=some (.dZ o u)->H' b=some (.dZ o u)
theorem Ext.refl(H:Hp):Ext H H:=⟨fun _ _ h=>h,fun _ _ _ h=>h⟩
theorem Ext.trans{H H1 H2:Hp}(a:Ext H H1)(b:Ext H1 H2):Ext H H2:=⟨fun c x h=>b.tup c x (a.tup c x h),fun c o u h=>b.dZ c o u (a.dZ c o u h)⟩
structure Step(H:Hp)(G:Gp)(H':Hp)(G':Gp):Prop where
 fr:∀a o,H a=some o->G a=none->H' a=some o
 oW:∀a,H a≠none->H' a≠none
 new:∀a,G a=none->G' a≠none->H a=none
theorem Step.refl(H:Hp)(G:Gp):Step H G H G:=⟨fun _ _ h _=>h,fun _ h=>h,fun _ h1 h2=>absurd h1 h2⟩
theorem Step.trans{H H1 H2:Hp}{G G1 G2:Gp}(a:Step H G H1 G1)(b:Step H1 G1 H2 G2):Step H G H2 G2 where
 fr:=fun c o h n=>b.fr c o (a.fr c o h n) (by
  refine aL fun q=>?_;rw[a.new c n q] at h;cases h)
 oW:=fun c h=>b.oW c (a.oW c h)
 new:=fun c n q=>by
  by_cases h1:G1 c=none
  ·have h2:=b.new c h1 q;refine aL fun z=>?_;exact a.oW c z h2
  ·exact a.new c n h1
def Sub(G' G:Gp):Prop:=∀a o,G' a=some o->G a=some o
theorem Sub.refl(G:Gp):Sub G G:=fun _ _ h=>h
theorem Sub.trans{A B C:Gp}(a:Sub A B)(b:Sub B C):Sub A C:=fun x o h=>b x o (a x o h)
theorem Sub.upd{G:Gp}{a:ζ}{o:GO}(h:G a=none):Sub G (du G a o):=fun _ _ e=>V1 h e
theorem Sub.of_none{G' G:Gp}(s:Sub G' G){a:ζ}(h:G a=none):G' a=none:=by
 cases e:G' a with
 |none=>rfl
 |some o=>
  rw[s a o e] at h;cases h
structure eF(G:Gp)(p:ζ)(o:GO)(G':Gp):Prop where
 aB:G p=none
 sub:Sub G G'
 at_:G' p=some o
theorem eF.mk'{G:Gp}{p:ζ}{o:GO}(h:G p=none):eF G p o (du G p o):=⟨h,Sub.upd h,o9⟩
theorem Step.sub{H:Hp}{G G':Gp}(s:Sub G' G):Step H G H G':=⟨fun _ _ h _=>h,fun _ h=>h,fun a n q=>by
 exact absurd (s.of_none n) q⟩
section
variable {K:η} {H H':Hp} {G G':Gp}
theorem aV.sub(R:aV K G H)(s:Sub G' G):aV K G' H:=fun a o e=>R a o (s a o e)
theorem uS.mut{a:ζ}{o:GO}(h:uS K H a o):∃o,H a=some o/\(∀xs,o≠.tup xs)/\∀ob u,o≠.dZ ob u:=by
 cases o with
 |lst ds=>obtain⟨vs,e,_⟩:=h;exact⟨_,e,fun _=>nofun,fun _ _=>nofun⟩
 |mW=>obtain⟨i,j,k,e,_⟩:=h;exact⟨_,e,fun _=>nofun,fun _ _=>nofun⟩
 |ji=>exact⟨_,h,fun _=>nofun,fun _ _=>nofun⟩
 |gen R=>exact h.2.1
theorem aV.aaA(R:aV K G H){a:ζ}{xs:List V}(e:H a=some (.tup xs)):G a=none:=by
 cases q:G a with
 |none=>rfl
 |some u=>
  obtain⟨o,z,h1,_⟩:=(R a u q).mut;rw[e] at z;exact absurd (aO z).symm (h1 xs)
theorem aV.outF(R:aV K G H){a:ζ}{ob:aH}{u:HO}(e:H a=some (.dZ ob u)):G a=none:=by
 cases q:G a with
 |none=>rfl
 |some g=>
  obtain⟨o,z,_,h1⟩:=(R a g q).mut;rw[e] at z;exact absurd (aO z).symm (h1 ob u)
theorem aV.free(R:aV K G H){a:ζ}(e:H a=none):G a=none:=by
 cases q:G a with
 |none=>rfl
 |some u=>
  obtain⟨o,z,_⟩:=(R a u q).mut;rw[e] at z;cases z
theorem Step.ext(S:Step H G H' G')(R:aV K G H):Ext H H':=⟨fun b xs h=>S.fr b _ h (R.aaA h),fun b o u h=>S.fr b _ h (R.outF h)⟩
theorem cL.ext{a:ζ}{xs:List V}(E:Ext H H')(h:cL K H a xs):cL K H' a xs:=by
 rcases h with (h|⟨o,h⟩)|h
 ·exact .inl (.inl (E.tup _ _ h))
 ·exact .inl (.inr ⟨o,E.dZ _ _ _ h⟩)
 ·exact .inr h
theorem pj.ext{a:ζ}{xs:List V}(E:Ext H H')(h:pj K H a xs):pj K H' a xs:=by
 rcases h with⟨o,h⟩|h
 ·exact .inl ⟨o,E.dZ _ _ _ h⟩
 ·exact .inr h
mutual
theorem Hv.ext(E:Ext H H'):∀{d:D} {v:V},Hv K H d v->Hv K H' d v
 |.aB,_,h=>by simpa [Hv] using h
 |.bl _,_,h=>by simpa [Hv] using h
 |.int _,_,h=>by simpa [Hv] using h
 |.str _,_,h=>by simpa [Hv] using h
 |.obj _,_,h=>by simpa [Hv] using h
 |.dc a,v,h=>by
  unfold Hv at h ⊢;obtain⟨e,ob,φ,q,c⟩:=h;exact⟨e,ob,φ,E.dZ _ _ _ q,c⟩
 |.tup ds,v,h=>by
  unfold Hv at h ⊢;obtain⟨a,vs,e,q,r⟩:=h;exact⟨a,vs,e,cL.ext E q,aR.ext E r⟩
 |.fy ds,v,h=>by
  unfold Hv at h ⊢;obtain⟨a,vs,e,q,r⟩:=h;exact⟨a,vs,e,pj.ext E q,aR.ext E r⟩
theorem aR.ext(E:Ext H H'):∀{ds:List D} {vs:List V},aR K H ds vs->aR K H' ds vs
 |[],_,h=>by simpa [aR] using h
 |d::ds,vs,h=>by
  unfold aR at h ⊢;obtain⟨v,r,e,q,z⟩:=h;exact⟨v,r,e,Hv.ext E q,aR.ext E z⟩
end
theorem aR.nil:aR K H [] []:=by simp[aR]
theorem aR.cons{d:D}{v:V}{ds:List D}{vs:List V}(h:Hv K H d v)(r:aR K H ds vs):aR K H (d::ds) (v::vs):=by
 unfold aR;exact⟨v,vs,rfl,h,r⟩
theorem aR.inv{d:D}{ds:List D}{vs:List V}(h:aR K H (d::ds) vs):∃v r,vs=v::r/\Hv K H d v/\aR K H ds r:=by
 unfold aR at h;exact h
theorem aR.i5{vs:List V}(h:aR K H [] vs):vs=[]:=by
 unfold aR at h;exact h
theorem aR.length:∀{ds:List D} {vs:List V},aR K H ds vs->ds.length=vs.length
 |[],_,h=>by rw[h.i5];rfl
 |d::ds,vs,h=>by
  obtain⟨v,r,rfl,_,q⟩:=h.inv;simp[q.length]
theorem aR.get:∀{ds:List D} {vs:List V} {i:Nat} {d:D},aR K H ds vs->ds[i]?=some d->∃v,vs[i]?=some v/\Hv K H d v
 |[],_,_,_,_,e=>by simp at e
 |x::ds,vs,0,d,h,e=>by
  obtain⟨v,r,rfl,q,_⟩:=h.inv;simp at e;subst e;exact⟨v,rfl,q⟩
 |x::ds,vs,i+1,d,h,e=>by
  obtain⟨v,r,rfl,_,q⟩:=h.inv;simp at e;obtain⟨u,e2,q2⟩:=q.get e;exact⟨u,by simpa using e2,q2⟩
theorem aR.append:∀{ds es:List D} {vs us:List V},aR K H ds vs->aR K H es us->aR K H (ds++es) (vs++us)
 |[],es,_,_,h,q=>by rw[h.i5];exact q
 |d::ds,es,vs,us,h,q=>by
  obtain⟨v,r,rfl,z,w⟩:=h.inv;exact .cons z (w.append q)
theorem aR.drop:∀{ds:List D} {vs:List V} (n:Nat),aR K H ds vs->aR K H (ds.drop n) (vs.drop n)
 |ds,vs,0,h=>h
 |[],_,n+1,h=>by rw[h.i5];exact .nil
 |d::ds,vs,n+1,h=>by
  obtain⟨v,r,rfl,_,q⟩:=h.inv;exact q.drop n
theorem aR.take:∀{ds:List D} {vs:List V} (n:Nat),aR K H ds vs->aR K H (ds.take n) (vs.take n)
 |ds,vs,0,h=>by simpa using aR.nil
 |[],_,n+1,h=>by rw[h.i5];exact .nil
 |d::ds,vs,n+1,h=>by
  obtain⟨v,r,rfl,q,z⟩:=h.inv;exact .cons q (z.take n)
theorem aR.set:∀{ds:List D} {vs:List V} (i:Nat) {d:D} {v:V},aR K H ds vs->Hv K H d v->aR K H (ds.set i d) (vs.set i v)
 |[],_,i,d,v,h,_=>by rw[h.i5];exact .nil
 |x::ds,vs,0,d,v,h,q=>by
  obtain⟨u,r,rfl,_,z⟩:=h.inv;exact .cons q z
 |x::ds,vs,i+1,d,v,h,q=>by
  obtain⟨u,r,rfl,y,z⟩:=h.inv;exact .cons y (z.set i q)
theorem aR.erase:∀{ds:List D} {vs:List V} (i:Nat),aR K H ds vs->aR K H (ds.eraseIdx i) (vs.eraseIdx i)
 |[],_,i,h=>by rw[h.i5];exact .nil
 |x::ds,vs,0,h=>by
  obtain⟨u,r,rfl,_,z⟩:=h.inv;exact z
 |x::ds,vs,i+1,h=>by
  obtain⟨u,r,rfl,y,z⟩:=h.inv;exact .cons y (z.erase i)
theorem aR.rep{ds:List D}{vs:List V}(h:aR K H ds vs):∀k:Nat,aR K H (aA k ds).flatten (aA k vs).flatten
 |0=>.nil
 |k+1=>by
  simp only[dj,gz];exact h.append (h.rep k)
theorem aR.ints:∀(ns:List Int),aR K H (ns.map D.int) (ns.map V.int)
 |[]=>.nil
 |n::ns=>.cons (by simp[Hv]) (aR.ints ns)
theorem Ext.laid{p:ζ}{o:HO}(h:H p=none):Ext H (upd H p o):=⟨fun b xs e=>by rw[dA (nh e h)];exact e,fun b x u e=>by rw[dA (nh e h)];exact e⟩
theorem uS.ext{a:ζ}{o:GO}(h:uS K H a o)(E:Ext H H')(e:H' a=H a):uS K H' a o:=by
 cases o with
 |lst ds=>
  obtain⟨vs,z,q⟩:=h;exact⟨vs,e.trans z,q.ext E⟩
 |mW=>
  obtain⟨i,j,k,z,q⟩:=h;exact⟨i,j,k,e.trans z,q⟩
 |ji=>exact e.trans h
 |gen R=>
  obtain⟨h1,h2,h3⟩:=h;exact⟨h3 H H' E.tup E.dZ e h1,by rw[e];exact h2,h3⟩
theorem aV.laid{p:ζ}{o:HO}(R:aV K G H)(h:H p=none):aV K G (upd H p o):=fun a u e=>by
 have cK:a≠p:=fun z=>by
  rw[z,R.free h] at e;cases e
 exact (R a u e).ext (Ext.laid h) (dA cK)
theorem aV.hX{p:ζ}{o:HO}{g:GO}(R:aV K G H)(h:H p=none)(new:uS K (upd H p o) p g):aV K (du G p g) (upd H p o):=fun a u e=>by
 by_cases z:a=p
 ·subst z;rw[o9] at e;cases e;exact new
 ·rw[oZ z] at e;exact (R.laid h) a u e
theorem Step.laid{p:ζ}{o:HO}(h:H p=none):Step H G (upd H p o) G:=⟨fun a u e _=>by rw[dA (nh e h)];exact e,fun a q=>by
 by_cases z:a=p
 ·rw[z,g6];simp
 ·rw[dA z];exact q,fun a n q=>absurd n q⟩
theorem Step.hX{p:ζ}{o:HO}{g:GO}(h:H p=none):Step H G (upd H p o) (du G p g):=⟨(Step.laid (G:=G) h).fr,(Step.laid (G:=G) h).oW,fun a n q=>by
 by_cases z:a=p
 ·rw[z];exact h
 ·rw[oZ z] at q;exact absurd n q⟩
theorem WA{p b:ζ}{xs ys:List V}(h:H p=some (.lst xs))(e:H b=some (.tup ys)):b≠p:=fun z=>by
 rw[z,h] at e;cases e
theorem Wz{p b:ζ}{xs:List V}{o:aH}{u:HO}(h:H p=some (.lst xs))(e:H b=some (.dZ o u)):b≠p:=fun z=>by
 rw[z,h] at e;cases e
theorem Ext.wrote{p:ζ}{xs:List V}{o:HO}(h:H p=some (.lst xs)):Ext H (upd H p o):=
 ⟨fun b ys e=>by rw[dA (WA h e)];exact e,fun b x u e=>by rw[dA (Wz h e)];exact e⟩
theorem aV.wrote{p:ζ}{xs:List V}{o:HO}{g:GO}(R:aV K G H)(h:H p=some (.lst xs))(new:uS K (upd H p o) p g):aV K (du G p g) (upd H p o):=fun a u e=>by
 by_cases z:a=p
 ·subst z;rw[o9] at e;cases e;exact new
 ·rw[oZ z] at e;exact (R a u e).ext (Ext.wrote h) (dA z)
theorem aV.wx{p:ζ}{xs:List V}{ds:List D}(R:aV K G H)(h:H p=none)(hv:aR K H ds xs):aV K (du G p (.lst ds)) (upd H p (.lst xs)):=R.hX h ⟨xs,g6,hv.ext (.laid h)⟩
theorem aV.C0{p:ζ}{xs ys:List V}{ds:List D}(R:aV K G H)(e:H p=some (.lst xs))(hv:aR K H ds ys):aV K (du G p (.lst ds)) (upd H p (.lst ys)):=R.wrote e ⟨ys,g6,hv.ext (.wrote e)⟩
theorem Step.wrote{p:ζ}{o:HO}{g u:GO}(h:G p=some u):Step H G (upd H p o) (du G p g):=⟨fun a x e n=>by
 have cK:a≠p:=fun z=>by
  rw[z,h] at n;cases n
 rw[dA cK];exact e,fun a q=>by
 by_cases z:a=p
 ·rw[z,g6];simp
 ·rw[dA z];exact q,fun a n q=>by
 have cK:a≠p:=fun z=>by
  rw[z,h] at n;cases n
 rw[oZ cK] at q;exact absurd n q⟩
end
abbrev S3:=List (Option D)
def jL:S3->Nat->Option D
 |[],_=>none
 |x::_,0=>x
 |_::r,n+1=>jL r n
def iX:S3->Nat->D->S3
 |[],_,_=>[]
 |_::r,0,d=>some d::r
 |x::r,n+1,d=>x::iX r n d
structure eB(K:η)(τ:S3)(σ:L2.St)(H:Hp):Prop where
 len:τ.length=σ.length
 at_:∀(i:Nat) d,jL τ i=some d->∃v,σ[i]?=some (some v)/\Hv K H d v
theorem Mq:∀(τ:S3) (i:Nat) (d:D),(iX τ i d).length=τ.length
 |[],_,_=>rfl
 |_::r,0,d=>rfl
 |x::r,n+1,d=>by simp[iX,Mq r n d]
theorem Mp:∀(τ:S3) (i j:Nat) (d:D),jL (iX τ i d) j=if j=i/\i<τ.length then some d else jL τ j
 |[],i,j,d=>by simp[iX,jL]
 |x::r,0,0,d=>by simp[iX,jL]
 |x::r,0,j+1,d=>by simp[iX,jL]
 |x::r,i+1,0,d=>by simp[iX,jL]
 |x::r,i+1,j+1,d=>by
  simp only[iX,jL,Mp r i j d,az];by_cases h:j=i/\i<r.length
  ·rw[if_pos h,if_pos (by lia)]
  ·rw[if_neg h,if_neg (by lia)]
section
variable {K:η} {τ:S3} {σ:L2.St} {H H':Hp}
theorem eB.ext(R:eB K τ σ H)(E:Ext H H'):eB K τ σ H':=⟨R.len,fun i d h=>by
 obtain⟨v,e,q⟩:=R.at_ i d h;exact⟨v,e,q.ext E⟩⟩
theorem eB.set(R:eB K τ σ H){i:Nat}{d:D}{v:V}(h:Hv K H d v):eB K (iX τ i d) (σ.set i (some v)) H:=⟨by rw[Mq,List.length_set];exact R.len,fun j e q=>by
 rw[Mp] at q;by_cases c:j=i/\i<τ.length
 ·rw[if_pos c] at q;cases q;refine⟨v,?_,h⟩;rw[c.1,lr (by rw[←R.len];exact c.2)]
 ·rw[if_neg c] at q;obtain⟨u,e1,e2⟩:=R.at_ j e q;refine⟨u,?_,e2⟩;by_cases hij:i=j
  ·subst hij;have:σ.length≤i:=by
    have:=R.len;have:¬i<τ.length:=fun z=>c ⟨rfl,z⟩;lia
   rw[dh.mpr this] at e1;cases e1
  ·rw[mK hij];exact e1⟩
end
def br:List ν->List D->S3
 |[],_=>[]
 |_::N,[]=>none::br N []
 |_::N,d::ds=>some d::br N ds
theorem Fg:∀(N:List ν) (ds:List D),(br N ds).length=N.length
 |[],_=>rfl
 |_::N,[]=>by simp[br,Fg N []]
 |_::N,d::ds=>by simp[br,Fg N ds]
theorem Mo:∀(N:List ν) (i:Nat),jL (br N []) i=none
 |[],i=>rfl
 |_::N,0=>rfl
 |_::N,i+1=>Mo N i
theorem Mn:∀(N:List ν) (ds:List D) (i:Nat) (d:D),jL (br N ds) i=some d->ds[i]?=some d
 |[],_,_,_,h=>by cases h
 |_::N,[],i,d,h=>by
  rw[Mo] at h;cases h
 |_::N,x::ds,0,d,h=>by
  simp only[br,jL] at h;simpa using h
 |_::N,x::ds,i+1,d,h=>by
  simp only[br,jL] at h;simpa using Mn N ds i d h
theorem eB.start{K:η}{N:List ν}{ds:List D}{vs:List V}{H:Hp}(h:aR K H ds vs)(hl:vs.length≤N.length):eB K (br N ds) (L2.start N vs) H:=⟨by
 rw[Fg];simp[L2.start];lia,fun i d e=>by
 obtain⟨v,e1,q⟩:=h.get (Mn N ds i d e);refine⟨v,?_,q⟩;unfold L2.start;have hi:i<vs.length:=(au.mp e1).1;rw[eW (by simpa using hi),aK,e1];rfl⟩
abbrev V3:=D->Gp->Prop
abbrev aQ:=S3->Gp->V3->Prop
abbrev cU:=S3->Gp->(Bool->Gp->Prop)->Prop
abbrev dB:=S3->Gp->(List D->Gp->Prop)->Prop
structure g0 where
 nx:S3->Gp->Prop
 rt:V3
 bk:S3->Gp->Prop:=fun _ _=>False
 ct:S3->Gp->Prop:=fun _ _=>False
abbrev ao:=g0->S3->Gp->Prop
def low(K:η)(t:aQ):TE:=fun σ H Q=>∃τ G Q3,eB K τ σ H/\aV K G H/\t τ G Q3/\∀v H' d G',Hv K H' d v->Step H G H' G'->aV K G' H'->Q3 d G'->Q v H'
def sS(K:η)(t:cU):TT:=fun σ H Q=>∃τ G Q3,eB K τ σ H/\aV K G H/\t τ G Q3/\∀b H' G',Step H G H' G'->aV K G' H'->Q3 b G'->Q b H'
def wA(K:η)(t:dB):TA:=fun σ H Q=>∃τ G Q3,eB K τ σ H/\aV K G H/\t τ G Q3/\∀vs H' ds G',aR K H' ds vs->Step H G H' G'->aV K G' H'->Q3 ds G'->Q vs H'
structure pS(K:η)(H:Hp)(G:Gp)(D3:g0)(D2:Ends):Prop where
 nx:∀τ σ G' H',eB K τ σ H'->Step H G H' G'->aV K G' H'->D3.nx τ G'->D2.nx σ H'
 bk:∀τ σ G' H',eB K τ σ H'->Step H G H' G'->aV K G' H'->D3.bk τ G'->D2.bk σ H'
 ct:∀τ σ G' H',eB K τ σ H'->Step H G H' G'->aV K G' H'->D3.ct τ G'->D2.ct σ H'
 rt:∀d v G' H',Hv K H' d v->Step H G H' G'->aV K G' H'->D3.rt d G'->D2.rt v H'
theorem pS.step{K:η}{H H1:Hp}{G G1:Gp}{D3:g0}{D2:Ends}(E:pS K H G D3 D2)(S:Step H G H1 G1):pS K H1 G1 D3 D2:=
 ⟨fun τ σ G' H' a b c q=>E.nx τ σ G' H' a (S.trans b) c q,fun τ σ G' H' a b c q=>E.bk τ σ G' H' a (S.trans b) c q,fun τ σ G' H' a b c q=>E.ct τ σ G' H' a (S.trans b) c q,fun d v G' H' a b c q=>E.rt d v G' H' a (S.trans b) c q⟩
def FA(K:η)(t:ao):TS:=fun D2 σ H=>∃τ G D3,eB K τ σ H/\aV K G H/\t D3 τ G/\pS K H G D3 D2
abbrev bN(X:Cx)(e:υ)(t:aQ):Prop:=PE X e (low X.K t)
abbrev rY(X:Cx)(e:υ)(t:cU):Prop:=PT X e (sS X.K t)
abbrev yl(X:Cx)(e:υ)(t:cU):Prop:=PW X e (sS X.K t)
abbrev kG(X:Cx)(es:List υ)(t:dB):Prop:=PA X es (wA X.K t)
abbrev pk(X:Cx)(st:aM)(t:ao):Prop:=PS X st (FA X.K t)
abbrev jC(X:Cx)(st:List aM)(t:ao):Prop:=nZ X st (FA X.K t)
section
variable {X:Cx} {e:υ}
theorem jJ{t t':TE}(h:PE X e t)(f:∀σ H Q,t' σ H Q->t σ H Q):PE X e t':=fun pins s σ H Q I q=>h pins s σ H Q I (f σ H Q q)
theorem Ff{t t':TT}(h:PT X e t)(f:∀σ H Q,t' σ H Q->t σ H Q):PT X e t':=fun pins s σ H Q I q=>h pins s σ H Q I (f σ H Q q)
theorem pw_of{t t':TT}(h:PW X e t)(f:∀σ H Q,t' σ H Q->t σ H Q):PW X e t':=fun w pins s σ H Q I q=>h w pins s σ H Q I (f σ H Q q)
theorem Mm{es:List υ}{t t':TA}(h:PA X es t)(f:∀σ H Q,t' σ H Q->t σ H Q):PA X es t':=fun p pins s σ H Q I q=>h p pins s σ H Q I (f σ H Q q)
theorem oI{st:aM}{t t':TS}(h:PS X st t)(f:∀D σ H,t' D σ H->t D σ H):PS X st t':=fun pins s σ H Q I q=>h pins s σ H Q I (f Q σ H q)
theorem Ml{st:List aM}{t t':TS}(h:nZ X st t)(f:∀D σ H,t' D σ H->t D σ H):nZ X st t':=fun pins s σ H Q I q=>h pins s σ H Q I (f Q σ H q)
end
def Br(b:Bool)(A B:Prop):Prop:=(b=true->A)/\(b=false->B)
theorem Br.ite{b:Bool}{A B A' B':Prop}(h:Br b A B)(f:A->A')(g:B->B'):if b=true then A' else B':=by
 cases b with
 |true=>rw[if_pos rfl];exact f (h.1 rfl)
 |false=>rw[if_neg ay];exact g (h.2 rfl)
section
variable {X:Cx} {a b e c:υ} {ta tb te:aQ} {tA tB:cU} {pos:aN} {es rest:List υ}
def eC(d:D):aQ:=fun _ G Q=>Q d G
def ο(i:Nat):aQ:=fun τ G Q=>match jL τ i with
 |some d=>Q d G
 |none=>False
theorem Wy{i:Nat}{x:ν}(h:PE X (.Name x pos) (Av i)):bN X (.Name x pos) (ο i):=jJ h fun σ H Q ⟨τ,G,Q3,RS,RG,h,k⟩=>by
 unfold ο at h;cases hd:jL τ i with
 |none=>rw[hd] at h;exact h.elim
 |some d=>
  rw[hd] at h;obtain⟨v,e1,e2⟩:=RS.at_ i d hd;exact⟨v,e1,k v H d G e2 (.refl H G) RG h⟩
theorem xG{v:V}{d:D}(h:PE X e (tC v))(r:∀H,Hv X.K H d v):bN X e (eC d):=jJ h fun σ H Q ⟨τ,G,Q3,RS,RG,h,k⟩=>k v H d G (r H) (.refl H G) RG h
theorem Wx{i:Int}{j}:bN X (.Constant (.int i) j pos) (eC (.int i)):=xG Xp fun H=>by simp[Hv]
theorem aaY{i:Bool}{j}:bN X (.Constant (.bool i) j pos) (eC (.bl i)):=xG Xo fun H=>by simp[Hv]
theorem Ww{j}:bN X (.Constant .none j pos) (eC .aB):=xG Xn fun H=>by simp[Hv]
theorem Wv{x:ν}{j}:bN X (.Constant (.str x) j pos) (eC (.str x)):=xG Xm fun H=>by simp[Hv]
theorem Wu{x:ν}{i:Int}{u:Tok}(hm:X.mg x=some (.int i u))(hg:Gl X x:=by rfl)(hd:(x==("__debug__":ν))=false:=by decide):bN X (.Name x pos) (eC (.int i)):=xG (v:=.int i) (Fk hg hm ⟨u,rfl⟩ hd) fun H=>by simp[Hv]
abbrev R3:=D->D->Gp->V3->Prop
def ax(r:R3)(ta tb:aQ):aQ:=fun τ G Q=>ta τ G fun x G1=>tb τ G1 fun y G2=>r x y G2 Q
def fh(K:η)(r:R3)(r2:R2):Prop:=∀x y vx vy G H Q3 Q,Hv K H x vx->Hv K H y vy->aV K G H->r x y G Q3->(∀v H' d G',Hv K H' d v->Step H G H' G'->aV K G' H'->Q3 d G'->Q v H')->r2 vx vy H Q
theorem Be{K:η}{r:R3}{r2:R2}(L:fh K r r2){σ:L2.St}{H:Hp}{Q:VK}(h:low K (ax r ta tb) σ H Q):C1 r2 (low K ta) (low K tb) σ H Q:=by
 obtain⟨τ,G,Q3,RS,RG,h,k⟩:=h;refine⟨τ,G,_,RS,RG,h,fun v1 H1 d1 G1 h1 S1 R1 q1=>?_⟩;refine⟨τ,G1,_,RS.ext (S1.ext RG),R1,q1,fun v2 H2 d2 G2 h2 S2 R2 q2=>?_⟩;exact L _ _ _ _ _ _ _ _ (h1.ext (S2.ext R1)) h2 R2 q2 fun v H' d G' z1 z2 z3 z4=>k v H' d G' z1 ((S1.trans S2).trans z2) z3 z4
theorem aaW{op:nE}{r:R3}{r2:R2}(L:fh X.K r r2)(ho:eZ X (binaryOp op) r2)(ha:bN X a ta)(hb:bN X b tb):bN X (.BinOp a op b pos) (ax r ta tb):=
 jJ (WT ho ha hb) fun _ _ _ h=>Be L h
theorem Wt{op:CmpOp}{r:R3}{r2:R2}(L:fh X.K r r2)(ho:eZ X (compareOp op) r2)(ha:bN X a ta)(hb:bN X b tb)(hm:behindInMarks op b=false):bN X (.Compare a [op] [b] pos) (ax r ta tb):=
 jJ (WL ho ha hb hm) fun _ _ _ h=>Be L h
def bT(t:aQ):cU:=fun τ G Q=>t τ G fun x G1=>match x with
 |.bl k=>Q k G1
 |_=>False
theorem Mk{K:η}{t:aQ}{σ:L2.St}{H:Hp}{Q:Bool->Hp->Prop}(h:sS K (bT t) σ H Q):Gm (low K t) σ H Q:=by
 obtain⟨τ,G,Q3,RS,RG,h,k⟩:=h;refine⟨τ,G,_,RS,RG,h,fun v H' d G' h1 h2 h3 h4=>?_⟩;cases d with
 |bl c=>
  unfold Hv at h1;exact⟨c,h1,k c H' G' h2 h3 h4⟩
 |_=>exact h4.elim
theorem Ws{op:CmpOp}{r:R3}{r2:R2}(L:fh X.K r r2)(ho:eZ X (compareOp op) r2)(ha:bN X a ta)(hb:bN X b tb)(hm:behindInMarks op b=false):rY X (.Compare a [op] [b] pos) (bT (ax r ta tb)):=
 Ff (WJ ho ha hb hm) fun σ H Q h=>by
  obtain⟨τ,G,Q3,RS,RG,h,k⟩:=Mk h;exact Be L ⟨τ,G,Q3,RS,RG,h,k⟩
theorem VQ(h:bN X a ta)(he:∀whole,isTrue a X.env whole=(do let v ←whole;standAt a.pos;holding [v] (truthy v)):=by intro _;rfl):rY X a (bT ta):=
 Ff (WG h he) fun σ H Q h=>by
  obtain⟨τ,G,Q3,RS,RG,h,k⟩:=Mk h;refine⟨τ,G,Q3,RS,RG,h,fun v H' d G' h1 h2 h3 h4=>?_⟩;obtain⟨c,rfl,q⟩:=k v H' d G' h1 h2 h3 h4;exact⟨c,rfl,q⟩
def GR(r:D->Gp->V3->Prop)(ta:aQ):aQ:=fun τ G Q=>ta τ G fun x G1=>r x G1 Q
def yp:D->Gp->V3->Prop:=fun x G Q=>match x with
 |.int i=>Q (.int (-i)) G
 |_=>False
theorem VP(ha:bN X a ta):bN X (.UnaryOp .USub a pos) (GR yp ta):=jJ (WS WR ha) fun σ H Q h=>by
 obtain⟨τ,G,Q3,RS,RG,h,k⟩:=h;refine⟨τ,G,_,RS,RG,h,fun v H' d G' h1 h2 h3 h4=>?_⟩;cases d with
 |int i=>
  unfold Hv at h1;exact⟨i,h1,k _ H' (.int (-i)) G' (by simp[Hv]) h2 h3 h4⟩
 |_=>exact h4.elim
def Cb(t u:cU):cU:=fun τ G Q=>t τ G fun c G1=>Br c (u τ G1 Q) (Q false G1)
def zN(t u:cU):cU:=fun τ G Q=>t τ G fun c G1=>Br c (Q true G1) (u τ G1 Q)
def yc(t:cU):cU:=fun τ G Q=>t τ G fun c G1=>Q (!c) G1
theorem VO(ha:rY X a tA):yl X (.BoolOp .And [a] pos) tA:=pw_and1 ha
theorem VN(ha:rY X a tA):yl X (.BoolOp .Or [a] pos) tA:=pw_or1 ha
theorem VM(ha:rY X a tA)(hb:yl X (.BoolOp .And (b::rest) pos) tB):yl X (.BoolOp .And (a::b::rest) pos) (Cb tA tB):=pw_of (pw_and ha hb) fun σ H Q h=>by
 obtain⟨τ,G,Q3,RS,RG,h,k⟩:=h;refine⟨τ,G,_,RS,RG,h,fun c H1 G1 S1 R1 q1=>?_⟩;exact Br.ite q1 (fun q=>⟨τ,G1,Q3,RS.ext (S1.ext RG),R1,q,fun b' H' G' y1 y2 y3=>k b' H' G' (S1.trans y1) y2 y3⟩) fun q=>k false H1 G1 S1 R1 q
theorem VL(ha:rY X a tA)(hb:yl X (.BoolOp .Or (b::rest) pos) tB):yl X (.BoolOp .Or (a::b::rest) pos) (zN tA tB):=pw_of (pw_or ha hb) fun σ H Q h=>by
 obtain⟨τ,G,Q3,RS,RG,h,k⟩:=h;refine⟨τ,G,_,RS,RG,h,fun c H1 G1 S1 R1 q1=>?_⟩;exact Br.ite q1 (fun q=>k true H1 G1 S1 R1 q) fun q=>⟨τ,G1,Q3,RS.ext (S1.ext RG),R1,q,fun b' H' G' y1 y2 y3=>k b' H' G' (S1.trans y1) y2 y3⟩
theorem OD(h:yl X a tA):rY X a tA:=h.pt
theorem VJ(ha:rY X a tA):rY X (.UnaryOp .Not a pos) (yc tA):=Ff (Xl ha) fun σ H Q h=>by
 obtain⟨τ,G,Q3,RS,RG,h,k⟩:=h;exact⟨τ,G,_,RS,RG,h,fun c H1 G1 S1 R1 q1=>k _ H1 G1 S1 R1 q1⟩
def w9(ta tb:aQ):aQ:=fun τ G Q=>ta τ G fun x G1=>match x with
 |.bl c=>Br c (tb τ G1 Q) (Q (.bl false) G1)
 |_=>False
def B7(ta:aQ):aQ:=fun τ G Q=>ta τ G fun x G1=>match x with
 |.bl c=>Q (.bl (!c)) G1
 |_=>False
theorem VI{op}(h:bN X a ta):bN X (.BoolOp op [a] pos) ta:=Xk h
theorem VH(ha:bN X a ta)(hb:bN X (.BoolOp .And (b::rest) pos) tb):bN X (.BoolOp .And (a::b::rest) pos) (w9 ta tb):=jJ (Xj ha hb) fun σ H Q h=>by
 obtain⟨τ,G,Q3,RS,RG,h,k⟩:=h;refine⟨τ,G,_,RS,RG,h,fun v H1 d G1 h1 S1 R1 q1=>?_⟩;cases d with
 |bl c=>
  unfold Hv at h1;exact⟨c,h1,Br.ite q1 (fun q=>⟨τ,G1,Q3,RS.ext (S1.ext RG),R1,q,fun b' H' d' G' y0 y1 y2 y3=>k b' H' d' G' y0 (S1.trans y1) y2 y3⟩) fun q=>k _ H1 (.bl false) G1 (by simp[Hv]) S1 R1 q⟩
 |_=>exact q1.elim
theorem VG(ha:bN X a ta):bN X (.UnaryOp .Not a pos) (B7 ta):=jJ (Xi ha) fun σ H Q h=>by
 obtain⟨τ,G,Q3,RS,RG,h,k⟩:=h;refine⟨τ,G,_,RS,RG,h,fun v H1 d G1 h1 S1 R1 q1=>?_⟩;cases d with
 |bl c=>
  unfold Hv at h1;exact⟨c,h1,k _ H1 (.bl (!c)) G1 (by simp[Hv]) S1 R1 q1⟩
 |_=>exact q1.elim
def notStar:υ->Bool
 |.Starred ..=>false
 |_=>true
theorem fP{e:υ}{es:List υ}{env:dq}(h:notStar e=true):bI (e::es) env=(false,eval e env)::bI es env:=by
 cases e<;>first|rfl|(simp[notStar] at h)
theorem mi{pos:aN}{env:dq}:∀{es:List υ},es.all notStar=true->(backTo pos (bI es env)).any (·.1)=false
 |[],_=>rfl
 |e::es,h=>by
  rw[List.all_cons,cR] at h;rw[fP h.1];show (false||(backTo pos (bI es env)).any (·.1))=false;rw[mi h.2];rfl
def ai:dB:=fun _ G Q=>Q [] G
def ξ(ta:aQ)(tr:dB):dB:=fun τ G Q=>ta τ G fun x G1=>tr τ G1 fun xs G2=>Q (x::xs) G2
theorem VF:kG X [] ai:=Mm xH fun σ H Q ⟨τ,G,Q3,RS,RG,h,k⟩=>k [] H [] G .nil (.refl H G) RG h
theorem VE{tr:dB}(ha:bN X a ta)(hr:kG X es tr)(hs:notStar a=true:=by rfl):kG X (a::es) (ξ ta tr):=Mm (sJ ha hr (fP hs)) fun σ H Q h=>by
 obtain⟨τ,G,Q3,RS,RG,h,k⟩:=h;refine⟨τ,G,_,RS,RG,h,fun v1 H1 d1 G1 h1 S1 R1 q1=>?_⟩;refine⟨τ,G1,_,RS.ext (S1.ext RG),R1,q1,fun vs H2 ds G2 h2 S2 R2 q2=>?_⟩;exact k _ H2 _ G2 (.cons (h1.ext (S2.ext R1)) h2) (S1.trans S2) R2 q2
def uj{α:Type}(P:Prop):List α->Nat->Prop
 |[],_=>P
 |_::_,0=>False
 |_::xs,n+1=>uj P xs n
theorem Bd{α:Type}{P:Prop}:∀{xs:List α} {n:Nat},uj P xs n->xs.length≤n/\P
 |[],n,h=>⟨aI _,h⟩
 |_::_,0,h=>h.elim
 |_::xs,n+1,h=>by
  obtain⟨h1,h2⟩:=Bd (xs:=xs) (n:=n) h;exact⟨Nat.succ_le_succ h1,h2⟩
theorem zH{n:Nat}(h:n≤64):n≤aw:=aD h (by decide)
def nv(t:dB):aQ:=fun τ G Q=>t τ G fun ds G1=>uj (Q (.tup ds) G1) ds 64
def gP(t:dB):aQ:=fun τ G Q=>t τ G fun ds G1=>uj (∀p G2,eF G1 p (.lst ds) G2->Q (.obj p) G2) ds 64
theorem VD{t:dB}{x1}(h:kG X es t):bN X (.Tuple es x1 pos) (nv t):=jJ (Xb h) fun σ H Q h=>by
 obtain⟨τ,G,Q3,RS,RG,h,k⟩:=h;refine⟨τ,G,_,RS,RG,h,fun vs H1 ds G1 h1 S1 R1 q1=>?_⟩;obtain⟨z,q1⟩:=Bd q1;refine⟨by rw[←h1.length];exact zH z,fun p hp=>?_⟩;refine k _ _ (.tup ds) G1 ?_ (S1.trans (.laid hp)) (R1.laid hp) q1;unfold Hv;exact⟨p,vs,rfl,.of g6,h1.ext (.laid hp)⟩
theorem VC{t:dB}(h:kG X es t):bN X (.List es pos) (gP t):=jJ (Mf h) fun σ H Q h=>by
 obtain⟨τ,G,Q3,RS,RG,h,k⟩:=h;refine⟨τ,G,_,RS,RG,h,fun vs H1 ds G1 h1 S1 R1 q1=>?_⟩;obtain⟨z,q1⟩:=Bd q1;refine⟨by rw[←h1.length];exact zH z,fun p hp=>?_⟩;exact k _ _ (.obj p) (du G1 p (.lst ds)) (by simp[Hv]) (S1.trans (.hX hp)) (R1.hX hp ⟨vs,g6,h1.ext (.laid hp)⟩) (q1 p _ (.mk' (R1.free hp)))
end
end L3
namespace L2
open PySem PySem.Spec PyProof.Rows
def nz(env:dq):List (ν×fL)->List (ν×ζ)->List (ν×ζ)
 |[],acc=>acc
 | (n,k)::r,acc=>nz env r (if k=.free then (n,(env.cells.lookup n).getD 0)::acc else acc)
theorem LM{scope:eV}{env:dq}(h:∀y∈scope.names,y.2=.free->∃c,env.cells.lookup y.1=some c):closureFor scope env=pure (nz env scope.names []):=by
 have key:∀(l:List (ν×fL)) (acc:List (ν×ζ)),(∀y∈l,y.2=.free->∃c,env.cells.lookup y.1=some c) ->
   (forIn l acc fun (x:ν×fL) (r:List (ν×ζ))=>(do
    if (x.2==cZ)=true then do
     let a ←cellOf env x.1
     pure (ir ((x.1,a)::r))
    else pure (ir r):j7 (ForInStep (List (ν×ζ)))))=pure (nz env l acc):=by
  intro l
  induction l with
  |nil=>intro acc _;rfl
  |cons y r ih=>
   intro acc hy;obtain⟨n,k⟩:=y;rw[mL];by_cases hk:k=.free
   ·obtain⟨c,hc⟩:=hy (n,k) aa hk;have e1:cellOf env n=pure c:=by unfold cellOf;rw[show env.cells.lookup n=some c from hc]
    subst hk;simp only[beq_self_eq_true,if_true,e1,pure_bind];rw[ih _ fun y hy'=>hy y (Γ _ hy')];show _=pure (nz env r (if cZ=cZ then (n,(env.cells.lookup n).getD 0)::acc else acc));rw[if_pos rfl,show env.cells.lookup n=some c from hc];rfl
   ·have hb:(k==cZ)=false:=by simpa using hk
    simp only[hb,dF,if_false,pure_bind];rw[ih _ fun y hy'=>hy y (Γ _ hy')];show _=pure (nz env r (if k=cZ then (n,(env.cells.lookup n).getD 0)::acc else acc));rw[if_neg hk]
 have:=key scope.names [] h;unfold closureFor
 first
  |exact (by simpa using this)
  | (simp only[bind_pure];exact this)
theorem LL{env:dq}{x:ν}{c:ζ}:∀(l:List (ν×fL)) (acc:List (ν×ζ)),(nz env l acc).lookup x=some c ->
  acc.lookup x=some c∨((x,cZ)∈l/\c=(env.cells.lookup x).getD 0)
 |[],_,h=>.inl h
 | (n,k)::r,acc,h=>by
  rcases LL r _ h with q|⟨q1,q2⟩
  ·by_cases hk:k=.free
   ·rw[if_pos hk,cF] at q;by_cases hx:(x==n)=true
    ·rw[hx] at q;have hx':x=n:=by simpa using hx
     subst hx' hk;exact .inr ⟨aa,(aO q).symm⟩
    ·have hx2:(x==n)=false:=by simpa using hx
     rw[hx2] at q;exact .inl q
   ·rw[if_neg hk] at q;exact .inl q
  ·exact .inr ⟨Γ _ q1,q2⟩
theorem LK{env:dq}{x:ν}:∀(l:List (ν×fL)) (acc:List (ν×ζ)),acc.lookup x=some ((env.cells.lookup x).getD 0)->(nz env l acc).lookup x=some ((env.cells.lookup x).getD 0)
 |[],_,h=>h
 | (n,k)::r,acc,h=>by
  refine LK r _ ?_;by_cases hk:k=.free
  ·rw[if_pos hk,cF];by_cases hx:(x==n)=true
   ·rw[hx];have hx':x=n:=by simpa using hx
    rw[hx']
   ·have hx2:(x==n)=false:=by simpa using hx
    rw[hx2];exact h
  ·rw[if_neg hk];exact h
theorem LJ{env:dq}{x:ν}:∀(l:List (ν×fL)) (acc:List (ν×ζ)),(x,cZ)∈l->(nz env l acc).lookup x=some ((env.cells.lookup x).getD 0)
 |[],_,h=>by cases h
 | (n,k)::r,acc,h=>by
  rcases Ω.mp h with e|e
  ·cases e;refine LK r _ ?_;rw[if_pos rfl,cF,beq_self_eq_true]
  ·exact LJ r _ e
structure eK(N:List ν)(sc scope:eV)(own:List ν)(js:List Nat):Prop where
 kind:scope.kind=.function
 Dk:∀y∈scope.names,y.2≠.cell
 names:∀y∈scope.names,y.2=.local->scope.names.lookup y.1=some .local
 free:∀y∈scope.names,y.2=.free->sc.names.lookup y.1=some .cell/\own.contains y.1=false
 only:∀y∈scope.names,y.2=.free->scope.names.lookup y.1=some .free
 js:∀j∈js,j<N.length/\(N.getD j iU,cZ)∈scope.names
def aa1(N own:List ν)(js:List Nat):List ν:=own++js.map fun j=>N.getD j iU
def vk(own:List ν)(js:List Nat)(σ:St):St:=aA own.length none++js.map fun j=>(σ[j]?).getD none
def Cx.cmp(X:Cx)(scope:eV)(own:List ν)(js:List Nat)(s:θ)(H:Hp)(fp:List ζ):Cx:=
 { X with N:=aa1 X.N own js,s₀:=s,H₀:=H,env:=compEnvC scope (nz X.env scope.names []) s.heap.objs.size X.env,outer:=X.stack,ex:=fp,fn:=fun x=>own.contains x,pn:=[],xe:=fun _ _=>False }
theorem Bc{sc:eV}{env:dq}{x:ν}{k:fL}:∀(names:List (ν×fL)),
  (names.map fun (n,k)=>if (k==cZ&&env.scope.kind==.function&&env.kindOf n==some .cell) then (n,tV) else (n,k)).lookup x=some k ->
  (names.lookup x=some k/\(k≠.free∨k=.free))∨(k=.cell/\names.lookup x=some .free)
 |[],h=>by simp at h
 | (n,k')::r,h=>by
  have ih:=@Bc sc env x k r;have h':List.lookup x ((if (k'==cZ&&env.scope.kind==.function&&env.kindOf n==some .cell)=true then (n,tV) else (n,k'))::_)=some k:=h;rw[cF];by_cases hc:(k'==cZ&&env.scope.kind==.function&&env.kindOf n==some .cell)=true
  ·rw[if_pos hc,cF] at h';cases hx:x==n with
   |true=>
    rw[hx] at h';have e:tV=k:=aO h';have hk':k'=.free:=by
     rw[cR,cR] at hc;simpa using hc.1.1
    exact .inr ⟨e.symm,by rw[hk']⟩
   |false=>
    rw[hx] at h';exact ih h'
  ·rw[if_neg hc,cF] at h';cases hx:x==n with
   |true=>
    rw[hx] at h';have e:k'=k:=aO h';subst e;exact .inl ⟨rfl,by by_cases z:k'=.free;exact .inr z;exact .inl z⟩
   |false=>
    rw[hx] at h';exact ih h'
theorem Fe{x:ν}{k:fL}{l:List (ν×fL)}(h:l.lookup x=some k):(x,k)∈l:=fG h
section
variable {X:Cx} {pins:List (ζ×aH)} {σ:St} {H:Hp} {s:θ} {scope:eV} {own:List ν} {js:List Nat} {fp:List ζ}
theorem eK.cells(C:eK X.N X.env.scope scope own js)(ok:X.Ok):∀y∈scope.names,y.2=.free->∃c,X.env.cells.lookup y.1=some c:=fun y hy e=>
 ok.has y.1 (.inl (C.free y hy e).1)
theorem eK.vn(C:eK X.N X.env.scope scope own js)(ok:X.Ok){x:ν}{c:ζ}(h:(nz X.env scope.names []).lookup x=some c):(x,cZ)∈scope.names/\X.env.cells.lookup x=some c:=by
 rcases LL scope.names [] h with q|⟨q1,q2⟩
 ·cases q
 ·obtain⟨c',e⟩:=C.cells ok _ q1 rfl;refine⟨q1,?_⟩;rw[q2,show X.env.cells.lookup x=some c' from e];rfl
theorem eK.Du(C:eK X.N X.env.scope scope own js)(ok:X.Ok){x:ν}(h:(x,cZ)∈scope.names):∃c,(nz X.env scope.names []).lookup x=some c/\X.env.cells.lookup x=some c:=by
 obtain⟨c,e⟩:=C.cells ok _ h rfl;refine⟨c,?_,e⟩;rw[LJ scope.names [] h,show X.env.cells.lookup x=some c from e];rfl
theorem Inv.NV(I:Inv X pins σ H s)(C:eK X.N X.env.scope scope own js)(hf:∀b∈fp,j4 X pins H b/\b<s.heap.objs.size):(X.cmp scope own js s H fp).Ok where
 mod:=I.ok.mod
 kind:=C.kind
 glob:=I.ok.glob
 blt:=I.ok.blt
 above:=Φ _
 inj:=fun x y c h1 h2=>I.ok.inj x y c (C.vn I.ok h1).2 (C.vn I.ok h2).2
 has:=fun x h=>by
  have hfree:(x,cZ)∈scope.names:=by
   rcases h with h|h
   ·rcases Bc (sc:=scope) (env:=X.env) scope.names h with⟨q,_⟩|⟨_,q⟩
    ·exact absurd rfl (C.Dk _ (Fe q))
    ·exact Fe q
   ·rcases Bc (sc:=scope) (env:=X.env) scope.names h with⟨q,_⟩|⟨q,_⟩
    ·exact Fe q
    ·cases q
  obtain⟨c,e,_⟩:=C.Du I.ok hfree;exact⟨c,e⟩
 Am:=fun x c h1 h2=>by
  have q:=(C.free _ (C.vn I.ok h2).1 rfl).2;have h1':own.contains x=true:=h1;rw[q] at h1';cases h1'
 hd:=I.ok.hd
 frames:=I.ok.frames
 C4:=.inl rfl
 Dr:=fun b hb=>⟨bf (hf b hb).2,fun x c e=>(hf b hb).1.2.2.2.2.1 x c (C.vn I.ok e).2⟩
 bs:=I.bs
 uM:=aD I.ok.uM I.sz
 wu:=fun b o e hb=>by
  rcases (hf b hb).1.2.2.2.1 with z|z
  ·exact I.ok.wu b o e z
  ·exact absurd (bu (Θ e) (aD I.ok.uM z)) (cE _)
 xZ:=fun b hb z=>by
  rcases Ω.mp (I.ui b z) with e|e
  ·exact (hf b hb).1.2.1 e
  ·exact (hf b hb).1.2.2.1 e
 ml:=I.stack
 yh:=I.lQ
theorem VB{N:List ν}{js:List Nat}{i:Nat}{x:ν}(h:(js.map fun j=>N.getD j iU)[i]?=some x):∃j,js[i]?=some j/\x=N.getD j iU:=by
 rw[aK] at h;cases e:js[i]? with
 |none=>rw[e] at h;cases h
 |some j=>rw[e] at h;exact⟨j,rfl,(aO h).symm⟩
theorem Inv.cmp(I:Inv X pins σ H s)(C:eK X.N X.env.scope scope own js)(hf:∀b∈fp,j4 X pins H b/\b<s.heap.objs.size){h':Ψ}{tk:Nat}(hn:h'.Ns s.heap.objs.size fun _=>none)
  (kept:∀b o,s.heap.get? b=some o->h'.get? b=some o):Inv (X.cmp scope own js s H fp) [] (vk own js σ) H { s with heap:=h',toks:=tk }:=by
 have ok:=I.NV C hf;refine⟨ok,rfl,I.bare,Un.kept kept,⟨_,hn,fun i x v h1 h2 h3=>?_⟩,fun x c e=>?_,I.bJ.fresh (Φ _),fun x c e=>I.ko x c (C.vn I.ok e).2,fun p hp=>?_,I.bJ.kept kept,?_⟩
 ·have h1':(own++js.map fun j=>X.N.getD j iU)[i]?=some x:=h1;have h2':(aA own.length none++js.map fun j=>(σ[j]?).getD none)[i]?=some (some v):=h2;by_cases hi:i<own.length
  ·rw[eW (by simpa using hi),g9,if_pos hi] at h2';cases h2'
  ·rw[eL (by lia)] at h1';rw[eL (by simp;lia),gm] at h2';obtain⟨j,hj,rfl⟩:=VB h1';rw[aK,hj] at h2';have h2'':(σ[j]?).getD none=some v:=aO h2';have hσ:σ[j]?=some (some v):=by
    cases e:σ[j]? with
    |none=>rw[e] at h2'';cases h2''
    |some o=>
     rw[e] at h2'';have:o=some v:=h2'';rw[this]
   obtain⟨jl,jf⟩:=C.js j (bF hj);have hN:X.N[j]?=some (X.N.getD j iU):=by
    rw[bL,aE jl];rfl
   have hcell:=(C.free _ jf rfl).1;obtain⟨m,hm,hl⟩:=I.loc;obtain⟨u,ru,lk⟩:=hl j _ v hN hσ (.inr (.inl hcell));refine⟨u,ru,?_⟩;obtain⟨c,e1,e2⟩:=C.Du I.ok jf;rcases lk with⟨z,_⟩|⟨_,c',z1,z2⟩
   ·have z':X.env.scope.names.lookup (X.N.getD j iU)=some .local:=z;rw[show X.env.scope.names.lookup (X.N.getD j iU)=some .cell from hcell] at z';cases z'
   ·rw[e2] at z1;cases z1;have ic:h'.IsCell c (some u):=by
     obtain⟨o,q1,q2⟩:=z2;exact⟨o,kept _ _ q1,q2⟩
    rcases h3 with h3|h3|h3
    ·exfalso;rcases Bc (sc:=scope) (env:=X.env) scope.names h3 with⟨q,_⟩|⟨q,_⟩
     ·have z:=C.only _ jf rfl;rw[q] at z;cases z
     ·cases q
    ·exact .inr ⟨.inl h3,c,e1,ic⟩
    ·exact .inr ⟨.inr h3,c,e1,ic⟩
 ·obtain⟨v,o,q1,q2⟩:=I.cell x c (C.vn I.ok e).2;exact⟨v,o,kept _ _ q1,q2⟩
 ·exact absurd (show p∈([]:List (ζ×aH)) from hp) (by simp)
 ·show (aA own.length none++js.map fun j=>(σ[j]?).getD none).length=(own++js.map fun j=>X.N.getD j iU).length;simp
theorem Inv.Nh{σ':St}{H':Hp}{s':θ}{pl:List (ζ×aH)}(I:Inv X pins σ H s)(hf:∀b∈fp,j4 X pins H b/\b<s.heap.objs.size)(J:Inv (X.cmp scope own js s H fp) pl σ' H' s'):Inv X pins σ H' s':=by
 refine I.CF (ch:=fp) J.os J.base J.bJ J.bare fun b hb=>?_;obtain⟨f0,f1,f2,f3,f4,f5⟩:=(hf b hb).1;exact⟨f3,f1,f4,f5⟩
theorem Inv.other{H':Hp}{s':θ}{h':Ψ}{b:ζ}(I0:Inv X pins σ H s)(I:Inv X pins σ H' s')(hb:s.heap.objs.size≤b)(hn:H' b=none)(sb:cQ b s'.heap h'):Inv X pins σ H' { s' with heap:=h' }:=by
 obtain⟨f0,f1,f2,f3,f4,f5⟩:=I0.tj hb hn;exact I.turned (t':=s'.toks) (fun c o hc e=>(sb.2 c hc).trans e) f0 f1 f3 f4 f5
end
def vP(X:Cx)(ifs:List υ)(t:TT):Prop:=
 ∀(pins:List (ζ×aH)) (s:θ) (σ:St) (H:Hp) (Q:Bool->Hp->Prop),Inv X pins σ H s->t σ H Q ->
  ρ (model X.prog X.w) X.A (forIn ifs true fun c r=>if r=true then do let ok ←isTrue c X.env (eval c X.env);pure (ir ok) else pure (ir r)) (TP X pins σ Q) X.xe s
def HB:TT:=fun _ H Q=>Q true H
theorem VA{X:Cx}:vP X [] HB:=fun _ _ _ H _ I h=>wpAny_tests_nil ⟨H,I,h⟩
theorem Vz{X:Cx}{c:υ}{t:TT}(h:PT X c t):vP X [c] t:=fun pins s σ H Q I hq=>wpAny_tests_one (h pins s σ H Q I hq)
section
variable {prog:ag} {w:av} {A:aJ} {R:Result->θ->Prop} {s:θ}
theorem Vy{elt target iter:υ}{ifs:List υ}{scope:eV}{pos:aN}{it acc:ε}{env:dq}(I:Nat->θ->Prop)
  (turn:∀n s,I n s->ρ (model prog w) A (pyNext it) (fun r s₁=>match r with
   |none=>R (.ok .next) s₁
   | some v=>ρ (model prog w) A (letOwnedTupleGo target it v) (fun _ s₁'=>ρ (model prog w) A (assign target env v) (fun _ s₂=>
     ρ (model prog w) A (forIn ifs true fun c r=>if r=true then do let ok ←isTrue c env (eval c env);pure (ir ok) else pure (ir r)) (fun ok s₃=>
      if ok=true then ρ (model prog w) A (eval elt env) (fun x s₄=>
       ρ (model prog w) A (call (.builtin "list.append") [acc,x]) (fun _ s₅=>∃m,m<n/\I m s₅) (fun _ _=>False) s₄) (fun _ _=>False) s₃
      else ∃m,m<n/\I m s₃) (fun _ _=>False) s₂) (fun _ _=>False) s₁') (fun _ _=>False) s₁) (fun _ _=>False) s)
  (n:Nat) (h:I n s):
  iL (model prog w) A (.compLoop (.ListComp elt [⟨target,iter,ifs,0⟩] scope pos) 0 it acc env) R s:=by
 refine codeAny_loop rfl I (fun n s hI=>?_) n h;show ρ _ A ((compTurn (.ListComp elt [⟨target,iter,ifs,0⟩] scope pos) 0 it acc env).onRaise (fun x=>do noteFrame x env;theTreesLotGoes x)) _ _ s
 refine wpAny_noted ?_;rw[compTurn_list];refine δ (hU (δ (cS (turn n s hI) (fun r s₁ h₁=>?_) fun _ _ h'=>h'.elim)));cases r with
 |none=>exact μ h₁
 |some v=>
  refine δ (cS h₁ (fun _ s₁' h₁'=>?_) fun _ _ h'=>h'.elim);refine δ (cS h₁' (fun _ s₂ h₂=>δ (cS h₂ (fun ok s₃ h₃=>?_) fun _ _ h'=>h'.elim)) fun _ _ h'=>h'.elim);cases ok with
  |false=>exact μ ⟨rfl,h₃⟩
  |true=>
   exact δ (δ (cS h₃ (fun x s₄ h₄=>δ (cS h₄ (fun _ s₅ h₅=>μ (μ ⟨rfl,h₅⟩)) fun _ _ h'=>h'.elim)) fun _ _ h'=>h'.elim))
end
def M8(own:List ν)(js:List Nat)(g:TG)(tc:TT)(te:TE)(J:It)(σ:St)(H:Hp)(Q:VK):Prop:=
 ∀D,H D=none->∃W:Nat->Nat->List V->St->Hp->Prop,(∃m,W 0 m [] (vk own js σ) (upd H D (.lst [])))/\∀i m ys σ' H',W i m ys σ' H'->H' D=some (.lst ys) ∧
  ((J.stop i H'/\Q (.ref D) H')∨(J.go i H'/\ys.length<aw/\∀x H2,J.Gj i H' x H2->g x σ' H2 fun σ2 H3=>tc σ2 H3 fun b H4=>
   if b=true then te σ2 H4 fun v H5=>H5 D=some (.lst ys)/\∃m',m' < m/\W (i+1) m' (ys++[v]) σ2 (upd H5 D (.lst (ys++[v]))) else ∃m',m' < m/\W (i+1) m' ys σ2 H4))
def HZ(own:List ν)(js:List Nat)(wi:TI)(g:TG)(tc:TT)(te:TE):TE:=fun σ H Q=>wi σ H fun J H1=>M8 own js g tc te J σ H1 Q
section
variable {X:Cx} {tg iter elt:υ} {ifs:List υ} {scope:eV} {pos:aN} {own:List ν} {js:List Nat} {g:TG} {tc:TT} {te:TE}
theorem LI{pins:List (ζ×aH)}{σ:St}{H:Hp}{s:θ}{Q:VK}{it:ζ}{fp:List ζ}{tn:Nat->Ψ->Prop}{J:It}{E:ε->θ->Prop}{RR:ε->ζ->Result->θ->Prop}
  (hc:X.calm=true) (C:eK X.N X.env.scope scope own js)
  (hb:∀s H fp,PG (X.cmp scope own js s H fp) tg g/\vP (X.cmp scope own js s H fp) ifs tc/\PE (X.cmp scope own js s H fp) elt te)
  (I:Inv X pins σ H s) (T:Turn X.prog X.w X.K tg J fp it tn) (st:tn 0 s.heap) (hf:∀b∈fp,j4 X pins H b) (rd:M8 own js g tc te J σ H Q)
  (hRR:∀D N s' H',Inv X pins σ H' s'->Q (.ref D) H'->s.heap.objs.size≤N->H' N=none->(∃m,s'.heap.Ns N m)->RR (.ref D) N (.ok .next) s'):
  ρ (model X.prog X.w) X.A (newList []) (fun acc s₃=>ρ (model X.prog X.w) X.A (newFunctionEnv scope X.env.globals (nz X.env scope.names []) [] X.env.qual none .none (some X.env)) (fun cenv s₄=>
   iL (model X.prog X.w) X.A (.compStart (.ListComp elt [⟨tg,iter,ifs,0⟩] scope pos) 0 (.ref it) acc { cenv with scope:=relabel scope X.env }) (RR acc cenv.locals) s₄) E s₃) E s:=by
 have hD:H s.heap.objs.size=none:=I.fresh;obtain⟨W,⟨m0,w0⟩,turn⟩:=rd s.heap.objs.size hD;refine bz ?_;have hI3:Inv X pins σ (upd H s.heap.objs.size (.lst [])) { s with heap:=s.heap.push { cls:=.type "list",data:=.seq ([]:List ε).toArray }}:=
  I.BC (t':=s.toks) (its:=[]) (ys:=[]) .nil (aI _)
 have hlt:∀b∈fp,b<s.heap.objs.size:=fun b hb=>by
  obtain⟨o,e,_⟩:=T.obj 0 _ st b hb;exact Θ e
 have st3:tn 0 (s.heap.push { cls:=.type "list",data:=.seq ([]:List ε).toArray }):=T.keep 0 _ _ st fun b _ o e=>ι _ e;generalize hs3:({ s with heap:=s.heap.push { cls:=.type "list",data:=.seq ([]:List ε).toArray }}:θ)=s3 at hI3 ⊢;have hsz3:s3.heap.objs.size=s.heap.objs.size+1:=by rw[←hs3];exact dN ..
 have st3':tn 0 s3.heap:=by rw[←hs3];exact st3
 have hf3:∀b∈fp,j4 X pins (upd H s.heap.objs.size (.lst [])) b/\b<s3.heap.objs.size:=fun b hb=>by
  obtain⟨f0,f1⟩:=hf b hb;refine⟨⟨?_,f1⟩,by rw[hsz3];exact iC (hlt b hb)⟩;rw[dA (bf (hlt b hb))];exact f0
 refine wpAny_newFunctionEnv C.Dk (by intro y hy;simp at hy) (fun h₁ hns₁ hsb₁=>?_) C.kind;have kept1:∀b o,s3.heap.get? b=some o->h₁.get? b=some o:=fun b o e=>(hsb₁.2 b (bf (Θ e))).trans (ι _ e);have I4:Inv (X.cmp scope own js s3 (upd H s.heap.objs.size (.lst [])) fp) [] (vk own js σ) (upd H s.heap.objs.size (.lst [])) { s3 with heap:=h₁,toks:=s3.toks+([]:List (ν×ε)).length }:=
  hI3.cmp C hf3 hns₁ kept1
 have st4:tn 0 h₁:=T.keep 0 _ _ st3' fun b _ o e=>kept1 b o e;obtain⟨hg,ht,he⟩:=hb s3 (upd H s.heap.objs.size (.lst [])) fp
 -- the iterator's objects in the block's context
 have stat:∀{H':Hp},(∀b∈fp,H' b=none)->∀b∈fp,j4 (X.cmp scope own js s3 (upd H s.heap.objs.size (.lst [])) fp) [] H' b:=fun {H'} hn b hb=>by
  have q:=I4.ok;exact⟨hn b hb,(q.Dr b hb).1,q.xZ b hb,.inl hb,(q.Dr b hb).2,fun p hp=>absurd (show p∈([]:List (ζ×aH)) from hp) (by simp)⟩
 have loop:iL (model X.prog X.w) X.A (.compLoop (.ListComp elt [⟨tg,iter,ifs,0⟩] scope pos) 0 (.ref it) (.ref s.heap.objs.size) (compEnvC scope (nz X.env scope.names []) s3.heap.objs.size X.env))
   (RR (.ref s.heap.objs.size) s3.heap.objs.size) { s3 with heap:=h₁,toks:=s3.toks+([]:List (ν×ε)).length }:=by
  refine Vy (fun n s'=>∃i ys σ' H',Inv (X.cmp scope own js s3 (upd H s.heap.objs.size (.lst [])) fp) [] σ' H' s'/\tn i s'.heap/\(∀b∈fp,H' b=none)/\W i n ys σ' H') ?_ m0
   ⟨0,[],_,_,I4,st4,fun b hb=>(hf3 b hb).1.1,w0⟩
  rintro n s5 ⟨i,ys,σ5,H5,I5,st5,fr5,w5⟩;obtain⟨hacc,hcase⟩:=turn i n ys σ5 H5 w5;rcases hcase with⟨stop,qn⟩|⟨go,hys,step⟩
  ·refine bO (T.done (X.cmp scope own js s3 (upd H s.heap.objs.size (.lst [])) fp) rfl rfl rfl hc i [] s5 σ5 H5 (fun _ _=>False) I5 (stat fr5) st5 stop) fun r s6 ⟨hr,I6⟩=>?_;subst hr;have I7:=hI3.Nh hf3 I6;obtain⟨m,hm,_⟩:=I6.loc;exact hRR _ _ _ _ I7 qn (by rw[hsz3];exact rG _) I6.free ⟨m,hm⟩
  ·refine bO (T.item (X.cmp scope own js s3 (upd H s.heap.objs.size (.lst [])) fp) rfl rfl rfl hc i [] s5 σ5 H5 (fun _ _=>False) I5 (stat fr5) st5 go) fun r s6 ⟨u,hr,h6⟩=>?_;subst hr;refine bO h6 fun _ s7 ⟨x,H7,I7,r7,y7,st7,fr7⟩=>?_;have I7':=I7.pinned (stat fr7) (T.obj _ _ st7);refine bO (hg _ s7 σ5 H7 x u _ I7' r7 (step x H7 y7)) fun _ s8 ⟨σ8,H8,I8,q8⟩=>?_;refine bO (ht _ s8 σ8 H8 _ I8 q8) fun ok s9 ⟨H9,I9,q9⟩=>?_;have back:∀{σ':St} {H':Hp} {s':θ} {ys':List V},Inv (X.cmp scope own js s3 (upd H s.heap.objs.size (.lst [])) fp) ([]++uB fp s7.heap) σ' H' s'->(∃m',m' < n/\W (i+1) m' ys' σ' H') ->
     ∃m',m' < n/\∃i ys σ' H',Inv (X.cmp scope own js s3 (upd H s.heap.objs.size (.lst [])) fp) [] σ' H' s'/\tn i s'.heap/\(∀b∈fp,H' b=none)/\W i m' ys σ' H':=fun {σ' H' s' ys'} I' ⟨m',hm,w'⟩=>by
    refine⟨m',hm,i+1,ys',σ',H',I'.sE,T.keep _ _ _ st7 fun b hb o e=>(I'.pin (b,o) (bG _ (bG _ (Bh hb e)))).1,fun b hb=>?_,w'⟩;obtain⟨o,e,d⟩:=T.obj _ _ st7 b hb;exact (I'.pin (b,o) (bG _ (bG _ (Bh hb e)))).2.1
   cases ok with
   |false=>
    rw[if_neg ay] at q9 ⊢;exact back I9 q9
   |true=>
    rw[if_pos rfl] at q9 ⊢;refine bO (he _ s9 σ8 H9 _ I9 q9) fun xv s10 ⟨v,H10,I10,r10,hD10,q10⟩=>?_;refine bO (LY (X:=X.cmp scope own js s3 (upd H s.heap.objs.size (.lst [])) fp) _ s10 σ8 H10 (.ref s.heap.objs.size) [v] (.ref s.heap.objs.size) [xv] (fun _ H'=>H'=upd H10 s.heap.objs.size (.lst (ys++[v]))) I10 rfl (.cons r10 .nil)
     ⟨_,ys,v,rfl,rfl,hD10,hys,rfl⟩) fun _ s11 ⟨_,H11,I11,_,e11⟩=>?_
    subst e11;exact back I11 q10
 exact codeAny_compStart_list loop (T.self _ 0 _ _ _ st4 loop)
theorem Vx{wi:TI}(hc:X.calm=true)(C:eK X.N X.env.scope scope own js)(hi:PI X tg iter wi)
  (hb:∀s H fp,PG (X.cmp scope own js s H fp) tg g/\vP (X.cmp scope own js s H fp) ifs tc/\PE (X.cmp scope own js s H fp) elt te)
  (hs:∀x,foldedSetIterable iter X.env x=pure x:=by intro _;rfl):PE X (.ListComp elt [⟨tg,iter,ifs,0⟩] scope pos) (HZ own js wi g tc te):=by
 intro pins s σ H Q I h;rw[eval_ListComp];refine qk (use:=none) rfl hs (LM (C.cells I.ok)) C.kind C.names (bO (hi pins s σ H _ I h) fun xv s₁ h₁=>bO h₁ fun itv s₂ h₂=>?_);obtain⟨it,fp,tn,J,H2,e,I2,T,st2,f2,rd⟩:=h₂;subst e;refine LI (RR:=fun acc C'=>compPost (model X.prog X.w) X.A X.xe none (EP X pins σ Q) acc C') hc C hb I2 T st2 f2 rd fun D N s' H' I' q hN hHN ⟨m,hm⟩=>?_;exact⟨m,hm,fun h' sb=>⟨.ref D,H',I2.other I' hN hHN sb,rfl,q⟩⟩
theorem Vw{wi:TI}{i:Nat}{y:ν}{py spos:aN}(hc:X.calm=true)(hN:X.N.Nodup)(hy:X.N[i]?=some y)(hyl:X.env.scope.names.lookup y=some .local)(C:eK X.N X.env.scope scope own js)(hi:PI X tg iter wi)
  (hb:∀s H fp,PG (X.cmp scope own js s H fp) tg g/\vP (X.cmp scope own js s H fp) ifs tc/\PE (X.cmp scope own js s H fp) elt te)
  (Dq:swapsWith (.ListComp elt [⟨tg,iter,ifs,0⟩] scope pos) (some (.Name y py)) spos.line X.env=pure true:=by rfl)
  (hs:∀x,foldedSetIterable iter X.env x=pure x:=by intro _;rfl):PS X (.Assign [.Name y py] (.ListComp elt [⟨tg,iter,ifs,0⟩] scope pos) spos) (DC (HZ own js wi g tc te) (BH i)):=by
 intro pins s σ H D I h;rw[exec_Assign_Name_used _ _ _ _ Dq];refine δ (hU (δ ?_));show ρ _ X.A (do let _ ←comprehension (.ListComp elt [⟨tg,iter,ifs,0⟩] scope pos) scope X.env _ (newList []) false (eval iter X.env) (some (assign (.Name y py) X.env))) _ _ s;refine δ (cS (qk (use:=some (assign (.Name y py) X.env)) (Q:=fun _ s'=>SP X pins D .next s') rfl hs (LM (C.cells I.ok)) C.kind C.names
  (bO (hi pins s σ H _ I h) fun xv s₁ h₁=>bO h₁ fun itv s₂ h₂=>?_)) (fun _ s' hq=>μ (μ hq)) fun _ _ e=>e)
 obtain⟨it,fp,tn,J,H2,e,I2,T,st2,f2,rd⟩:=h₂;subst e;refine LI (RR:=fun acc C'=>compPost (model X.prog X.w) X.A X.xe (some (assign (.Name y py) X.env)) (fun _ s'=>SP X pins D .next s') acc C') hc C hb I2 T st2 f2 rd fun L N s' H' I' q hN' hHN ⟨m,hm⟩=>?_
 show ρ _ _ (assign (.Name y py) X.env (.ref L)) _ _ _;refine wpAny_assign_Name (Fl I' hN hy (.inl hyl) (v:=.ref L) rfl (fun s'' I'' ⟨a,sb,ha⟩=>?_) (.inr hyl));have hNa:N≠a:=by
  obtain⟨f0,f1,f2,f3,f4,f5⟩:=I2.tj hN' hHN;rcases ha with rfl|ha
  ·exact f1
  ·exact dy (f4 _ _ ha)
 refine⟨m,hm.sameBut sb hNa,fun h'' sb''=>?_⟩;refine⟨σ.set i (some (.ref L)),H',?_,q⟩;obtain⟨f0,f1,f2,f3,f4,f5⟩:=I2.tj hN' hHN;exact I''.turned (t':=s''.toks) (fun c o hc e=>(sb''.2 c hc).trans e) f0 f1 f3 f4 f5
end
end L2
namespace L3
open PySem PySem.Spec PyProof.Rows L2
section
variable {X:Cx} {st:aM} {rest:List aM} {t u:ao} {e c:υ} {te:aQ} {tc:cU} {pos:aN}
def fb:ao:=fun D τ G=>D.nx τ G
def aY(t u:ao):ao:=fun D τ G=>t { D with nx:=u D } τ G
theorem Vv:jC X [] fb:=Ml Xh fun D σ H ⟨τ,G,D3,RS,RG,h,k⟩=>k.nx τ σ G H RS (.refl H G) RG h
theorem Vu(h1:pk X st t)(h2:jC X rest u):jC X (st::rest) (aY t u):=Ml (Xg h1 h2) fun D σ H ⟨τ,G,D3,RS,RG,h,k⟩=>
 ⟨τ,G,{ D3 with nx:=u D3 },RS,RG,h,⟨fun τ' σ' G' H' a b c q=>⟨τ',G',D3,a,c,q,k.step b⟩,k.bk,k.ct,k.rt⟩⟩
theorem Vt(h1:pk X st t):jC X [st] t:=Xf h1
def qM(te:aQ):ao:=fun D τ G=>te τ G fun _ G1=>D.nx τ G1
theorem Vs(he:bN X e te)(hs:swapsWith e none pos.line X.env=pure false:=by rfl):pk X (.Expr e pos) (qM te):=oI (XI he hs) fun D σ H ⟨τ,G,D3,RS,RG,h,k⟩=>
 ⟨τ,G,_,RS,RG,h,fun v H1 d G1 h1 S1 R1 q1=>k.nx τ σ G1 H1 (RS.ext (S1.ext RG)) S1 R1 q1⟩
def cP(te:aQ):ao:=fun D τ G=>te τ G D.rt
theorem Vr(he:bN X e te):pk X (.Return (some e) pos) (cP te):=oI (XH he) fun D σ H ⟨τ,G,D3,RS,RG,h,k⟩=>
 ⟨τ,G,D3.rt,RS,RG,h,fun v H1 d G1 h1 S1 R1 q1=>k.rt d v G1 H1 h1 S1 R1 q1⟩
def ix(c:cU)(t u:ao):ao:=fun D τ G=>c τ G fun b G1=>Br b (t D τ G1) (u D τ G1)
theorem OO{a b:List aM}(hc:rY X c tc)(ha:jC X a t)(hb:jC X b u):pk X (.If c a b pos) (ix tc t u):=oI (XG hc ha hb) fun D σ H ⟨τ,G,D3,RS,RG,h,k⟩=>
 ⟨τ,G,_,RS,RG,h,fun b H1 G1 S1 R1 q1=>Br.ite q1 (fun q=>⟨τ,G1,D3,RS.ext (S1.ext RG),R1,q,k.step S1⟩) fun q=>⟨τ,G1,D3,RS.ext (S1.ext RG),R1,q,k.step S1⟩⟩
end
abbrev iT:=D->S3->Gp->(S3->Gp->Prop)->Prop
abbrev qg:=List D->S3->Gp->(S3->Gp->Prop)->Prop
def lowG(K:η)(t:iT):TG:=fun v σ H Q=>∃d τ G Q3,Hv K H d v/\eB K τ σ H/\aV K G H/\t d τ G Q3/\∀τ' σ' G' H',eB K τ' σ' H'->Step H G H' G'->aV K G' H'->Q3 τ' G'->Q σ' H'
def NO(K:η)(t:qg):xb:=fun vs σ H Q=>∃ds τ G Q3,aR K H ds vs/\eB K τ σ H/\aV K G H/\t ds τ G Q3/\∀τ' σ' G' H',eB K τ' σ' H'->Step H G H' G'->aV K G' H'->Q3 τ' G'->Q σ' H'
abbrev xf(X:Cx)(tg:υ)(t:iT):Prop:=PG X tg (lowG X.K t)
abbrev zQ(X:Cx)(tgs:List υ)(t:qg):Prop:=zR X tgs (NO X.K t)
section
variable {X:Cx} {pos:aN} {e:υ} {es:List υ}
theorem Fw{t t':TG}(h:PG X e t)(f:∀v σ H Q,t' v σ H Q->t v σ H Q):PG X e t':=fun pins s σ H v u Q I r q=>h pins s σ H v u Q I r (f v σ H Q q)
theorem LH{t t':xb}(h:zR X es t)(f:∀v σ H Q,t' v σ H Q->t v σ H Q):zR X es t':=fun pins s σ H v u Q I r q=>h pins s σ H v u Q I r (f v σ H Q q)
def hName(i:Nat):iT:=fun d τ G Q=>Q (iX τ i d) G
theorem Vq{i:Nat}{x:ν}(hN:X.N.Nodup)(hi:X.N[i]?=some x:=by rfl)(hx:Loc X.env.scope x:=by first|exact ka rfl|exact ip rfl)(hf:X.fn x=true∨X.env.scope.names.lookup x=some .local:=by first|exact .inl rfl|exact .inr rfl|assumption):xf X (.Name x pos) (hName i):=
 Fw (XF hN hi hx hf) fun v σ H Q ⟨d,τ,G,Q3,hd,RS,RG,h,k⟩=>k _ _ G H (RS.set hd) (.refl H G) RG h
def uJ:qg:=fun ds τ G Q=>match ds with
 |[]=>Q τ G
 |_::_=>False
def jK(t:iT)(u:qg):qg:=fun ds τ G Q=>match ds with
 |[]=>False
 |d::r=>t d τ G fun τ' G'=>u r τ' G' Q
theorem V0:zQ X [] uJ:=LH XD fun vs σ H Q ⟨ds,τ,G,Q3,hd,RS,RG,h,k⟩=>by
 cases ds with
 |nil=>exact⟨hd.i5,k _ _ G H RS (.refl H G) RG h⟩
 |cons d r=>exact h.elim
theorem VZ{t:iT}{u:qg}(h1:xf X e t)(h2:zQ X es u)(hs:(assignEach (e::es) X.env).map (·.2)=assign e X.env::(assignEach es X.env).map (·.2):=by rfl):zQ X (e::es) (jK t u):=
 LH (XC h1 h2 hs) fun vs σ H Q ⟨ds,τ,G,Q3,hd,RS,RG,h,k⟩=>by
  cases ds with
  |nil=>exact h.elim
  |cons d r=>
   obtain⟨v,vr,rfl,q1,q2⟩:=hd.inv;refine⟨v,vr,rfl,d,τ,G,_,q1,RS,RG,h,fun τ' σ' G' H' a b c q=>?_⟩;exact⟨r,τ',G',Q3,q2.ext (b.ext RG),a,c,q,fun τ2 σ2 G2 H2 a2 b2 c2=>k τ2 σ2 G2 H2 a2 (b.trans b2) c2⟩
def uI(n:Nat)(t:qg):iT:=fun d τ G Q=>match d with
 |.tup ds=>ds.length=n/\t ds τ G Q
 |_=>False
theorem VY{k:Nat}{t:qg}{n:Nat}(hc:X.calm=true)(h:zQ X es t)(hn:(assignEach es X.env).length=n:=by rfl)(hst:(assignEach es X.env).findIdx? (·.1)=none:=by rfl):xf X (.Tuple es k pos) (uI n t):=
 Fw (XB hc h hn hst) fun v σ H Q ⟨d,τ,G,Q3,hd,RS,RG,h,k⟩=>by
  cases d with
  |tup ds=>
   unfold Hv at hd;obtain⟨a,vs,e1,e2,e3⟩:=hd;exact⟨a,vs,e1,e2,by rw[←e3.length];exact h.1,ds,τ,G,Q3,e3,RS,RG,h.2,k⟩
  |_=>exact h.elim
def bt(te:aQ)(g:iT):ao:=fun D τ G=>te τ G fun x G1=>g x τ G1 D.nx
theorem VX{tg:υ}{te:aQ}{g:iT}(he:bN X e te)(hg:xf X tg g)(hs:swapsWithSole [tg] e pos.line X.env=pure false:=by rfl)(hw:swappedStores [tg] e X.env=pure none:=by rfl)
  (h1:(assignEach [tg] X.env).map (·.2)=[assign tg X.env]:=by rfl):pk X (.Assign [tg] e pos) (bt te g):=oI (Xz he hg hs hw h1) fun D σ H ⟨τ,G,D3,RS,RG,h,k⟩=>
 ⟨τ,G,_,RS,RG,h,fun v H1 d G1 h1 S1 R1 q1=>⟨d,τ,G1,D3.nx,h1,RS.ext (S1.ext RG),R1,q1,fun τ' σ' G' H' a b c q=>k.nx τ' σ' G' H' a (S1.trans b) c q⟩⟩
theorem VW{i:Nat}{x:ν}{te:aQ}{pos':aN}(hN:X.N.Nodup)(he:bN X e te)(hi:X.N[i]?=some x:=by rfl)(hx:Loc X.env.scope x:=by first|exact ka rfl|exact ip rfl)(hs:swapsWith e (some (.Name x pos')) pos.line X.env=pure false:=by rfl)
  (hf:X.fn x=true∨X.env.scope.names.lookup x=some .local:=by first|exact .inl rfl|exact .inr rfl|assumption):pk X (.Assign [.Name x pos'] e pos) (bt te (hName i)):=oI (Xy hN hi hx he hs hf) fun D σ H ⟨τ,G,D3,RS,RG,h,k⟩=>
 ⟨τ,G,_,RS,RG,h,fun v H1 d G1 h1 S1 R1 q1=>k.nx _ _ G1 H1 ((RS.ext (S1.ext RG)).set h1) S1 R1 q1⟩
def DF(i j:Nat)(ta:dB):ao:=fun D τ G=>ta τ G fun ds G1=>match ds with
 |[a,b]=>D.nx (iX (iX τ i a) j b) G1
 |_=>False
theorem VV{i j:Nat}{st:aM}{ta:dB}(h:PS X st (HX i j (wA X.K ta))):pk X st (DF i j ta):=oI h fun D σ H ⟨τ,G,D3,RS,RG,h,k⟩=>
 ⟨τ,G,_,RS,RG,h,fun vs H1 ds G1 h1 S1 R1 q1=>by
  match ds,h1,q1 with
  |[a,b],h1,q1=>
   obtain⟨v,r,rfl,z1,z2⟩:=h1.inv;obtain⟨w,r2,rfl,z3,z4⟩:=z2.inv;cases z4.i5;exact⟨v,w,rfl,k.nx _ _ G1 H1 (((RS.ext (S1.ext RG)).set z1).set z3) S1 R1 q1⟩
  |[],_,q1=>exact q1.elim
  |[_],_,q1=>exact q1.elim
  |_::_::_::_,_,q1=>exact q1.elim⟩
def Az(i:Nat)(te:aQ)(r:R3):ao:=fun D τ G=>match jL τ i with
 |some x=>te τ G fun y G1=>r x y G1 fun z G2=>D.nx (iX τ i z) G2
 |none=>False
theorem VU{i:Nat}{x:ν}{te:aQ}{op:nE}{r:R3}{r2:Aq}{pos':aN}(L:fh X.K r r2)(hN:X.N.Nodup)(he:bN X e te)(ho:Hg X op r2)(hi:X.N[i]?=some x:=by rfl)(hx:Loc X.env.scope x:=by first|exact ka rfl|exact ip rfl)(hf:X.fn x=true∨X.env.scope.names.lookup x=some .local:=by first|exact .inl rfl|exact .inr rfl|assumption):
  pk X (.AugAssign (.Name x pos') op e pos) (Az i te r):=oI (W3 hN hi hx he ho hf) fun D σ H ⟨τ,G,D3,RS,RG,h,k⟩=>by
 unfold Az at h;cases hd:jL τ i with
 |none=>rw[hd] at h;exact h.elim
 |some d=>
  rw[hd] at h;obtain⟨v,e1,e2⟩:=RS.at_ i d hd;refine⟨v,e1,τ,G,_,RS,RG,h,fun v1 H1 d1 G1 h1 S1 R1 q1=>?_⟩;refine L _ _ _ _ _ _ _ _ (e2.ext (S1.ext RG)) h1 R1 q1 fun v2 H2 d2 G2 z1 z2 z3 z4=>?_;exact k.nx _ _ G2 H2 (((RS.ext (S1.ext RG)).ext (z2.ext R1)).set z1) (S1.trans z2) z3 z4
def Gs:D->D->D->Gp->(Gp->Prop)->Prop:=fun o i v G Q=>match o,i with
 |.obj p,.int k=>∃ds j,G p=some (.lst ds)/\wX ds.length k=some j/\Q (du G p (.lst (ds.set j v)))
 |_,_=>False
def hSub(to ti:aQ):iT:=fun v τ G Q=>to τ G fun o G1=>ti τ G1 fun i G2=>Gs o i v G2 fun G3=>Q τ G3
theorem VT{K:η}{o i v:D}{vo vi vv:V}{G:Gp}{H:Hp}{Q3:Gp->Prop}{Q:Hp->Prop}(ho:Hv K H o vo)(hi:Hv K H i vi)(hv:Hv K H v vv)(RG:aV K G H)(h:Gs o i v G Q3)
  (k:∀H' G',Step H G H' G'->aV K G' H'->Q3 G'->Q H'):Gr vo vi vv H Q:=by
 match o,i,ho,hi,h with
 |.obj p,.int j,ho,hi,h=>
  unfold Hv at ho hi;obtain⟨ds,n,e1,e2,q⟩:=h;obtain⟨vs,e3,e4⟩:=RG p _ e1;refine⟨p,vs,j,n,ho,hi,e3,by rw[←e4.length];exact e2,k _ _ (Step.wrote (g:=.lst (ds.set n v)) e1) (RG.wrote e3 ⟨_,g6,?_⟩) q⟩;exact (e4.ext (Ext.wrote e3)).set n (hv.ext (Ext.wrote e3))
 |.obj _,.aB,_,_,h=>exact h.elim
 |.obj _,.bl _,_,_,h=>exact h.elim
 |.obj _,.str _,_,_,h=>exact h.elim
 |.obj _,.tup _,_,_,h=>exact h.elim
 |.obj _,.fy _,_,_,h=>exact h.elim
 |.obj _,.obj _,_,_,h=>exact h.elim
 |.obj _,.dc _,_,_,h=>exact h.elim
 |.dc _,_,_,_,h=>exact h.elim
 |.aB,_,_,_,h=>exact h.elim
 |.bl _,_,_,_,h=>exact h.elim
 |.int _,_,_,_,h=>exact h.elim
 |.str _,_,_,_,h=>exact h.elim
 |.tup _,_,_,_,h=>exact h.elim
 |.fy _,_,_,_,h=>exact h.elim
theorem VS{o i:υ}{to ti:aQ}(ho:bN X o to)(hi:bN X i ti)
  (ha:∀v,assign (.Subscript o i pos) X.env v=(do
   let ov ←holding [v] (eval o X.env)
   let iv ←holding [v,ov] (eval i X.env)
   standAt pos
   holding [v,ov,iv] (setItem ov iv v)
   release [v,ov,iv] []):=by intro _;rfl):xf X (.Subscript o i pos) (hSub to ti):=Fw (XA ho hi set_list ha) fun v σ H Q ⟨d,τ,G,Q3,hd,RS,RG,h,k⟩=>
 ⟨τ,G,_,RS,RG,h,fun v1 H1 d1 G1 h1 S1 R1 q1=>⟨τ,G1,_,RS.ext (S1.ext RG),R1,q1,fun v2 H2 d2 G2 h2 S2 R2 q2=>
  VT (h1.ext (S2.ext R1)) h2 ((hd.ext (S1.ext RG)).ext (S2.ext R1)) R2 q2 fun H' G' y1 y2 y3=>k _ _ G' H' (((RS.ext (S1.ext RG)).ext (S2.ext R1)).ext (y1.ext R2)) ((S1.trans S2).trans y1) y2 y3⟩⟩
def nV(c:cU)(tb:ao):ao:=fun D τ G=>∃W:Nat->S3->Gp->Prop,(∃m,W m τ G)/\∀m τ G,W m τ G ->
 c τ G fun b G1=>Br b (tb { D with nx:=fun τ' G'=>∃m',m' < m/\W m' τ' G',ct:=fun τ' G'=>∃m',m' < m/\W m' τ' G',bk:=D.nx } τ G1) (D.nx τ G1)
theorem VR{c:υ}{body:List aM}{tc:cU}{tb:ao}(hp:lU (model X.prog X.w) X.A X.env X.xe)(hc:rY X c tc)(hb:jC X body tb):pk X (.While c body [] pos) (nV tc tb):=
 oI (W1 hp hc hb) fun D σ H ⟨τ,G,D3,RS,RG,⟨W,⟨m0,w0⟩,turn⟩,k⟩=>by
  refine⟨fun m σ' H'=>∃τ' G',W m τ' G'/\eB X.K τ' σ' H'/\aV X.K G' H'/\Step H G H' G',⟨m0,τ,G,w0,RS,RG,.refl H G⟩,fun m σ1 H1 ⟨τ1,G1,w1,RS1,RG1,S1⟩=>?_⟩;refine⟨τ1,G1,_,RS1,RG1,turn m τ1 G1 w1,fun b H2 G2 S2 R2 q2=>Br.ite q2 (fun q=>?_) fun q=>k.nx _ _ G2 H2 (RS1.ext (S2.ext RG1)) (S1.trans S2) R2 q⟩;refine⟨fun σ' H'=>∃τ' G',(∃m',m' < m/\W m' τ' G')/\eB X.K τ' σ' H'/\aV X.K G' H'/\Step H G H' G',fun σ' H' ⟨τ',G',⟨m',hm,w'⟩,a,b,c⟩=>⟨m',hm,τ',G',w',a,b,c⟩,?_⟩;refine⟨τ1,G2,_,RS1.ext (S2.ext RG1),R2,q,⟨?_,?_,?_,?_⟩⟩
  ·exact fun τ' σ' G' H' a b c q=>⟨τ',G',q,a,c,(S1.trans S2).trans b⟩
  ·exact fun τ' σ' G' H' a b c q=>k.nx τ' σ' G' H' a ((S1.trans S2).trans b) c q
  ·exact fun τ' σ' G' H' a b c q=>⟨τ',G',q,a,c,(S1.trans S2).trans b⟩
  ·exact fun d v G' H' a b c q=>k.rt d v G' H' a ((S1.trans S2).trans b) c q
end
abbrev eO:=List D->Gp->V3->Prop
def nH(K:η)(sp:eO):Sp:=fun vs H Q _=>∃ds G Q3,aR K H ds vs/\aV K G H/\sp ds G Q3/\∀v H' d G',Hv K H' d v->Step H G H' G'->aV K G' H'->Q3 d G'->Q v H'
abbrev dC(P:ag)(w:av)(K:η)(mg:ν->Option ε)(base:Ψ)(k:Nat)(f:ζ)(fd:aq)(ps:List ν)(sp:eO):Prop:=j5 P w K mg base se k f fd ps (nH K sp)
def bo(sp:eO)(t:dB):aQ:=fun τ G Q=>t τ G fun ds G1=>sp ds G1 Q
section
variable {X:Cx} {k:Nat} {f:ζ} {fd:aq} {ps:List ν} {sp:eO} {x:ν} {p pos:aN} {e:υ} {es:List υ} {t:dB}
theorem LG{K:η}{σ:L2.St}{H:Hp}{Q:VK}{E:XK}(h:low K (bo sp t) σ H Q):Ax (nH K sp) [] E (wA K t) σ H Q:=by
 obtain⟨τ,G,Q3,RS,RG,h,k⟩:=h;refine⟨τ,G,_,RS,RG,h,fun vs H1 ds G1 h1 S1 R1 q1=>?_⟩;refine⟨ds,G1,Q3,by rw[bV];exact h1,R1,q1,fun v H' d G' z1 z2 z3 z4=>k v H' d G' z1 (S1.trans z2) z3 z4⟩
theorem Vf(F:dC X.prog X.w X.K X.mg X.base k f fd ps sp)(hr:dW k X.A)(hm:X.mg x=some (.ref f))(hk:bW X.K (.ref f)=true)(hb:Binds X.K fd ps [])(ha:kG X (e::es) t)(hg:Gl X x:=by rfl)
  (hdb:(x==("__debug__":ν))=false:=by decide) (he:notStar e=true:=by rfl) (hpl:es.all notStar=true:=by rfl):
  bN X (.Call (.Name x p) (e::es) [] pos) (bo sp t):=jJ (W9 (E:=E0) F hr hg hm hk hb .nil Nt ha hdb (fP he) (mi hpl)) fun σ H Q h=>LG h
end
section
variable {P:ag} {w:av} {K:η} {mg:ν->Option ε} {base:Ψ}
def bj(Q:V3):g0:={ nx:=fun _ G'=>∃G0,Sub G0 G'/\Q .aB G0,rt:=fun d G'=>∃G0,Sub G0 G'/\Q d G0 }
theorem fn3{x qual:ν}{st:aM}{f:ζ}{fd:aq}{N ps:List ν}{k:Nat}{sp:eO}(F:dR K x qual st f fd)(S:bp N ps (Ξ st))(hN:ps.length≤N.length)(len:∀ds G Q,sp ds G Q->ds.length=ps.length)(tb:ao)
  (ia:∀(cdv:ε) (A:aJ) (outer:List dq) (s:θ) (H:Hp) (E:XK),dW k (A.deeper (envOfC qual (Ξ st) s.heap.objs.size f cdv)) ->
   jC (iJ se P w K mg base N qual (Ξ st) f cdv A outer s H E).mX (fu st) tb)
  (tQ:∀ds G Q,sp ds G Q->tb (bj Q) (br N ds) G):dC P w K mg base (k+1) f fd ps sp:=by
 refine F.ok S (fun vs H Q E h=>?_) (fun cdv A outer s H vs Q E hr h=>?_)
 ·obtain⟨ds,G,Q3,h1,h2,h3,h4⟩:=h;rw[←h1.length];exact len _ _ _ h3
 ·obtain⟨ds,G,Q3,h1,h2,h3,h4⟩:=h;refine⟨_,ia cdv A outer s H E hr,br N ds,G,bj Q3,.start h1 ?_,h2,tQ _ _ _ h3,⟨?_,?_,?_,?_⟩⟩
  ·rw[←h1.length,len _ _ _ h3];exact hN
  ·exact fun τ σ G' H' a b c ⟨G0,s0,q⟩=>h4 _ H' .aB G0 (by simp[Hv]) (b.trans (.sub s0)) (c.sub s0) q
  ·exact fun τ σ G' H' a b c q=>q.elim
  ·exact fun τ σ G' H' a b c q=>q.elim
  ·exact fun d v G' H' a b c ⟨G0,s0,q⟩=>h4 _ H' d G0 a (b.trans (.sub s0)) (c.sub s0) q
end
end L3
namespace L3
open PySem PySem.Spec PyProof.Rows L2
structure Src where
 items:List D
 guard:Gp->Prop
structure CH(K:η)(H0:Hp)(J:It)(S:Src):Prop where
 go:∀(i:Nat) d H G,Ext H0 H->aV K G H->S.guard G->S.items[i]?=some d->J.go i H/\∀x H',J.Gj i H x H'->Hv K H' d x/\Step H G H' G/\aV K G H'
 stop:∀(i:Nat) H G,Ext H0 H->aV K G H->S.guard G->S.items.length≤i->J.stop i H
abbrev pd:=S3->Gp->(Src->Gp->Prop)->Prop
def MN(K:η)(ti:pd):TI:=fun σ H R=>∃τ G R3,eB K τ σ H/\aV K G H/\ti τ G R3/\∀J H' S G',CH K H' J S->Step H G H' G'->aV K G' H'->R3 S G'->R J H'
abbrev xc(X:Cx)(tg iter:υ)(ti:pd):Prop:=PI X tg iter (MN X.K ti)
section
variable {X:Cx} {tg iter:υ} {pos p:aN}
theorem Bb{t t':TI}(h:PI X tg iter t)(f:∀σ H R,t' σ H R->t σ H R):PI X tg iter t':=fun pins s σ H R I q=>h pins s σ H R I (f σ H R q)
def qc(te:aQ):pd:=fun τ G R=>te τ G fun x G1=>match x with
 |.obj p=>∃ds,G1 p=some (.lst ds)/\R ⟨ds,fun G=>G p=some (.lst ds)⟩ G1
 |.tup ds=>R ⟨ds,fun _=>True⟩ G1
 |.fy ds=>R ⟨ds,fun _=>True⟩ G1
 |_=>False
theorem Ve{l:υ}{te:aQ}(hl:bN X l te):xc X tg l (qc te):=by
 intro pins s σ H R I h;obtain⟨τ,G,R3,RS,RG,h,k⟩:=h
 -- the state carries what a list of the heap is
 refine bO (hl pins s σ H (fun v H'=>∃d G',Hv X.K H' d v/\Step H G H' G'/\aV X.K G' H'/\(match d with
  |.obj p=>∃ds,G' p=some (.lst ds)/\R3 ⟨ds,fun G=>G p=some (.lst ds)⟩ G'
  |.tup ds=>R3 ⟨ds,fun _=>True⟩ G'
  |.fy ds=>R3 ⟨ds,fun _=>True⟩ G'
  | _=>False)) I ⟨τ,G,_,RS,RG,h,fun v H' d G' a b c q=>⟨d,G',a,b,c,q⟩⟩) fun v s1 ⟨x,H1,I1,r1,d,G1,hv,S1,R1,q⟩=>?_
 have hlist:∀(a:ζ) (its:List ε) (xs:List V),bh xs its->PlainL s1.heap a its.toArray->R (OA X.K a) H1->ρ (model X.prog X.w) X.A (pyIter (.ref a)) (Hh X pins σ tg R) X.xe s1:=by
  intro a its xs rv p q;refine fw p.isList ?_;refine⟨s1.heap.objs.size,[s1.heap.objs.size],_,_,H1,rfl,I1.kept (t':=s1.toks) fun b o e=>ι _ e,W0 a _,⟨_,ae _ rfl,rfl,rfl⟩,fun b hb=>?_,q⟩;have e:b=s1.heap.objs.size:=by simpa using hb
  subst e;exact I1.tj (Φ _) (I1.bJ.fresh (Φ _))
 cases d with
 |obj a=>
  unfold Hv at hv;subst hv;cases r1;obtain⟨ds,e1,q⟩:=q;obtain⟨vs,e2,e3⟩:=R1 a _ e1;obtain⟨its,rv,p,hz⟩:=I1.list (fg.of e2);refine hlist a its vs rv p (k _ _ _ _ ⟨?_,?_⟩ S1 R1 q)
  ·intro i d H' G' E' RG' hg hi;obtain⟨vs',z1,z2⟩:=RG' a _ hg;obtain⟨v',y1,y2⟩:=z2.get hi;refine⟨⟨vs',v',.of z1,y1⟩,fun x H'' hy=>?_⟩;obtain⟨rfl,hy⟩:=hy;have:=hy vs' (.of z1);rw[y1] at this;cases this;exact⟨y2,.refl _ _,RG'⟩
  ·intro i H' G' E' RG' hg hi;obtain⟨vs',z1,z2⟩:=RG' a _ hg;exact⟨vs',.of z1,by rw[←z2.length];exact hi⟩
 |tup ds=>
  unfold Hv at hv;obtain⟨a,vs,rfl,e2,e3⟩:=hv;cases r1;obtain⟨its,rv,p,hz⟩:=I1.tuple e2;have hq:R (Oz X.K a) H1:=by
   refine k _ _ _ _ ⟨?_,?_⟩ S1 R1 q
   ·intro i d H' G' E' RG' hg hi;obtain⟨v',y1,y2⟩:=e3.get hi;refine⟨⟨vs,v',cL.ext E' e2,y1⟩,fun x H'' hy=>?_⟩;obtain⟨rfl,hy⟩:=hy;have:=hy vs (cL.ext E' e2);rw[y1] at this;cases this;exact⟨y2.ext E',.refl _ _,RG'⟩
   ·intro i H' G' E' RG' hg hi;exact⟨vs,cL.ext E' e2,by rw[←e3.length];exact hi⟩
  refine ig (show s1.heap.IsTuple a its.toArray from p) ?_;refine⟨s1.heap.objs.size,[s1.heap.objs.size],_,_,H1,rfl,I1.kept (t':=s1.toks) fun b o e=>ι _ e,WZ a _,⟨_,ae _ rfl,rfl,rfl⟩,fun b hb=>?_,hq⟩;have e:b=s1.heap.objs.size:=by simpa using hb
  subst e;exact I1.tj (Φ _) (I1.bJ.fresh (Φ _))
 |fy ds=>
  unfold Hv at hv;obtain⟨a,vs,rfl,e2,e3⟩:=hv;cases r1;obtain⟨its,rv,p,hz⟩:=I1.list e2.l;refine hlist a its vs rv p (k _ _ _ _ ⟨?_,?_⟩ S1 R1 q)
  ·intro i d H' G' E' RG' hg hi;obtain⟨v',y1,y2⟩:=e3.get hi;refine⟨⟨vs,v',(pj.ext E' e2).l,y1⟩,fun x H'' hy=>?_⟩;obtain⟨rfl,hy⟩:=hy;have:=hy vs (pj.ext E' e2).l;rw[y1] at this;cases this;exact⟨y2.ext E',.refl _ _,RG'⟩
  ·intro i H' G' E' RG' hg hi;exact⟨vs,(pj.ext E' e2).l,by rw[←e3.length];exact hi⟩
 |aB=>exact q.elim
 |bl _=>exact q.elim
 |int _=>exact q.elim
 |str _=>exact q.elim
 |dc _=>exact q.elim
def kM(lo:Int)(n:Nat):List D:=(ar n).map fun i:Nat=>.int (lo+(i:Int))
theorem Vd{lo:Int}{n i:Nat}{d:D}(h:(kM lo n)[i]?=some d):i<n/\d=.int (lo+(i:Int)):=by
 unfold kM at h;rw[aK] at h;by_cases hi:i<n
 ·rw[m3 hi] at h;simp at h;exact⟨hi,h.symm⟩
 ·rw[dh.mpr (by simpa using hi)] at h;cases h
theorem xF(lo:Int)(n:Nat):(kM lo n).length=n:=by simp[kM]
theorem Vc{K:η}{H:Hp}(lo:Int)(n:Nat):CH K H (Hi lo n) ⟨kM lo n,fun _=>True⟩:=⟨by
 intro i d H' G' _ RG _ hi;obtain⟨h1,h2⟩:=Vd hi;refine⟨h1,fun x H'' hy=>?_⟩;obtain⟨rfl,rfl⟩:=hy;exact⟨by rw[h2];simp[Hv],.refl _ _,RG⟩,by
 intro i H' G' _ RG _ hi;rw[xF] at hi;exact hi⟩
def nJ(ta:dB):pd:=fun τ G R=>ta τ G fun ds G1=>match ds with
 |[.int j]=>(-(2^62)≤j/\j<2^62)/\R ⟨kM 0 j.toNat,fun _=>True⟩ G1
 |_=>False
theorem Vb{a:υ}{ta:dB}(hm:X.mg "range" = none)(ha:kG X [a] ta)(hg:Gl X "range":=by rfl)(hs:notStar a=true:=by rfl):xc X tg (.Call (.Name "range" p) [a] [] pos) (nJ ta):=
 Bb (WW hg hm ha (fP hs)) fun σ H R ⟨τ,G,R3,RS,RG,h,k⟩=>⟨τ,G,_,RS,RG,h,fun vs H1 ds G1 h1 S1 R1 q1=>by
  rcases ds with _|⟨d,_|⟨d2,ds⟩⟩
  ·exact q1.elim
  ·cases d with
   |int j=>
    obtain⟨v,r,rfl,z1,z2⟩:=h1.inv;cases z2.i5;unfold Hv at z1;exact⟨j,by rw[z1],q1.1.1,q1.1.2,k _ _ _ _ (Vc 0 _) S1 R1 q1.2⟩
   |_=>exact q1.elim
  ·cases d<;>exact q1.elim⟩
def nK(guard:Gp->Prop)(g:iT)(tb:ao)(D3:g0):List D->S3->Gp->Prop
 |[],τ,G=>guard G/\D3.nx τ G
 |d::ds,τ,G=>guard G/\g d τ G fun τ2 G2=>tb { D3 with nx:=nK guard g tb D3 ds,ct:=nK guard g tb D3 ds,bk:=D3.nx } τ2 G2
def oE(ti:pd)(g:iT)(tb:ao):ao:=fun D3 τ G=>ti τ G fun S G1=>nK S.guard g tb D3 S.items τ G1
theorem U9{body:List aM}{ti:pd}{g:iT}{tb:ao}(hp:lU (model X.prog X.w) X.A X.env X.xe)(hc:X.calm=true)(hi:xc X tg iter ti)(hg:xf X tg g)(hb:jC X body tb)
  (hs:∀x,foldedSetIterable iter X.env x=pure x:=by intro _;rfl):pk X (.For tg iter body [] pos) (oE ti g tb):=oI (WU hp hc hi hg hb hs) fun D2 σ H ⟨τ,G,D3,RS,RG,h,k⟩=>by
 refine⟨τ,G,_,RS,RG,h,fun J H1 S G1 ok S1 R1 q1=>?_⟩;refine⟨fun i m σ' H'=>∃τ' G',eB X.K τ' σ' H'/\aV X.K G' H'/\Step H G H' G'/\Ext H1 H'/\nK S.guard g tb D3 (S.items.drop i) τ' G'/\m+i=S.items.length,⟨S.items.length,τ,G1,RS.ext (S1.ext RG),R1,S1,.refl H1,by simpa using q1,by lia⟩,?_⟩;rintro i m σ' H' ⟨τ',G',RS',RG',S',E',q,hm⟩;by_cases hlt:i<S.items.length
 ·have hd:S.items.drop i=S.items[i]::S.items.drop (i+1):=jP hlt;have hget:S.items[i]?=some S.items[i]:=aE hlt;rw[hd] at q;obtain⟨hgd,q⟩:=q;obtain⟨z1,z2⟩:=ok.go i _ H' G' E' RG' hgd hget;refine .inr ⟨z1,fun σ2 H2=>∃τ2 G2,eB X.K τ2 σ2 H2/\aV X.K G2 H2/\Step H G H2 G2/\Ext H1 H2/\nK S.guard g tb D3 (S.items.drop (i+1)) τ2 G2,fun σ2 H2 ⟨τ2,G2,a1,a2,a3,a4,a5⟩=>⟨m-1,by lia,τ2,G2,a1,a2,a3,a4,a5,by lia⟩,fun x H2 hy=>?_⟩;obtain⟨y1,y2,y3⟩:=z2 x H2 hy;refine⟨S.items[i],τ',G',_,y1,RS'.ext (y2.ext RG'),y3,q,fun τ3 σ3 G3 H3 b1 b2 b3 b4=>?_⟩;refine⟨τ3,G3,_,b1,b3,b4,⟨?_,?_,?_,?_⟩⟩
  ·exact fun τ4 σ4 G4 H4 c1 c2 c3 c4=>⟨τ4,G4,c1,c3,((S'.trans y2).trans b2).trans c2,((E'.trans (y2.ext RG')).trans (b2.ext y3)).trans (c2.ext b3),c4⟩
  ·exact fun τ4 σ4 G4 H4 c1 c2 c3 c4=>k.nx τ4 σ4 G4 H4 c1 (((S'.trans y2).trans b2).trans c2) c3 c4
  ·exact fun τ4 σ4 G4 H4 c1 c2 c3 c4=>⟨τ4,G4,c1,c3,((S'.trans y2).trans b2).trans c2,((E'.trans (y2.ext RG')).trans (b2.ext y3)).trans (c2.ext b3),c4⟩
  ·exact fun d v G4 H4 c1 c2 c3 c4=>k.rt d v G4 H4 c1 (((S'.trans y2).trans b2).trans c2) c3 c4
 ·have hd:S.items.drop i=[]:=rO (by lia);rw[hd] at q;exact .inl ⟨ok.stop i H' G' E' RG' q.1 (by lia),k.nx τ' σ' G' H' RS' S' RG' q.2⟩
def jj(guard:Gp->Prop)(g:iT)(tc:cU)(te:aQ)(Q:List D->Gp->Prop):List D->List D->S3->Gp->Prop
 |[],acc,τ,G=>guard G/\Q acc G
 |d::ds,acc,τ,G=>guard G/\g d τ G fun τ2 G2=>tc τ2 G2 fun b G3=>Br b (te τ2 G3 fun v G4=>jj guard g tc te Q ds (acc++[v]) τ2 G4) (jj guard g tc te Q ds acc τ2 G3)
def zP(own:List ν)(js:List Nat)(τ:S3):S3:=(own.map fun _=>none)++js.map fun j=>jL τ j
def i6(own:List ν)(js:List Nat)(ti:pd)(g:iT)(tc:cU)(te:aQ):aQ:=fun τ G Q=>ti τ G fun S G1=>S.items.length≤aw ∧
 jj S.guard g tc te (fun ds G2=>∀p G3,eF G2 p (.lst ds) G3->Q (.obj p) G3) S.items [] (zP own js τ) G1
theorem LF:∀(τ:S3) (i:Nat),jL τ i=(τ[i]?).getD none
 |[],i=>by simp[jL]
 |x::r,0=>by simp[jL]
 |x::r,i+1=>by simp[jL,LF r i]
theorem eB.cmp{K:η}{τ:S3}{σ:L2.St}{H:Hp}(own:List ν)(js:List Nat)(R:eB K τ σ H):eB K (zP own js τ) (vk own js σ) H:=⟨by simp[zP,vk],fun i d h=>by
 rw[LF] at h;unfold zP at h;by_cases hi:i<own.length
 ·rw[eW (by simpa using hi)] at h;rw[aK,aE hi] at h;cases h
 ·rw[eL (by simpa using hi),aK] at h;simp only[π] at h;cases hj:js[i-own.length]? with
  |none=>rw[hj] at h;cases h
  |some j=>
   rw[hj] at h;have h':jL τ j=some d:=h;obtain⟨v,e1,e2⟩:=R.at_ j d h';refine⟨v,?_,e2⟩;unfold vk;rw[eL (by simpa using hi),aK];simp only[gm,hj,Option.map_some,e1,Option.getD_some]⟩
def iW:cU:=fun _ G Q=>Q true G
theorem U8:vP X [] (sS X.K iW):=fun pins s σ H Q I ⟨τ,G,Q3,RS,RG,h,k⟩=>VA pins s σ H Q I (k true H G (.refl H G) RG h)
theorem U7{c:υ}{t:cU}(h:rY X c t):vP X [c] (sS X.K t):=Vz h
theorem LD{K:η}{own:List ν}{js:List Nat}{ti:pd}{g:iT}{tc:cU}{te:aQ}{σ:L2.St}{H:Hp}{Q:VK}(h:low K (i6 own js ti g tc te) σ H Q):HZ own js (MN K ti) (lowG K g) (sS K tc) (low K te) σ H Q:=by
 obtain⟨τ,G,Q3,RS,RG,h,k⟩:=h;refine⟨τ,G,_,RS,RG,h,fun J H1 S G1 ok S1 R1 q1=>?_⟩;obtain⟨hz,q1⟩:=q1;intro p hp;have hGp:G1 p=none:=R1.free hp;refine⟨fun i m ys σ' H'=>∃τ' G' acc,eB K τ' σ' H'/\aV K G' H'/\Step H G H' G'/\Ext H1 H'/\H' p=some (.lst ys)/\G' p=none/\aR K H' acc ys ∧
  jj S.guard g tc te (fun ds G2=>∀p G3,eF G2 p (.lst ds) G3->Q3 (.obj p) G3) (S.items.drop i) acc τ' G'/\m+i=S.items.length/\ys.length≤i,?_,?_⟩
 ·have E1:Ext H1 (upd H1 p (.lst [])):=.laid hp;exact⟨S.items.length,zP own js τ,G1,[],((RS.ext (S1.ext RG)).cmp own js).ext E1,R1.laid hp,S1.trans (.laid hp),E1,g6,hGp,.nil,by simpa using q1,by lia,aI _⟩
 rintro i m ys σ' H' ⟨τ',G',acc,RS',RG',S',E',hpl,hG',hacc,q,hm,hy⟩;refine⟨hpl,?_⟩;by_cases hlt:i<S.items.length
 ·have hd:S.items.drop i=S.items[i]::S.items.drop (i+1):=jP hlt;have hget:S.items[i]?=some S.items[i]:=aE hlt;rw[hd] at q;obtain⟨hgd,q⟩:=q;obtain⟨z1,z2⟩:=ok.go i _ H' G' E' RG' hgd hget;refine .inr ⟨z1,by lia,fun x H2 hyl=>?_⟩;obtain⟨y1,y2,y3⟩:=z2 x H2 hyl
  -- what is not in G stays
  have keep:∀{Ha Hb:Hp} {Ga Gb:Gp},Step Ha Ga Hb Gb->Ha p=some (.lst ys)->Ga p=none->Hb p=some (.lst ys)/\Gb p=none:=fun {Ha Hb Ga Gb} st e n=>by
   refine⟨st.fr p _ e n,?_⟩;refine aL fun z=>?_;rw[st.new p n z] at e;cases e
  obtain⟨p2,n2⟩:=keep y2 hpl hG';refine⟨S.items[i],τ',G',_,y1,RS'.ext (y2.ext RG'),y3,q,fun τ3 σ3 G3 H3 b1 b2 b3 b4=>?_⟩;obtain⟨p3,n3⟩:=keep b2 p2 n2;refine⟨τ3,G3,_,b1,b3,b4,fun bb H4 G4 c1 c2 c3=>?_⟩;obtain⟨p4,n4⟩:=keep c1 p3 n3;have E4:Ext H' H4:=((y2.ext RG').trans (b2.ext y3)).trans (c1.ext b3);have S4:Step H G H4 G4:=((S'.trans y2).trans b2).trans c1;have RS4:=b1.ext (c1.ext b3);refine Br.ite c3 (fun c3=>?_) fun c3=>?_
  ·refine⟨τ3,G4,_,RS4,c2,c3,fun v H5 d G5 e1 e2 e3 e4=>?_⟩;obtain⟨p5,n5⟩:=keep e2 p4 n4;refine⟨p5,m-1,by lia,τ3,G5,acc++[d],?_,?_,?_,?_,g6,n5,?_,e4,by lia,by rw[ah];simp;lia⟩
   ·exact (RS4.ext (e2.ext c2)).ext (.wrote p5)
   ·intro a o e;have cK:a≠p:=fun z=>by
     rw[z,n5] at e;cases e
    exact (e3 a o e).ext (.wrote p5) (dA cK)
   ·refine⟨fun a o e n=>?_,fun a q=>?_,fun a n q=>((S4.trans e2).new a n q)⟩
    ·by_cases cK:a=p
     ·exfalso;rw[cK] at e n;have hh:=S1.fr p o e n;rw[hp] at hh;cases hh
     ·rw[dA cK];exact (S4.trans e2).fr a o e n
    ·by_cases cK:a=p
     ·rw[cK,g6];simp
     ·rw[dA cK];exact (S4.trans e2).oW a q
   ·exact ((E'.trans E4).trans (e2.ext c2)).trans (.wrote p5)
   ·have E5:Ext H' (upd H5 p (.lst (ys++[v]))):=(E4.trans (e2.ext c2)).trans (.wrote p5);exact (hacc.ext E5).append (.cons (e1.ext (.wrote p5)) .nil)
  ·exact⟨m-1,by lia,τ3,G4,acc,RS4,c2,S4,E'.trans E4,p4,n4,hacc.ext E4,c3,by lia,by lia⟩
 ·have hd:S.items.drop i=[]:=rO (by lia);rw[hd] at q;refine .inl ⟨ok.stop i H' G' E' RG' q.1 (by lia),?_⟩;refine k _ H' (.obj p) (du G' p (.lst acc)) (by simp[Hv]) ?_ ?_ (q.2 p _ (.mk' hG'))
  ·refine⟨S'.fr,S'.oW,fun a n z=>?_⟩;by_cases cK:a=p
   ·rw[cK];cases hh:H p with
    |none=>rfl
    |some o=>
     exfalso;rw[cK] at n;have:=S1.fr p o hh n;rw[hp] at this;cases this
   ·rw[oZ cK] at z;exact S'.new a n z
  ·intro a o e;by_cases cK:a=p
   ·rw[cK,o9] at e;cases e;rw[cK];exact⟨ys,hpl,hacc⟩
   ·rw[oZ cK] at e;exact RG' a o e
theorem U6{elt:υ}{ifs:List υ}{scope:eV}{own:List ν}{js:List Nat}{ti:pd}{g:iT}{tc:cU}{te:aQ}(hc:X.calm=true)(C:eK X.N X.env.scope scope own js)(hi:xc X tg iter ti)
  (hb:∀s H fp,xf (X.cmp scope own js s H fp) tg g/\vP (X.cmp scope own js s H fp) ifs (sS X.K tc)/\bN (X.cmp scope own js s H fp) elt te)
  (hs:∀x,foldedSetIterable iter X.env x=pure x:=by intro _;rfl):bN X (.ListComp elt [⟨tg,iter,ifs,0⟩] scope pos) (i6 own js ti g tc te):=
 jJ (Vx hc C hi hb hs) fun σ H Q h=>LD h
theorem U5{elt:υ}{ifs:List υ}{scope:eV}{own:List ν}{js:List Nat}{ti:pd}{g:iT}{tc:cU}{te:aQ}{i:Nat}{y:ν}{py spos:aN}(hc:X.calm=true)(hN:X.N.Nodup)(C:eK X.N X.env.scope scope own js)(hi:xc X tg iter ti)
  (hb:∀s H fp,xf (X.cmp scope own js s H fp) tg g/\vP (X.cmp scope own js s H fp) ifs (sS X.K tc)/\bN (X.cmp scope own js s H fp) elt te) (hy:X.N[i]?=some y:=by rfl) (hyl:X.env.scope.names.lookup y=some .local:=by rfl)
  (Dq:swapsWith (.ListComp elt [⟨tg,iter,ifs,0⟩] scope pos) (some (.Name y py)) spos.line X.env=pure true:=by rfl)
  (hs:∀x,foldedSetIterable iter X.env x=pure x:=by intro _;rfl):pk X (.Assign [.Name y py] (.ListComp elt [⟨tg,iter,ifs,0⟩] scope pos) spos) (bt (i6 own js ti g tc te) (hName i)):=
 oI (Vw hc hN hy hyl C hi hb Dq hs) fun D2 σ H ⟨τ,G,D3,RS,RG,h,k⟩=>
  LD ⟨τ,G,_,RS,RG,h,fun v H1 d G1 h1 S1 R1 q1=>k.nx _ _ G1 H1 ((RS.ext (S1.ext RG)).set h1) S1 R1 q1⟩
theorem U4{guard:Gp->Prop}{g:iT}{tb:ao}{D3:g0}(I:List D->S3->Gp->Prop)(hg:∀ds τ G,I ds τ G->guard G)
  (step:∀d ds τ G,I (d::ds) τ G->g d τ G fun τ2 G2=>tb { D3 with nx:=I ds,ct:=I ds,bk:=D3.nx } τ2 G2) (nq:∀τ G,I [] τ G->D3.nx τ G)
  (mono:∀(N N':S3->Gp->Prop),(∀τ G,N τ G->N' τ G)->∀d τ G,(g d τ G fun τ2 G2=>tb { D3 with nx:=N,ct:=N,bk:=D3.nx } τ2 G2)->g d τ G fun τ2 G2=>tb { D3 with nx:=N',ct:=N',bk:=D3.nx } τ2 G2):
  ∀ds τ G,I ds τ G->nK guard g tb D3 ds τ G
 |[],τ,G,h=>⟨hg _ _ _ h,nq _ _ h⟩
 |d::ds,τ,G,h=>⟨hg _ _ _ h,mono (I ds) _ (fun τ G q=>U4 I hg step nq mono ds τ G q) d τ G (step d ds τ G h)⟩
theorem p9{guard:Gp->Prop}{g:iT}{tb:ao}{D3:g0}(I:List D->S3->Gp->Prop)(hg:∀ds τ G,I ds τ G->guard G)
  (step:∀d ds τ G (N:S3->Gp->Prop),I (d::ds) τ G->(∀τ' G',I ds τ' G'->N τ' G')->g d τ G fun τ2 G2=>tb { D3 with nx:=N,ct:=N,bk:=D3.nx } τ2 G2) (nq:∀τ G,I [] τ G->D3.nx τ G):
  ∀ds τ G,I ds τ G->nK guard g tb D3 ds τ G
 |[],τ,G,h=>⟨hg _ _ _ h,nq _ _ h⟩
 |d::ds,τ,G,h=>⟨hg _ _ _ h,step d ds τ G _ h fun τ' G' q=>p9 I hg step nq ds τ' G' q⟩
end
end L3
namespace Dat
open PySem PySem.SeqAt
inductive D where
 |aB|bl (b:Bool)|int (i:Int)|str (x:ν)|tup (xs:List D)|lst (xs:List D)|ji
mutual
def D.eY:D->D->Bool
 |.aB,.aB=>true
 |.bl a,.bl b=>a==b
 |.bl a,.int b=>(if a then 1 else 0)==b
 |.int a,.bl b=>a==(if b then 1 else 0)
 |.int a,.int b=>a==b
 |.str a,.str b=>a==b
 |.tup xs,.tup ys=>nu xs ys
 |.lst xs,.lst ys=>nu xs ys
 |_,_=>false
def nu:List D->List D->Bool
 |[],[]=>true
 |x::xs,y::ys=>x.eY y&&nu xs ys
 |_,_=>false
end
mutual
def D.kF:D->Nat
 |.tup xs=>gQ xs+1
 |.lst xs=>gQ xs+1
 |_=>0
def gQ:List D->Nat
 |[]=>0
 |x::xs=>max x.kF (gQ xs)
end
theorem wq{d:D}:∀{xs:List D},d∈xs->d.kF≤gQ xs
 |x::xs,h=>by
  unfold gQ;rcases Ω.mp h with e|e
  ·rw[e];exact Nat.le_max_left _ _
  ·exact aD (wq e) (Nat.le_max_right _ _)
mutual
def Hv(h:Ψ):D->ε->Prop
 |.aB,u=>u=.none
 |.bl b,u=>u=.bool b
 |.int i,u=>∃t,u=.int i t
 |.str x,u=>∃t,u=.str x t
 |.tup ds,u=>∃(a:ζ) (its:List ε),u=.ref a/\h.IsTuple a its.toArray/\aR h ds its
 |.lst ds,u=>∃(a:ζ) (its:List ε),u=.ref a/\h.IsList a its.toArray/\aR h ds its
 |.ji,_=>False
def aR(h:Ψ):List D->List ε->Prop
 |[],us=>us=[]
 |d::ds,us=>∃u r,us=u::r/\Hv h d u/\aR h ds r
end
theorem aR.length{h:Ψ}:∀{ds:List D} {us:List ε},aR h ds us->us.length=ds.length
 |[],us,e=>by
  unfold aR at e;rw[e];rfl
 |d::ds,us,e=>by
  unfold aR at e;obtain⟨u,r,rfl,_,e2⟩:=e;rw[az,az,e2.length]
theorem aR.get{h:Ψ}:∀{ds:List D} {us:List ε} {j:Nat} {d:D} {u:ε},aR h ds us->ds[j]?=some d->us[j]?=some u->Hv h d u
 |[],_,_,_,_,_,e,_=>by simp at e
 |d::ds,us,0,_,_,q,e1,e2=>by
  unfold aR at q;obtain⟨u,r,rfl,q1,_⟩:=q;simp at e1 e2;rw[←e1,←e2];exact q1
 |d::ds,us,j+1,_,_,q,e1,e2=>by
  unfold aR at q;obtain⟨u,r,rfl,_,q2⟩:=q;exact q2.get (j:=j) (by simpa using e1) (by simpa using e2)
theorem LB{h:Ψ}{a:ζ}{xs ys:Array ε}(hl:h.IsList a xs)(ht:h.IsTuple a ys):False:=by
 obtain⟨o,ho,hc,_⟩:=hl;obtain⟨o',ho',hc',_⟩:=ht;rw[ho] at ho';cases ho';rw[hc] at hc';exact absurd hc' (by decide)
mutual
theorem Hv.inj{h:Ψ}:∀{d e:D} {u:ε},Hv h d u->Hv h e u->d=e
 |d,e,u,p,q=>by
  cases d with
  |aB=>unfold Hv at p;subst p;cases e<;>unfold Hv at q<;>first|rfl|(simp at q)
  |bl b=>unfold Hv at p;subst p;cases e<;>unfold Hv at q<;>first|(simp at q;rw[q])|(simp at q)
  |int b=>unfold Hv at p;obtain⟨t,rfl⟩:=p;cases e<;>unfold Hv at q<;>first|(simp at q;rw[q])|(simp at q)
  |str b=>unfold Hv at p;obtain⟨t,rfl⟩:=p;cases e<;>unfold Hv at q<;>first|(simp at q;rw[q])|(simp at q)
  |ji=>unfold Hv at p;exact p.elim
  |tup ds=>
   unfold Hv at p;obtain⟨a,its,rfl,ha,p⟩:=p;cases e with
   |tup es=>
    unfold Hv at q;obtain⟨a',its',e1,ha',q⟩:=q;cases e1;have e2:its=its':=by
     obtain⟨o,ho,_,n,hd⟩:=ha;obtain⟨o',ho',_,n',hd'⟩:=ha';rw[ho] at ho';cases ho';rw[hd] at hd';injection hd' with e3 _
     simpa using congrArg qF e3
    subst e2;rw[aR.inj p q]
   |lst es=>
    unfold Hv at q;obtain⟨a',its',e1,ha',q⟩:=q;cases e1;exact (LB ha' ha).elim
   |_=>unfold Hv at q<;>simp at q
  |lst ds=>
   unfold Hv at p;obtain⟨a,its,rfl,ha,p⟩:=p;cases e with
   |lst es=>
    unfold Hv at q;obtain⟨a',its',e1,ha',q⟩:=q;cases e1;have e2:its=its':=by
     obtain⟨o,ho,_,n,hd⟩:=ha;obtain⟨o',ho',_,n',hd'⟩:=ha';rw[ho] at ho';cases ho';rw[hd] at hd';injection hd' with e3 _
     simpa using congrArg qF e3
    subst e2;rw[aR.inj p q]
   |tup es=>
    unfold Hv at q;obtain⟨a',its',e1,ha',q⟩:=q;cases e1;exact (LB ha ha').elim
   |_=>unfold Hv at q<;>simp at q
theorem aR.inj{h:Ψ}:∀{ds es:List D} {us:List ε},aR h ds us->aR h es us->ds=es
 |[],[],_,_,_=>rfl
 |[],e::es,us,p,q=>by
  unfold aR at p q;subst p;obtain⟨_,_,e1,_⟩:=q;cases e1
 |d::ds,[],us,p,q=>by
  unfold aR at p q;subst q;obtain⟨_,_,e1,_⟩:=p;cases e1
 |d::ds,e::es,us,p,q=>by
  unfold aR at p q;obtain⟨u,r,rfl,p1,p2⟩:=p;obtain⟨u',r',e1,q1,q2⟩:=q;cases e1;rw[Hv.inj p1 q1,aR.inj p2 q2]
end
theorem wo:∀(ds es:List D),((ar (min ds.length es.length)).all (fun j=>(ds.getD j .aB).eY (es.getD j .aB))&&ds.length==es.length)=nu ds es
 |[],[]=>by simp[nu]
 |[],e::es=>by simp[nu]
 |d::ds,[]=>by simp[nu]
 |d::ds,e::es=>by
  have ih:=wo ds es;unfold nu;rw[←ih];rw[az,az,show min (ds.length+1) (es.length+1)=min ds.length es.length+1 by lia,rL,List.all_cons,List.all_map];have e1:((ds.length+1==es.length+1):Bool)=(ds.length==es.length):=by simp
  rw[e1,Bool.and_assoc];rfl
theorem Ba:∀(ds es:List D),ds.length≠es.length->nu ds es=false
 |[],[],h=>absurd rfl h
 |[],e::es,_=>rfl
 |d::ds,[],_=>rfl
 |d::ds,e::es,h=>by
  unfold nu;rw[Ba ds es (by simpa using h),Bool.and_false]
mutual
theorem Hv.refl{h:Ψ}:∀{d:D} {u:ε},Hv h d u->d.eY d=true
 |.aB,_,_=>rfl
 |.bl b,_,_=>by unfold D.eY;simp
 |.int b,_,_=>by unfold D.eY;simp
 |.str b,_,_=>by unfold D.eY;simp
 |.ji,_,p=>by unfold Hv at p;exact p.elim
 |.tup ds,_,p=>by
  unfold Hv at p;obtain⟨_,_,_,_,p⟩:=p;unfold D.eY;exact aR.refl p
 |.lst ds,_,p=>by
  unfold Hv at p;obtain⟨_,_,_,_,p⟩:=p;unfold D.eY;exact aR.refl p
theorem aR.refl{h:Ψ}:∀{ds:List D} {us:List ε},aR h ds us->nu ds ds=true
 |[],_,_=>rfl
 |d::ds,us,p=>by
  unfold aR at p;obtain⟨u,r,_,p1,p2⟩:=p;unfold nu;rw[Hv.refl p1,aR.refl p2];rfl
end
theorem mV{h:Ψ}{ds:List D}{us:List ε}(p:aR h ds us){j:Nat}(hj:j<us.toArray.size):Hv h (ds.getD j .aB) (us.toArray[j])/\ds.getD j .aB∈ds:=by
 have hl:=p.length;have hj':j<ds.length:=by simp at hj;lia
 have e1:ds[j]?=some (ds.getD j .aB):=by simp[hj']
 exact⟨p.get e1 (by simp at hj;simp[hj]),bF e1⟩
theorem yb{s:θ}:∀(d e:D) (u v:ε) (A:aJ),Hv s.heap d u->Hv s.heap e v->A.units+d.kF+1<cLine->EqAt A s u v (d.eY e)
 |.aB,.aB,u,v,A,p1,p2,hu=>by
  unfold Hv at p1;subst p1;unfold Hv at p2;subst p2;exact EqAt.same _
 |.aB,.bl b2,u,v,A,p1,p2,hu=>by
  unfold Hv at p1;subst p1;unfold Hv at p2;subst p2;exact EqAt.none_bool  b2
 |.aB,.int b2,u,v,A,p1,p2,hu=>by
  unfold Hv at p1;subst p1;unfold Hv at p2;obtain⟨t2,rfl⟩:=p2;exact EqAt.none_int  b2 t2
 |.aB,.str b2,u,v,A,p1,p2,hu=>by
  unfold Hv at p1;subst p1;unfold Hv at p2;obtain⟨t2,rfl⟩:=p2;exact EqAt.none_str  b2 t2
 |.aB,.tup ds2,u,v,A,p1,p2,hu=>by
  unfold Hv at p1;subst p1;unfold Hv at p2;obtain⟨a2,its2,rfl,l2,p2⟩:=p2;exact EqAt.none_tuple  l2 (by lia)
 |.aB,.lst ds2,u,v,A,p1,p2,hu=>by
  unfold Hv at p1;subst p1;unfold Hv at p2;obtain⟨a2,its2,rfl,l2,p2⟩:=p2;exact EqAt.none_list  l2 (by lia)
 |.bl b1,.aB,u,v,A,p1,p2,hu=>by
  unfold Hv at p1;subst p1;unfold Hv at p2;subst p2;exact EqAt.bool_none b1
 |.bl b1,.bl b2,u,v,A,p1,p2,hu=>by
  unfold Hv at p1;subst p1;unfold Hv at p2;subst p2;exact EqAt.bool_bool b1 b2
 |.bl b1,.int b2,u,v,A,p1,p2,hu=>by
  unfold Hv at p1;subst p1;unfold Hv at p2;obtain⟨t2,rfl⟩:=p2;exact EqAt.bool_int b1 b2 t2
 |.bl b1,.str b2,u,v,A,p1,p2,hu=>by
  unfold Hv at p1;subst p1;unfold Hv at p2;obtain⟨t2,rfl⟩:=p2;exact EqAt.bool_str b1 b2 t2
 |.bl b1,.tup ds2,u,v,A,p1,p2,hu=>by
  unfold Hv at p1;subst p1;unfold Hv at p2;obtain⟨a2,its2,rfl,l2,p2⟩:=p2;exact EqAt.bool_tuple b1 l2 (by lia)
 |.bl b1,.lst ds2,u,v,A,p1,p2,hu=>by
  unfold Hv at p1;subst p1;unfold Hv at p2;obtain⟨a2,its2,rfl,l2,p2⟩:=p2;exact EqAt.bool_list b1 l2 (by lia)
 |.int b1,.aB,u,v,A,p1,p2,hu=>by
  unfold Hv at p1;obtain⟨t1,rfl⟩:=p1;unfold Hv at p2;subst p2;exact EqAt.int_none b1 t1
 |.int b1,.bl b2,u,v,A,p1,p2,hu=>by
  unfold Hv at p1;obtain⟨t1,rfl⟩:=p1;unfold Hv at p2;subst p2;exact EqAt.int_bool b1 t1 b2
 |.int b1,.int b2,u,v,A,p1,p2,hu=>by
  unfold Hv at p1;obtain⟨t1,rfl⟩:=p1;unfold Hv at p2;obtain⟨t2,rfl⟩:=p2;exact EqAt.int_int b1 t1 b2 t2
 |.int b1,.str b2,u,v,A,p1,p2,hu=>by
  unfold Hv at p1;obtain⟨t1,rfl⟩:=p1;unfold Hv at p2;obtain⟨t2,rfl⟩:=p2;exact EqAt.int_str b1 t1 b2 t2
 |.int b1,.tup ds2,u,v,A,p1,p2,hu=>by
  unfold Hv at p1;obtain⟨t1,rfl⟩:=p1;unfold Hv at p2;obtain⟨a2,its2,rfl,l2,p2⟩:=p2;exact EqAt.int_tuple b1 t1 l2 (by lia)
 |.int b1,.lst ds2,u,v,A,p1,p2,hu=>by
  unfold Hv at p1;obtain⟨t1,rfl⟩:=p1;unfold Hv at p2;obtain⟨a2,its2,rfl,l2,p2⟩:=p2;exact EqAt.int_list b1 t1 l2 (by lia)
 |.str b1,.aB,u,v,A,p1,p2,hu=>by
  unfold Hv at p1;obtain⟨t1,rfl⟩:=p1;unfold Hv at p2;subst p2;exact EqAt.str_none b1 t1
 |.str b1,.bl b2,u,v,A,p1,p2,hu=>by
  unfold Hv at p1;obtain⟨t1,rfl⟩:=p1;unfold Hv at p2;subst p2;exact EqAt.str_bool b1 t1 b2
 |.str b1,.int b2,u,v,A,p1,p2,hu=>by
  unfold Hv at p1;obtain⟨t1,rfl⟩:=p1;unfold Hv at p2;obtain⟨t2,rfl⟩:=p2;exact EqAt.str_int b1 t1 b2 t2
 |.str b1,.str b2,u,v,A,p1,p2,hu=>by
  unfold Hv at p1;obtain⟨t1,rfl⟩:=p1;unfold Hv at p2;obtain⟨t2,rfl⟩:=p2;exact EqAt.str_str b1 t1 b2 t2
 |.str b1,.tup ds2,u,v,A,p1,p2,hu=>by
  unfold Hv at p1;obtain⟨t1,rfl⟩:=p1;unfold Hv at p2;obtain⟨a2,its2,rfl,l2,p2⟩:=p2;exact EqAt.str_tuple b1 t1 l2 (by lia)
 |.str b1,.lst ds2,u,v,A,p1,p2,hu=>by
  unfold Hv at p1;obtain⟨t1,rfl⟩:=p1;unfold Hv at p2;obtain⟨a2,its2,rfl,l2,p2⟩:=p2;exact EqAt.str_list b1 t1 l2 (by lia)
 |.tup ds1,.aB,u,v,A,p1,p2,hu=>by
  unfold Hv at p1;obtain⟨a1,its1,rfl,l1,p1⟩:=p1;unfold Hv at p2;subst p2;exact EqAt.tuple_none  l1 (by lia)
 |.tup ds1,.bl b2,u,v,A,p1,p2,hu=>by
  unfold Hv at p1;obtain⟨a1,its1,rfl,l1,p1⟩:=p1;unfold Hv at p2;subst p2;exact EqAt.tuple_bool b2 l1 (by lia)
 |.tup ds1,.int b2,u,v,A,p1,p2,hu=>by
  unfold Hv at p1;obtain⟨a1,its1,rfl,l1,p1⟩:=p1;unfold Hv at p2;obtain⟨t2,rfl⟩:=p2;exact EqAt.tuple_int b2 t2 l1 (by lia)
 |.tup ds1,.str b2,u,v,A,p1,p2,hu=>by
  unfold Hv at p1;obtain⟨a1,its1,rfl,l1,p1⟩:=p1;unfold Hv at p2;obtain⟨t2,rfl⟩:=p2;exact EqAt.tuple_str b2 t2 l1 (by lia)
 |.tup ds1,.tup ds2,u,v,A,p1,p2,hu=>by
  unfold Hv at p1;obtain⟨a1,its1,rfl,l1,p1⟩:=p1;unfold Hv at p2;obtain⟨a2,its2,rfl,l2,p2⟩:=p2;unfold D.eY;by_cases ha:a1=a2
  ·subst ha;have e0:(.tup ds1:D)=.tup ds2:=Hv.inj (h:=s.heap) (u:=.ref a1) (by unfold Hv;exact⟨a1,its1,rfl,l1,p1⟩) (by unfold Hv;exact⟨a1,its2,rfl,l2,p2⟩);injection e0 with e0;subst e0;rw[p1.refl];exact EqAt.same _
  ·refine EqAt.of_refs ha ?_;have hdep:A.units+gQ ds1+1+1<cLine:=by
    have e9:(.tup ds1:D).kF=gQ ds1+1:=by first|rfl|(unfold D.kF;rfl)
    lia
   have q:=RcAt.tuples (e:=fun j=>(ds1.getD j .aB).eY (ds2.getD j .aB)) l1 l2 (by lia) fun j h1 h2=>
    have m:=(mV p1 h1).2
    yb (ds1.getD j .aB) (ds2.getD j .aB) _ _ A.in1 (mV p1 h1).1 (mV p2 h2).1 (by
     have:=wq m;show A.units+1+_+1<cLine;lia)
   rw[ψ,ψ,p1.length,p2.length,wo] at q;exact q
 |.tup ds1,.lst ds2,u,v,A,p1,p2,hu=>by
  unfold Hv at p1;obtain⟨a1,its1,rfl,l1,p1⟩:=p1;unfold Hv at p2;obtain⟨a2,its2,rfl,l2,p2⟩:=p2;exact EqAt.tuple_list l1 l2 (by lia)
 |.lst ds1,.aB,u,v,A,p1,p2,hu=>by
  unfold Hv at p1;obtain⟨a1,its1,rfl,l1,p1⟩:=p1;unfold Hv at p2;subst p2;exact EqAt.list_none  l1 (by lia)
 |.lst ds1,.bl b2,u,v,A,p1,p2,hu=>by
  unfold Hv at p1;obtain⟨a1,its1,rfl,l1,p1⟩:=p1;unfold Hv at p2;subst p2;exact EqAt.list_bool b2 l1 (by lia)
 |.lst ds1,.int b2,u,v,A,p1,p2,hu=>by
  unfold Hv at p1;obtain⟨a1,its1,rfl,l1,p1⟩:=p1;unfold Hv at p2;obtain⟨t2,rfl⟩:=p2;exact EqAt.list_int b2 t2 l1 (by lia)
 |.lst ds1,.str b2,u,v,A,p1,p2,hu=>by
  unfold Hv at p1;obtain⟨a1,its1,rfl,l1,p1⟩:=p1;unfold Hv at p2;obtain⟨t2,rfl⟩:=p2;exact EqAt.list_str b2 t2 l1 (by lia)
 |.lst ds1,.tup ds2,u,v,A,p1,p2,hu=>by
  unfold Hv at p1;obtain⟨a1,its1,rfl,l1,p1⟩:=p1;unfold Hv at p2;obtain⟨a2,its2,rfl,l2,p2⟩:=p2;exact EqAt.list_tuple l1 l2 (by lia)
 |.lst ds1,.lst ds2,u,v,A,p1,p2,hu=>by
  unfold Hv at p1;obtain⟨a1,its1,rfl,l1,p1⟩:=p1;unfold Hv at p2;obtain⟨a2,its2,rfl,l2,p2⟩:=p2;unfold D.eY;by_cases ha:a1=a2
  ·subst ha;have e0:(.lst ds1:D)=.lst ds2:=Hv.inj (h:=s.heap) (u:=.ref a1) (by unfold Hv;exact⟨a1,its1,rfl,l1,p1⟩) (by unfold Hv;exact⟨a1,its2,rfl,l2,p2⟩);injection e0 with e0;subst e0;rw[p1.refl];exact EqAt.same _
  ·refine EqAt.of_refs ha ?_;have hdep:A.units+gQ ds1+1+1<cLine:=by
    have e9:(.lst ds1:D).kF=gQ ds1+1:=by first|rfl|(unfold D.kF;rfl)
    lia
   by_cases hn:ds1.length=ds2.length
   ·have q:=RcAt.lists (e:=fun j=>(ds1.getD j .aB).eY (ds2.getD j .aB)) l1 l2 (by simp[p1.length,p2.length,hn]) (by lia) fun j h1 h2=>
     have m:=(mV p1 h1).2
     yb (ds1.getD j .aB) (ds2.getD j .aB) _ _ A.in1 (mV p1 h1).1 (mV p2 h2).1 (by
      have:=wq m;show A.units+1+_+1<cLine;lia)
    have q2:=wo ds1 ds2;rw[hn,qt,beq_self_eq_true,t5] at q2;rw[ψ,p1.length,hn,q2] at q;exact q
   ·rw[Ba _ _ hn];exact uV l1 l2 (by simp[p1.length,p2.length,hn]) (by lia)
 |.aB,.ji,u,v,A,p1,p2,hu=>by
  unfold Hv at p2;exact p2.elim
 |.bl b1,.ji,u,v,A,p1,p2,hu=>by
  unfold Hv at p2;exact p2.elim
 |.int b1,.ji,u,v,A,p1,p2,hu=>by
  unfold Hv at p2;exact p2.elim
 |.str b1,.ji,u,v,A,p1,p2,hu=>by
  unfold Hv at p2;exact p2.elim
 |.tup ds1,.ji,u,v,A,p1,p2,hu=>by
  unfold Hv at p2;exact p2.elim
 |.lst ds1,.ji,u,v,A,p1,p2,hu=>by
  unfold Hv at p2;exact p2.elim
 |.ji,e,u,v,A,p1,p2,hu=>by
  unfold Hv at p1;exact p1.elim
termination_by d=>sizeOf d
decreasing_by
 all_goals (have:=List.sizeOf_lt_of_mem m;first|(rw[D.tup.sizeOf_spec];lia)|(rw[D.lst.sizeOf_spec];lia))
theorem OQ{s:θ}(d e:D)(u v:ε)(A:aJ)(p1:Hv s.heap d u)(p2:Hv s.heap e v)(hu:A.units+d.kF+1<cLine):RcAt A s u v (d.eY e):=
 match d,e,p1,p2,hu with
 |.aB,.aB,p1,p2,hu=>by
  unfold Hv at p1;subst p1;unfold Hv at p2;subst p2;exact RcAt.none_none
 |.aB,.bl b2,p1,p2,hu=>by
  unfold Hv at p1;subst p1;unfold Hv at p2;subst p2;exact RcAt.none_bool  b2
 |.aB,.int b2,p1,p2,hu=>by
  unfold Hv at p1;subst p1;unfold Hv at p2;obtain⟨t2,rfl⟩:=p2;exact RcAt.none_int  b2 t2
 |.aB,.str b2,p1,p2,hu=>by
  unfold Hv at p1;subst p1;unfold Hv at p2;obtain⟨t2,rfl⟩:=p2;exact RcAt.none_str  b2 t2
 |.aB,.tup ds2,p1,p2,hu=>by
  unfold Hv at p1;subst p1;unfold Hv at p2;obtain⟨a2,its2,rfl,l2,p2⟩:=p2;exact RcAt.none_tuple  l2 (by lia)
 |.aB,.lst ds2,p1,p2,hu=>by
  unfold Hv at p1;subst p1;unfold Hv at p2;obtain⟨a2,its2,rfl,l2,p2⟩:=p2;exact RcAt.none_list  l2 (by lia)
 |.bl b1,.aB,p1,p2,hu=>by
  unfold Hv at p1;subst p1;unfold Hv at p2;subst p2;exact RcAt.bool_none b1
 |.bl b1,.bl b2,p1,p2,hu=>by
  unfold Hv at p1;subst p1;unfold Hv at p2;subst p2;exact RcAt.bool_bool b1 b2
 |.bl b1,.int b2,p1,p2,hu=>by
  unfold Hv at p1;subst p1;unfold Hv at p2;obtain⟨t2,rfl⟩:=p2;exact RcAt.bool_int b1 b2 t2
 |.bl b1,.str b2,p1,p2,hu=>by
  unfold Hv at p1;subst p1;unfold Hv at p2;obtain⟨t2,rfl⟩:=p2;exact RcAt.bool_str b1 b2 t2
 |.bl b1,.tup ds2,p1,p2,hu=>by
  unfold Hv at p1;subst p1;unfold Hv at p2;obtain⟨a2,its2,rfl,l2,p2⟩:=p2;exact RcAt.bool_tuple b1 l2 (by lia)
 |.bl b1,.lst ds2,p1,p2,hu=>by
  unfold Hv at p1;subst p1;unfold Hv at p2;obtain⟨a2,its2,rfl,l2,p2⟩:=p2;exact RcAt.bool_list b1 l2 (by lia)
 |.int b1,.aB,p1,p2,hu=>by
  unfold Hv at p1;obtain⟨t1,rfl⟩:=p1;unfold Hv at p2;subst p2;exact RcAt.int_none b1 t1
 |.int b1,.bl b2,p1,p2,hu=>by
  unfold Hv at p1;obtain⟨t1,rfl⟩:=p1;unfold Hv at p2;subst p2;exact RcAt.int_bool b1 t1 b2
 |.int b1,.int b2,p1,p2,hu=>by
  unfold Hv at p1;obtain⟨t1,rfl⟩:=p1;unfold Hv at p2;obtain⟨t2,rfl⟩:=p2;exact RcAt.int_int b1 t1 b2 t2
 |.int b1,.str b2,p1,p2,hu=>by
  unfold Hv at p1;obtain⟨t1,rfl⟩:=p1;unfold Hv at p2;obtain⟨t2,rfl⟩:=p2;exact RcAt.int_str b1 t1 b2 t2
 |.int b1,.tup ds2,p1,p2,hu=>by
  unfold Hv at p1;obtain⟨t1,rfl⟩:=p1;unfold Hv at p2;obtain⟨a2,its2,rfl,l2,p2⟩:=p2;exact RcAt.int_tuple b1 t1 l2 (by lia)
 |.int b1,.lst ds2,p1,p2,hu=>by
  unfold Hv at p1;obtain⟨t1,rfl⟩:=p1;unfold Hv at p2;obtain⟨a2,its2,rfl,l2,p2⟩:=p2;exact RcAt.int_list b1 t1 l2 (by lia)
 |.str b1,.aB,p1,p2,hu=>by
  unfold Hv at p1;obtain⟨t1,rfl⟩:=p1;unfold Hv at p2;subst p2;exact RcAt.str_none b1 t1
 |.str b1,.bl b2,p1,p2,hu=>by
  unfold Hv at p1;obtain⟨t1,rfl⟩:=p1;unfold Hv at p2;subst p2;exact RcAt.str_bool b1 t1 b2
 |.str b1,.int b2,p1,p2,hu=>by
  unfold Hv at p1;obtain⟨t1,rfl⟩:=p1;unfold Hv at p2;obtain⟨t2,rfl⟩:=p2;exact RcAt.str_int b1 t1 b2 t2
 |.str b1,.str b2,p1,p2,hu=>by
  unfold Hv at p1;obtain⟨t1,rfl⟩:=p1;unfold Hv at p2;obtain⟨t2,rfl⟩:=p2;exact RcAt.str_str b1 t1 b2 t2
 |.str b1,.tup ds2,p1,p2,hu=>by
  unfold Hv at p1;obtain⟨t1,rfl⟩:=p1;unfold Hv at p2;obtain⟨a2,its2,rfl,l2,p2⟩:=p2;exact RcAt.str_tuple b1 t1 l2 (by lia)
 |.str b1,.lst ds2,p1,p2,hu=>by
  unfold Hv at p1;obtain⟨t1,rfl⟩:=p1;unfold Hv at p2;obtain⟨a2,its2,rfl,l2,p2⟩:=p2;exact RcAt.str_list b1 t1 l2 (by lia)
 |.tup ds1,.aB,p1,p2,hu=>by
  unfold Hv at p1;obtain⟨a1,its1,rfl,l1,p1⟩:=p1;unfold Hv at p2;subst p2;exact RcAt.tuple_none  l1 (by lia)
 |.tup ds1,.bl b2,p1,p2,hu=>by
  unfold Hv at p1;obtain⟨a1,its1,rfl,l1,p1⟩:=p1;unfold Hv at p2;subst p2;exact RcAt.tuple_bool b2 l1 (by lia)
 |.tup ds1,.int b2,p1,p2,hu=>by
  unfold Hv at p1;obtain⟨a1,its1,rfl,l1,p1⟩:=p1;unfold Hv at p2;obtain⟨t2,rfl⟩:=p2;exact RcAt.tuple_int b2 t2 l1 (by lia)
 |.tup ds1,.str b2,p1,p2,hu=>by
  unfold Hv at p1;obtain⟨a1,its1,rfl,l1,p1⟩:=p1;unfold Hv at p2;obtain⟨t2,rfl⟩:=p2;exact RcAt.tuple_str b2 t2 l1 (by lia)
 |.tup ds1,.tup ds2,p1,p2,hu=>by
  unfold Hv at p1;obtain⟨a1,its1,rfl,l1,p1⟩:=p1;unfold Hv at p2;obtain⟨a2,its2,rfl,l2,p2⟩:=p2;unfold D.eY;have hdep:A.units+gQ ds1+1+1<cLine:=by
   have e9:(.tup ds1:D).kF=gQ ds1+1:=by first|rfl|(unfold D.kF;rfl)
   lia
  have q:=RcAt.tuples (e:=fun j=>(ds1.getD j .aB).eY (ds2.getD j .aB)) l1 l2 (by lia) fun j h1 h2=>
   yb (ds1.getD j .aB) (ds2.getD j .aB) _ _ A.in1 (mV p1 h1).1 (mV p2 h2).1 (by
    have:=wq (mV p1 h1).2;show A.units+1+_+1<cLine;lia)
  rw[ψ,ψ,p1.length,p2.length,wo] at q;exact q
 |.tup ds1,.lst ds2,p1,p2,hu=>by
  unfold Hv at p1;obtain⟨a1,its1,rfl,l1,p1⟩:=p1;unfold Hv at p2;obtain⟨a2,its2,rfl,l2,p2⟩:=p2;exact RcAt.tuple_list l1 l2 (by lia)
 |.lst ds1,.aB,p1,p2,hu=>by
  unfold Hv at p1;obtain⟨a1,its1,rfl,l1,p1⟩:=p1;unfold Hv at p2;subst p2;exact RcAt.list_none  l1 (by lia)
 |.lst ds1,.bl b2,p1,p2,hu=>by
  unfold Hv at p1;obtain⟨a1,its1,rfl,l1,p1⟩:=p1;unfold Hv at p2;subst p2;exact RcAt.list_bool b2 l1 (by lia)
 |.lst ds1,.int b2,p1,p2,hu=>by
  unfold Hv at p1;obtain⟨a1,its1,rfl,l1,p1⟩:=p1;unfold Hv at p2;obtain⟨t2,rfl⟩:=p2;exact RcAt.list_int b2 t2 l1 (by lia)
 |.lst ds1,.str b2,p1,p2,hu=>by
  unfold Hv at p1;obtain⟨a1,its1,rfl,l1,p1⟩:=p1;unfold Hv at p2;obtain⟨t2,rfl⟩:=p2;exact RcAt.list_str b2 t2 l1 (by lia)
 |.lst ds1,.tup ds2,p1,p2,hu=>by
  unfold Hv at p1;obtain⟨a1,its1,rfl,l1,p1⟩:=p1;unfold Hv at p2;obtain⟨a2,its2,rfl,l2,p2⟩:=p2;exact RcAt.list_tuple l1 l2 (by lia)
 |.lst ds1,.lst ds2,p1,p2,hu=>by
  unfold Hv at p1;obtain⟨a1,its1,rfl,l1,p1⟩:=p1;unfold Hv at p2;obtain⟨a2,its2,rfl,l2,p2⟩:=p2;unfold D.eY;have hdep:A.units+gQ ds1+1+1<cLine:=by
   have e9:(.lst ds1:D).kF=gQ ds1+1:=by first|rfl|(unfold D.kF;rfl)
   lia
  by_cases hn:ds1.length=ds2.length
  ·have q:=RcAt.lists (e:=fun j=>(ds1.getD j .aB).eY (ds2.getD j .aB)) l1 l2 (by simp[p1.length,p2.length,hn]) (by lia) fun j h1 h2=>
    yb (ds1.getD j .aB) (ds2.getD j .aB) _ _ A.in1 (mV p1 h1).1 (mV p2 h2).1 (by
     have:=wq (mV p1 h1).2;show A.units+1+_+1<cLine;lia)
   have q2:=wo ds1 ds2;rw[hn,qt,beq_self_eq_true,t5] at q2;rw[ψ,p1.length,hn,q2] at q;exact q
  ·rw[Ba _ _ hn];exact uV l1 l2 (by simp[p1.length,p2.length,hn]) (by lia)
 |d,.ji,p1,p2,hu=>by
  unfold Hv at p2;exact p2.elim
 |.ji,e,p1,p2,hu=>by
  unfold Hv at p1;exact p1.elim
theorem OP{s:θ}(d e:D)(u v:ε)(A:aJ)(p1:Hv s.heap d u)(p2:Hv s.heap e v)(hu:A.units+d.kF+1<cLine):RcNeAt A s u v (!d.eY e):=
 match d,e,p1,p2,hu with
 |.aB,.aB,p1,p2,hu=>by
  unfold Hv at p1;subst p1;unfold Hv at p2;subst p2;exact RcNeAt.none_none
 |.aB,.bl b2,p1,p2,hu=>by
  unfold Hv at p1;subst p1;unfold Hv at p2;subst p2;exact RcNeAt.none_bool  b2
 |.aB,.int b2,p1,p2,hu=>by
  unfold Hv at p1;subst p1;unfold Hv at p2;obtain⟨t2,rfl⟩:=p2;exact RcNeAt.none_int  b2 t2
 |.aB,.str b2,p1,p2,hu=>by
  unfold Hv at p1;subst p1;unfold Hv at p2;obtain⟨t2,rfl⟩:=p2;exact RcNeAt.none_str  b2 t2
 |.aB,.tup ds2,p1,p2,hu=>by
  unfold Hv at p1;subst p1;unfold Hv at p2;obtain⟨a2,its2,rfl,l2,p2⟩:=p2;exact RcNeAt.none_tuple  l2 (by lia)
 |.aB,.lst ds2,p1,p2,hu=>by
  unfold Hv at p1;subst p1;unfold Hv at p2;obtain⟨a2,its2,rfl,l2,p2⟩:=p2;exact RcNeAt.none_list  l2 (by lia)
 |.bl b1,.aB,p1,p2,hu=>by
  unfold Hv at p1;subst p1;unfold Hv at p2;subst p2;exact RcNeAt.bool_none b1
 |.bl b1,.bl b2,p1,p2,hu=>by
  unfold Hv at p1;subst p1;unfold Hv at p2;subst p2;exact RcNeAt.bool_bool b1 b2
 |.bl b1,.int b2,p1,p2,hu=>by
  unfold Hv at p1;subst p1;unfold Hv at p2;obtain⟨t2,rfl⟩:=p2;exact RcNeAt.bool_int b1 b2 t2
 |.bl b1,.str b2,p1,p2,hu=>by
  unfold Hv at p1;subst p1;unfold Hv at p2;obtain⟨t2,rfl⟩:=p2;exact RcNeAt.bool_str b1 b2 t2
 |.bl b1,.tup ds2,p1,p2,hu=>by
  unfold Hv at p1;subst p1;unfold Hv at p2;obtain⟨a2,its2,rfl,l2,p2⟩:=p2;exact RcNeAt.bool_tuple b1 l2 (by lia)
 |.bl b1,.lst ds2,p1,p2,hu=>by
  unfold Hv at p1;subst p1;unfold Hv at p2;obtain⟨a2,its2,rfl,l2,p2⟩:=p2;exact RcNeAt.bool_list b1 l2 (by lia)
 |.int b1,.aB,p1,p2,hu=>by
  unfold Hv at p1;obtain⟨t1,rfl⟩:=p1;unfold Hv at p2;subst p2;exact RcNeAt.int_none b1 t1
 |.int b1,.bl b2,p1,p2,hu=>by
  unfold Hv at p1;obtain⟨t1,rfl⟩:=p1;unfold Hv at p2;subst p2;exact RcNeAt.int_bool b1 t1 b2
 |.int b1,.int b2,p1,p2,hu=>by
  unfold Hv at p1;obtain⟨t1,rfl⟩:=p1;unfold Hv at p2;obtain⟨t2,rfl⟩:=p2;exact RcNeAt.int_int b1 t1 b2 t2
 |.int b1,.str b2,p1,p2,hu=>by
  unfold Hv at p1;obtain⟨t1,rfl⟩:=p1;unfold Hv at p2;obtain⟨t2,rfl⟩:=p2;exact RcNeAt.int_str b1 t1 b2 t2
 |.int b1,.tup ds2,p1,p2,hu=>by
  unfold Hv at p1;obtain⟨t1,rfl⟩:=p1;unfold Hv at p2;obtain⟨a2,its2,rfl,l2,p2⟩:=p2;exact RcNeAt.int_tuple b1 t1 l2 (by lia)
 |.int b1,.lst ds2,p1,p2,hu=>by
  unfold Hv at p1;obtain⟨t1,rfl⟩:=p1;unfold Hv at p2;obtain⟨a2,its2,rfl,l2,p2⟩:=p2;exact RcNeAt.int_list b1 t1 l2 (by lia)
 |.str b1,.aB,p1,p2,hu=>by
  unfold Hv at p1;obtain⟨t1,rfl⟩:=p1;unfold Hv at p2;subst p2;exact RcNeAt.str_none b1 t1
 |.str b1,.bl b2,p1,p2,hu=>by
  unfold Hv at p1;obtain⟨t1,rfl⟩:=p1;unfold Hv at p2;subst p2;exact RcNeAt.str_bool b1 t1 b2
 |.str b1,.int b2,p1,p2,hu=>by
  unfold Hv at p1;obtain⟨t1,rfl⟩:=p1;unfold Hv at p2;obtain⟨t2,rfl⟩:=p2;exact RcNeAt.str_int b1 t1 b2 t2
 |.str b1,.str b2,p1,p2,hu=>by
  unfold Hv at p1;obtain⟨t1,rfl⟩:=p1;unfold Hv at p2;obtain⟨t2,rfl⟩:=p2;exact RcNeAt.str_str b1 t1 b2 t2
 |.str b1,.tup ds2,p1,p2,hu=>by
  unfold Hv at p1;obtain⟨t1,rfl⟩:=p1;unfold Hv at p2;obtain⟨a2,its2,rfl,l2,p2⟩:=p2;exact RcNeAt.str_tuple b1 t1 l2 (by lia)
 |.str b1,.lst ds2,p1,p2,hu=>by
  unfold Hv at p1;obtain⟨t1,rfl⟩:=p1;unfold Hv at p2;obtain⟨a2,its2,rfl,l2,p2⟩:=p2;exact RcNeAt.str_list b1 t1 l2 (by lia)
 |.tup ds1,.aB,p1,p2,hu=>by
  unfold Hv at p1;obtain⟨a1,its1,rfl,l1,p1⟩:=p1;unfold Hv at p2;subst p2;exact RcNeAt.tuple_none  l1 (by lia)
 |.tup ds1,.bl b2,p1,p2,hu=>by
  unfold Hv at p1;obtain⟨a1,its1,rfl,l1,p1⟩:=p1;unfold Hv at p2;subst p2;exact RcNeAt.tuple_bool b2 l1 (by lia)
 |.tup ds1,.int b2,p1,p2,hu=>by
  unfold Hv at p1;obtain⟨a1,its1,rfl,l1,p1⟩:=p1;unfold Hv at p2;obtain⟨t2,rfl⟩:=p2;exact RcNeAt.tuple_int b2 t2 l1 (by lia)
 |.tup ds1,.str b2,p1,p2,hu=>by
  unfold Hv at p1;obtain⟨a1,its1,rfl,l1,p1⟩:=p1;unfold Hv at p2;obtain⟨t2,rfl⟩:=p2;exact RcNeAt.tuple_str b2 t2 l1 (by lia)
 |.tup ds1,.tup ds2,p1,p2,hu=>by
  unfold Hv at p1;obtain⟨a1,its1,rfl,l1,p1⟩:=p1;unfold Hv at p2;obtain⟨a2,its2,rfl,l2,p2⟩:=p2;unfold D.eY;have hdep:A.units+gQ ds1+1+1<cLine:=by
   have e9:(.tup ds1:D).kF=gQ ds1+1:=by first|rfl|(unfold D.kF;rfl)
   lia
  have q:=RcNeAt.tuples (e:=fun j=>(ds1.getD j .aB).eY (ds2.getD j .aB)) l1 l2 (by lia) fun j h1 h2=>
   yb (ds1.getD j .aB) (ds2.getD j .aB) _ _ A.in1 (mV p1 h1).1 (mV p2 h2).1 (by
    have:=wq (mV p1 h1).2;show A.units+1+_+1<cLine;lia)
  rw[ψ,ψ,p1.length,p2.length,wo] at q;exact q
 |.tup ds1,.lst ds2,p1,p2,hu=>by
  unfold Hv at p1;obtain⟨a1,its1,rfl,l1,p1⟩:=p1;unfold Hv at p2;obtain⟨a2,its2,rfl,l2,p2⟩:=p2;exact RcNeAt.tuple_list l1 l2 (by lia)
 |.lst ds1,.aB,p1,p2,hu=>by
  unfold Hv at p1;obtain⟨a1,its1,rfl,l1,p1⟩:=p1;unfold Hv at p2;subst p2;exact RcNeAt.list_none  l1 (by lia)
 |.lst ds1,.bl b2,p1,p2,hu=>by
  unfold Hv at p1;obtain⟨a1,its1,rfl,l1,p1⟩:=p1;unfold Hv at p2;subst p2;exact RcNeAt.list_bool b2 l1 (by lia)
 |.lst ds1,.int b2,p1,p2,hu=>by
  unfold Hv at p1;obtain⟨a1,its1,rfl,l1,p1⟩:=p1;unfold Hv at p2;obtain⟨t2,rfl⟩:=p2;exact RcNeAt.list_int b2 t2 l1 (by lia)
 |.lst ds1,.str b2,p1,p2,hu=>by
  unfold Hv at p1;obtain⟨a1,its1,rfl,l1,p1⟩:=p1;unfold Hv at p2;obtain⟨t2,rfl⟩:=p2;exact RcNeAt.list_str b2 t2 l1 (by lia)
 |.lst ds1,.tup ds2,p1,p2,hu=>by
  unfold Hv at p1;obtain⟨a1,its1,rfl,l1,p1⟩:=p1;unfold Hv at p2;obtain⟨a2,its2,rfl,l2,p2⟩:=p2;exact RcNeAt.list_tuple l1 l2 (by lia)
 |.lst ds1,.lst ds2,p1,p2,hu=>by
  unfold Hv at p1;obtain⟨a1,its1,rfl,l1,p1⟩:=p1;unfold Hv at p2;obtain⟨a2,its2,rfl,l2,p2⟩:=p2;unfold D.eY;have hdep:A.units+gQ ds1+1+1<cLine:=by
   have e9:(.lst ds1:D).kF=gQ ds1+1:=by first|rfl|(unfold D.kF;rfl)
   lia
  by_cases hn:ds1.length=ds2.length
  ·have q:=RcNeAt.lists (e:=fun j=>(ds1.getD j .aB).eY (ds2.getD j .aB)) l1 l2 (by simp[p1.length,p2.length,hn]) (by lia) fun j h1 h2=>
    yb (ds1.getD j .aB) (ds2.getD j .aB) _ _ A.in1 (mV p1 h1).1 (mV p2 h2).1 (by
     have:=wq (mV p1 h1).2;show A.units+1+_+1<cLine;lia)
   have q2:=wo ds1 ds2;rw[hn,qt,beq_self_eq_true,t5] at q2;rw[ψ,p1.length,hn,q2] at q;exact q
  ·rw[Ba _ _ hn];exact RcNeAt.lists_lengths l1 l2 (by simp[p1.length,p2.length,hn]) (by lia)
 |d,.ji,p1,p2,hu=>by
  unfold Hv at p2;exact p2.elim
 |.ji,e,p1,p2,hu=>by
  unfold Hv at p1;exact p1.elim
end Dat
namespace L3
open PySem PySem.Spec PyProof.Rows L2
section
variable {X:Cx} {K:η}
def Af(f:Int->Int->D):R3:=fun x y G Q=>match x,y with
 |.int i,.int j=>Q (f i j) G
 |_,_=>False
theorem kE{H:Hp}{i:Int}{v:V}(h:Hv K H (.int i) v):v=.int i:=by unfold Hv at h;exact h
theorem wm{H:Hp}{i:Bool}{v:V}(h:Hv K H (.bl i) v):v=.bl i:=by unfold Hv at h;exact h
theorem iH{H:Hp}{a:ζ}{v:V}(h:Hv K H (.obj a) v):v=.ref a:=by unfold Hv at h;exact h
theorem lJ{H:Hp}{ds:List D}{v:V}(h:Hv K H (.tup ds) v):∃a vs,v=.ref a/\cL K H a vs/\aR K H ds vs:=by unfold Hv at h;exact h
theorem uA{H:Hp}{ds:List D}{v:V}(h:Hv K H (.fy ds) v):∃a vs,v=.ref a/\pj K H a vs/\aR K H ds vs:=by unfold Hv at h;exact h
theorem nW{H:Hp}{i:Int}:Hv K H (.int i) (.int i):=by simp[Hv]
theorem oH{H:Hp}{i:Bool}:Hv K H (.bl i) (.bl i):=by simp[Hv]
theorem rp{H:Hp}{a:ζ}:Hv K H (.obj a) (.ref a):=by simp[Hv]
theorem sO{H:Hp}{ds:List D}{a:ζ}{vs:List V}(h:cL K H a vs)(q:aR K H ds vs):Hv K H (.tup ds) (.ref a):=by
 unfold Hv;exact⟨a,vs,rfl,h,q⟩
theorem low_ints{f:Int->Int->D}{g:Int->Int->V}(hf:∀i j H,Hv K H (f i j) (g i j)):fh K (Af f) (p6 g):=fun x y vx vy G H Q3 Q hx hy RG h k=>by
 cases x with
 |int i=>
  cases y with
  |int j=>
   rw[kE hx,kE hy];exact⟨i,j,rfl,rfl,k _ H _ G (hf i j H) (.refl H G) RG h⟩
  |_=>exact h.elim
 |_=>exact h.elim
abbrev jH:R3:=Af fun i j=>.int (i-j)
theorem oG:fh K jH (p6 fun i j=>.int (i-j)):=low_ints fun _ _ _=>nW
abbrev Ii:R3:=Af fun i j=>.bl (decide (i≤j))
theorem aaK:fh K Ii (p6 fun i j=>.bl (decide (i≤j))):=low_ints fun _ _ _=>oH
abbrev uq:R3:=Af fun i j=>.bl (decide (j<i))
theorem xY:fh K uq (p6 fun i j=>.bl (decide (j<i))):=low_ints fun _ _ _=>oH
abbrev Io:R3:=Af fun i j=>.bl (decide (j≤i))
theorem aaN:fh K Io (p6 fun i j=>.bl (decide (j≤i))):=low_ints fun _ _ _=>oH
def ie(i:Int):Prop:=i.natAbs<2^4000
theorem LA{i:Int}(h:ie i):i.natAbs.log2<4000:=by
 by_cases h0:i.natAbs=0
 ·rw[h0];decide
 ·exact (Nat.log2_lt h0).mpr h
theorem Lz{i:Int}(h:ie i):jE i≤4000:=by
 unfold jE;split
 ·exact aI _
 ·exact LA h
theorem U3{i j:Int}(h1:ie i)(h2:ie j):IntMulOk i j:=by
 unfold IntMulOk di.Int.intTooBig;have b1:=Lz h1;have b2:=Lz h2;have:¬((jE i:Int)+(jE j:Int) > (bitsLine:Int)):=by
  have:(bitsLine:Int)=134217728:=by decide
  lia
 rw[decide_eq_false this];simp
theorem rm:eZ X (binaryOp .FloorDiv) (rI (fun _ j=>0<j/\ie j) fun i j=>.int (i / j)):=GB fun i j _ _ _ _ _ hc q=>by
 have h1:(0:Int)<j:=hc.1;exact floordiv_int (by lia) (by rw[Int.fdiv_eq_ediv_of_nonneg i (by lia)];exact q) (.inl (PyProof.noPylong_of_log2 (mG (LA hc.2) (by decide))))
theorem HG:eZ X (binaryOp .Mult) (rI (fun i j=>ie i/\ie j) fun i j=>.int (i*j)):=GB fun _ _ _ _ _ _ _ hc q=>mul_int q (U3 hc.1 hc.2)
def AB(C:Int->Int->Prop)(f:Int->Int->D):R3:=fun x y G Q=>match x,y with
 |.int i,.int j=>C i j/\Q (f i j) G
 |_,_=>False
theorem Fv{C:Int->Int->Prop}{f:Int->Int->D}{g:Int->Int->V}(hf:∀i j H,Hv K H (f i j) (g i j)):fh K (AB C f) (rI C g):=fun x y vx vy G H Q3 Q hx hy RG h k=>by
 cases x with
 |int i=>
  cases y with
  |int j=>
   rw[kE hx,kE hy];exact⟨i,j,rfl,rfl,h.1,k _ H _ G (hf i j H) (.refl H G) RG h.2⟩
  |_=>exact h.elim
 |_=>exact h.elim
abbrev lA:R3:=AB (fun _ j=>0<j/\ie j) fun i j=>.int (i / j)
theorem rl:fh K lA (rI (fun _ j=>0<j/\ie j) fun i j=>.int (i / j)):=Fv fun _ _ _=>nW
abbrev iY:R3:=AB (fun _ j=>0<j) fun i j=>.int (i%j)
theorem mf:fh K iY (rI (fun _ j=>0<j) fun i j=>.int (i%j)):=Fv fun _ _ _=>nW
abbrev vh:R3:=AB Gi fun i j=>.int (i^j.toNat)
theorem zl:fh K vh (rI Gi fun i j=>.int (i^j.toNat)):=Fv fun _ _ _=>nW
theorem U2{prog:ag}{w:av}{A:aJ}{E:ε->θ->Prop}{s:θ}{t b:ζ}{ws:List ε}{Q:ε->θ->Prop}(ht:pP s.heap t #[])(hb:pP s.heap b ws.toArray)(h1:Q (.ref b) s):
  ρ (model prog w) A (binaryOp .Add (.ref t) (.ref b)) Q E s:=by
 obtain⟨⟨cls,dd,data,sl⟩,ho,hc,n,hd⟩:=id ht;obtain⟨⟨cls2,dd2,data2,sl2⟩,ho2,hc2,n2,hd2⟩:=id hb;simp only at hc hd hc2 hd2;subst hc hd hc2 hd2;exact qo ⟨_,ho,rfl⟩ ⟨_,ho2,rfl⟩ qm tT ll kH (j8 _ _)
   (tuple_addW0 t b #[] ws.toArray n n2 dd dd2 sl sl2 rfl) ⟨ho,ho2,h1⟩
def Dh(K:η):R2:=fun x y H Q=>∃a b ys,x=.ref a/\y=.ref b/\cL K H a []/\cL K H b ys/\Q (.ref b) H
theorem U1:eZ X (binaryOp .Add) (Dh X.K):=by
 intro pins s σ H x y v u Q I rx ry h;obtain⟨a,b,ys,rfl,rfl,ha,hb,q⟩:=h;cases rx;cases ry;obtain⟨its,r1,p1,_⟩:=I.tuple ha;obtain⟨its2,r2,p2,_⟩:=I.tuple hb;cases r1;exact U2 p1 p2 ⟨.ref b,H,I,rfl,q⟩
def dI:R3:=fun x y G Q=>match x,y with
 |.int i,.int j=>Q (.int (i+j)) G
 |.obj a,.obj b=>∃ds es,G a=some (.lst ds)/\G b=some (.lst es)/\ds.length+es.length≤aw/\∀p G',eF G p (.lst (ds++es)) G'->Q (.obj p) G'
 |.tup ds,.tup es=>ds.length+es.length≤aw/\Q (.tup (ds++es)) G
 |_,_=>False
abbrev Gx(K:η):R2:=fun x y H Q=>p6 (fun i j=>.int (i+j)) x y H Q∨(Ip x y H Q∨(Gv K x y H Q∨Dh K x y H Q))
theorem jh:eZ X (binaryOp .Add) (Gx X.K):=Mx.or (Mw.or (HH.or U1))
theorem jg:fh K dI (Gx K):=fun x y vx vy G H Q3 Q hx hy RG h k=>by
 cases x with
 |int i=>
  cases y with
  |int j=>
   rw[kE hx,kE hy];exact .inl ⟨i,j,rfl,rfl,k _ H _ G nW (.refl H G) RG h⟩
  |_=>exact h.elim
 |obj a=>
  cases y with
  |obj b=>
   rw[iH hx,iH hy];obtain⟨ds,es,e1,e2,hz,q⟩:=h;obtain⟨vs,z1,z2⟩:=RG a _ e1;obtain⟨us,y1,y2⟩:=RG b _ e2;refine .inr (.inl ⟨a,b,vs,us,rfl,rfl,z1,y1,by rw[←z2.length,←y2.length];exact hz,fun p hp=>?_⟩);exact k _ _ (.obj p) _ rp (.hX hp) (RG.wx hp (z2.append y2)) (q p _ (.mk' (RG.free hp)))
  |_=>exact h.elim
 |tup ds=>
  cases y with
  |tup es=>
   obtain⟨a,vs,rfl,e1,e2⟩:=lJ hx;obtain⟨b,us,rfl,y1,y2⟩:=lJ hy;by_cases h0:vs=[]
   ·subst h0;have:ds=[]:=by
     have:=e2.length;exact mS (by simpa using this)
    subst this;exact .inr (.inr (.inr ⟨a,b,us,rfl,rfl,e1,y1,k _ H (.tup es) G (sO y1 y2) (.refl H G) RG h.2⟩))
   ·refine .inr (.inr (.inl ⟨a,b,vs,us,rfl,rfl,e1,y1,h0,by rw[←e2.length,←y2.length];exact h.1,fun z=>?_,fun z p hp=>?_⟩))
    ·subst z;have:es=[]:=mS (by simpa using y2.length);subst this;refine k _ H (.tup ds) G (sO e1 e2) (.refl H G) RG ?_;have:=h.2;rwa [bV] at this
    ·exact k _ _ (.tup (ds++es)) G (sO (.of g6) ((e2.append y2).ext (.laid hp))) (.laid hp) (RG.laid hp) h.2
  |_=>exact h.elim
 |_=>exact h.elim
def gZ:R3:=fun x y G Q=>match x,y with
 |.int i,.int j=>(ie i/\ie j)/\Q (.int (i*j)) G
 |.obj a,.int k=>∃ds,G a=some (.lst ds)/\(-(2^63)≤k/\k<2^63)/\ds.length*k.toNat≤aw/\∀p G',eF G p (.lst (aA k.toNat ds).flatten) G'->Q (.obj p) G'
 |_,_=>False
abbrev Gu:R2:=fun x y H Q=>rI (fun i j=>ie i/\ie j) (fun i j=>.int (i*j)) x y H Q∨Ie x y H Q
theorem oY:eZ X (binaryOp .Mult) Gu:=HG.or V7
theorem oX:fh K gZ Gu:=fun x y vx vy G H Q3 Q hx hy RG h k=>by
 cases x with
 |int i=>
  cases y with
  |int j=>
   rw[kE hx,kE hy];exact .inl ⟨i,j,rfl,rfl,h.1,k _ H _ G nW (.refl H G) RG h.2⟩
  |_=>exact h.elim
 |obj a=>
  cases y with
  |int j=>
   rw[iH hx,kE hy];obtain⟨ds,e1,hk,hz,q⟩:=h;obtain⟨vs,z1,z2⟩:=RG a _ e1;refine .inr ⟨a,j,vs,rfl,rfl,z1,hk.1,hk.2,by rw[←z2.length];exact hz,fun p hp=>?_⟩;exact k _ _ (.obj p) _ rp (.hX hp) (RG.wx hp (z2.rep _)) (q p _ (.mk' (RG.free hp)))
  |_=>exact h.elim
 |_=>exact h.elim
def BE:D->Bool
 |.aB=>true
 |_=>false
def AA(neg:Bool):R3:=fun x y G Q=>match y with
 |.aB=>Q (.bl (if neg then !BE x else BE x)) G
 |_=>False
theorem Ly{H:Hp}{x:D}{v:V}(h:Hv K H x v):decide (v=.aB)=BE x:=by
 cases x with
 |aB=>unfold Hv at h;subst h;rfl
 |bl b=>rw[wm h];rfl
 |int b=>rw[kE h];rfl
 |str b=>unfold Hv at h;subst h;rfl
 |obj b=>rw[iH h];rfl
 |tup ds=>obtain⟨a,vs,rfl,_⟩:=lJ h;rfl
 |fy ds=>obtain⟨a,vs,rfl,_⟩:=uA h;rfl
 |dc a=>unfold Hv at h;rw[h.1];rfl
theorem aaM:fh K (AA false) (fun x y H Q=>y=.aB/\Q (.bl (decide (x=.aB))) H):=fun x y vx vy G H Q3 Q hx hy RG h k=>by
 cases y with
 |aB=>
  refine⟨by unfold Hv at hy;exact hy,?_⟩;rw[Ly hx];exact k _ H _ G oH (.refl H G) RG h
 |_=>exact h.elim
theorem U0:fh K (AA true) (fun x y H Q=>y=.aB/\Q (.bl (!decide (x=.aB))) H):=fun x y vx vy G H Q3 Q hx hy RG h k=>by
 cases y with
 |aB=>
  refine⟨by unfold Hv at hy;exact hy,?_⟩;rw[Ly hx];exact k _ H _ G oH (.refl H G) RG h
 |_=>exact h.elim
def intsOf:List D->Option (List Int)
 |[]=>some []
 |.int i::r=>(intsOf r).map (i::·)
 |_::_=>none
theorem uz{H:Hp}:∀{ds:List D} {vs:List V} {ns:List Int},aR K H ds vs->intsOf ds=some ns->vs=ns.map V.int
 |[],vs,ns,h,e=>by
  cases e;exact h.i5
 |d::ds,vs,ns,h,e=>by
  cases d with
  |int i=>
   obtain⟨v,r,rfl,z1,z2⟩:=h.inv;unfold intsOf at e;cases hm:intsOf ds with
   |none=>rw[hm] at e;cases e
   |some ms=>
    rw[hm] at e;cases e;rw[kE z1,uz z2 hm];rfl
  |_=>cases e
def sH:R3:=fun x y G Q=>match x,y with
 |.int i,.int j=>Q (.bl (decide (i<j))) G
 |.tup ds,.tup es=>∃ns ms,intsOf ds=some ns/\intsOf es=some ms/\Q (.bl (HT.lexLt ns ms)) G
 |_,_=>False
abbrev Ih(K:η):R2:=fun x y H Q=>p6 (fun i j=>.bl (decide (i<j))) x y H Q∨Ig K x y H Q
theorem zk(hu:X.A.units<cLine):eZ X (compareOp .Lt) (Ih X.K):=Nv.or (Wh hu)
theorem zj:fh K sH (Ih K):=fun x y vx vy G H Q3 Q hx hy RG h k=>by
 cases x with
 |int i=>
  cases y with
  |int j=>
   rw[kE hx,kE hy];exact .inl ⟨i,j,rfl,rfl,k _ H _ G oH (.refl H G) RG h⟩
  |_=>exact h.elim
 |tup ds=>
  cases y with
  |tup es=>
   obtain⟨a,vs,rfl,e1,e2⟩:=lJ hx;obtain⟨b,us,rfl,y1,y2⟩:=lJ hy;obtain⟨ns,ms,z1,z2,q⟩:=h;have q1:=uz e2 z1;have q2:=uz y2 z2;subst q1 q2;exact .inr ⟨a,b,ns,ms,rfl,rfl,e1,y1,k _ H _ G oH (.refl H G) RG q⟩
  |_=>exact h.elim
 |_=>exact h.elim
def fc:R3:=fun x y G Q=>match x,y with
 |.tup ds,.int i=>∃d,mv ds i=some d/\Q d G
 |.fy ds,.int i=>∃d,mv ds i=some d/\Q d G
 |.obj p,.int i=>∃ds d,G p=some (.lst ds)/\mv ds i=some d/\Q d G
 |_,_=>False
theorem A9{H:Hp}{ds:List D}{vs:List V}{i:Int}{d:D}(h:aR K H ds vs)(e:mv ds i=some d):∃v,mv vs i=some v/\Hv K H d v:=by
 unfold mv at e ⊢;rw[←h.length];cases hx:wX ds.length i with
 |none=>rw[hx] at e;cases e
 |some j=>
  rw[hx] at e;exact h.get e
theorem aaL:fh K fc (Oj K):=fun x y vx vy G H Q3 Q hx hy RG h k=>by
 cases y with
 |int i=>
  rw[kE hy];cases x with
  |tup ds=>
   obtain⟨d,e,q⟩:=h;obtain⟨a,vs,rfl,e1,e2⟩:=lJ hx;obtain⟨v,z1,z2⟩:=A9 e2 e;exact .inr (.inl ⟨a,vs,i,v,rfl,rfl,e1,z1,k _ H d G z2 (.refl H G) RG q⟩)
  |fy ds=>
   obtain⟨d,e,q⟩:=h;obtain⟨a,vs,rfl,e1,e2⟩:=uA hx;obtain⟨v,z1,z2⟩:=A9 e2 e;exact .inl ⟨a,vs,i,v,rfl,rfl,e1.l,z1,k _ H d G z2 (.refl H G) RG q⟩
  |obj p=>
   obtain⟨ds,d,e0,e,q⟩:=h;rw[iH hx];obtain⟨vs,e1,e2⟩:=RG p _ e0;obtain⟨v,z1,z2⟩:=A9 e2 e;exact .inl ⟨p,vs,i,v,rfl,rfl,.of e1,z1,k _ H d G z2 (.refl H G) RG q⟩
  |_=>exact h.elim
 |_=>cases x<;>exact h.elim
theorem aaX{a b:υ}{ta tb:aQ}{pos:aN}(ha:bN X a ta)(hb:bN X b tb)(hs:rX b:=by intro _ _;rfl):bN X (.Subscript a b pos) (ax fc ta tb):=jJ (L4 LZ ha hb hs) fun _ _ _ h=>Be aaL h
def w6(ta:dB)(tb:aQ):aQ:=fun τ G Q=>ta τ G fun ds G1=>uj (tb τ G1 fun y G2=>match y with
 |.int i=>∃d,mv ds i=some d/\Q d G2
 | _=>False) ds 64
theorem UZ{es:List υ}{b:υ}{ta:dB}{tb:aQ}{pos pos':aN}(ha:kG X es ta)(hb:bN X b tb)(hs:rX b:=by intro _ _;rfl):bN X (.Subscript (.List es pos') b pos) (w6 ta tb):=
 jJ (L4 LZ (Mf ha) hb hs) fun σ H Q ⟨τ,G,Q3,RS,RG,h,k⟩=>by
  refine⟨τ,G,_,RS,RG,h,fun vs H1 ds G1 h1 S1 R1 q1=>?_⟩;obtain⟨z,q1⟩:=Bd q1;refine⟨by rw[←h1.length];exact zH z,fun p hp=>?_⟩;refine⟨τ,G1,_,(RS.ext (S1.ext RG)).ext (.laid hp),R1.laid hp,q1,fun v2 H2 d2 G2 h2 S2 R2 q2=>?_⟩;have e2:H2 p=some (.lst vs):=S2.fr p _ g6 (R1.free hp);cases d2 with
  |int i=>
   obtain⟨d,e,q⟩:=q2;obtain⟨v,z1,z2⟩:=A9 ((h1.ext (.laid hp)).ext (S2.ext (R1.laid hp))) e;rw[kE h2];exact .inl ⟨p,vs,i,v,rfl,rfl,.of e2,z1,k _ H2 d G2 z2 ((S1.trans (.laid hp)).trans S2) R2 q⟩
  |_=>exact q2.elim
end
end L3
namespace L3
open PySem PySem.Spec PyProof.Rows L2
mutual
def pX:D->Option Dat.D
 |.aB=>some .aB
 |.bl b=>some (.bl b)
 |.int i=>some (.int i)
 |.str x=>some (.str x)
 |.tup ds=>match ft ds with
  |some xs=>some (.tup xs)
  |none=>none
 |.fy ds=>match ft ds with
  |some xs=>some (.lst xs)
  |none=>none
 |.obj _=>none
 |.dc _=>none
def ft:List D->Option (List Dat.D)
 |[]=>some []
 |d::ds=>match pX d with
  |some x=>match ft ds with
   |some xs=>some (x::xs)
   |none=>none
  |none=>none
end
def vf(G:Gp):D->Option Dat.D
 |.obj a=>match G a with
  |some (.lst ds)=>match ft ds with
   |some xs=>some (.lst xs)
   |none=>none
  |_=>none
 |d=>pX d
section
variable {X:Cx} {pins:List (ζ×aH)} {σ:L2.St} {H:Hp} {s:θ}
mutual
theorem uy(I:Inv X pins σ H s):∀{d:D} {v:V} {u:ε} {x:Dat.D},Hv X.K H d v->RelV v u->pX d=some x->Dat.Hv s.heap x u
 |.aB,v,u,x,h,r,e=>by
  unfold Hv at h;subst h;cases e;unfold Dat.Hv;exact r
 |.bl b,v,u,x,h,r,e=>by
  unfold Hv at h;subst h;cases e;unfold Dat.Hv;exact r
 |.int b,v,u,x,h,r,e=>by
  unfold Hv at h;subst h;cases e;unfold Dat.Hv;exact r
 |.str b,v,u,x,h,r,e=>by
  unfold Hv at h;subst h;cases e;unfold Dat.Hv;exact r
 |.obj a,v,u,x,h,r,e=>by cases e
 |.dc a,v,u,x,h,r,e=>by cases e
 |.tup ds,v,u,x,h,r,e=>by
  obtain⟨a,vs,rfl,q1,q2⟩:=lJ h;cases r;unfold pX at e;cases hd:ft ds with
  |none=>rw[hd] at e;cases e
  |some xs=>
   rw[hd] at e;cases e;obtain⟨its,rv,p,_⟩:=I.tuple q1;unfold Dat.Hv;exact⟨a,its,rfl,p,A8 I q2 rv hd⟩
 |.fy ds,v,u,x,h,r,e=>by
  obtain⟨a,vs,rfl,q1,q2⟩:=uA h;cases r;unfold pX at e;cases hd:ft ds with
  |none=>rw[hd] at e;cases e
  |some xs=>
   rw[hd] at e;cases e;obtain⟨its,rv,p,_⟩:=I.list q1.l;unfold Dat.Hv;exact⟨a,its,rfl,p.isList,A8 I q2 rv hd⟩
theorem A8(I:Inv X pins σ H s):∀{ds:List D} {vs:List V} {us:List ε} {xs:List Dat.D},aR X.K H ds vs->bh vs us->ft ds=some xs->Dat.aR s.heap xs us
 |[],vs,us,xs,h,r,e=>by
  cases h.i5;cases r;cases e;unfold Dat.aR;rfl
 |d::ds,vs,us,xs,h,r,e=>by
  obtain⟨v,vr,rfl,q1,q2⟩:=h.inv;unfold ft at e;cases hd:pX d with
  |none=>rw[hd] at e;cases e
  |some x=>
   rw[hd] at e;cases hr:ft ds with
   |none=>rw[hr] at e;cases e
   |some xr=>
    rw[hr] at e;cases e;cases r with
    |cons r1 r2=>
     unfold Dat.aR;exact⟨_,_,rfl,uy I q1 r1 hd,A8 I q2 r2 hr⟩
end
theorem A7{G:Gp}(I:Inv X pins σ H s)(RG:aV X.K G H){d:D}{v:V}{u:ε}{x:Dat.D}(h:Hv X.K H d v)(r:RelV v u)(e:vf G d=some x):Dat.Hv s.heap x u:=by
 cases d with
 |obj a=>
  rw[iH h] at r;cases r;unfold vf at e;cases hG:G a with
  |none=>simp[hG] at e
  |some o=>
   cases o with
   |lst ds=>
    simp only[hG] at e;cases hr:ft ds with
    |none=>rw[hr] at e;cases e
    |some xs=>
     rw[hr] at e;cases e;obtain⟨vs,e1,e2⟩:=RG a _ hG;obtain⟨its,rv,p,_⟩:=I.list (fg.of e1);unfold Dat.Hv;exact⟨a,its,rfl,p.isList,A8 I e2 rv hr⟩
   |mW=>simp[hG] at e
   |ji=>simp[hG] at e
   |gen R=>simp[hG] at e
 |aB=>exact uy I h r e
 |bl _=>exact uy I h r e
 |int _=>exact uy I h r e
 |str _=>exact uy I h r e
 |tup _=>exact uy I h r e
 |fy _=>exact uy I h r e
 |dc _=>exact uy I h r e
end
section
variable {X:Cx} {a b e:υ} {ta tb:aQ} {pos:aN}
def eI(neg:Bool):R3:=fun x y G Q=>∃u v,vf G x=some u/\vf G y=some v/\u.kF≤50/\Q (.bl (if neg then !u.eY v else u.eY v)) G
def CU(X:Cx)(f:ε->ε->j7 ε)(r:R3):Prop:=
 ∀(pins:List (ζ×aH)) (s:θ) (σ:L2.St) (H:Hp) (G:Gp) (x y:D) (vx vy:V) (u v:ε) (Q3:V3),Inv X pins σ H s->aV X.K G H->Hv X.K H x vx->Hv X.K H y vy->RelV vx u->RelV vy v->r x y G Q3 ->
  ρ (model X.prog X.w) X.A (f u v) (EP X pins σ fun w H'=>∃d G',Hv X.K H' d w/\Step H G H' G'/\aV X.K G' H'/\Q3 d G') X.xe s
theorem eqR(hu:X.A.units+64<cLine):CU X (compareOp .Eq) (eI false):=by
 intro pins s σ H G x y vx vy u v Q3 I RG hx hy rx ry ⟨p,q,e1,e2,hd,h⟩;have:=Dat.OQ p q u v X.A (A7 I RG hx rx e1) (A7 I RG hy ry e2) (by lia);exact this _ _ _ _ ⟨.bl (p.eY q),H,I,rfl,.bl (p.eY q),G,oH,.refl H G,RG,h⟩
theorem neR(hu:X.A.units+64<cLine):CU X (compareOp .NotEq) (eI true):=by
 intro pins s σ H G x y vx vy u v Q3 I RG hx hy rx ry ⟨p,q,e1,e2,hd,h⟩;have:=Dat.OP p q u v X.A (A7 I RG hx rx e1) (A7 I RG hy ry e2) (by lia);exact this _ _ _ _ ⟨.bl (!p.eY q),H,I,rfl,.bl (!p.eY q),G,oH,.refl H G,RG,h⟩
def vm(K:η)(r:R3):R2:=fun vx vy H Q=>∃x y G Q3,aV K G H/\Hv K H x vx/\Hv K H y vy/\r x y G Q3/\∀v H' d G',Hv K H' d v->Step H G H' G'->aV K G' H'->Q3 d G'->Q v H'
theorem CU.op{f:ε->ε->j7 ε}{r:R3}(h:CU X f r):eZ X f (vm X.K r):=by
 intro pins s σ H vx vy u v Q I rx ry ⟨x,y,G,Q3,RG,hx,hy,q,k⟩;refine bO (h pins s σ H G x y vx vy u v Q3 I RG hx hy rx ry q) fun w s' ⟨v',H',I',r',d,G',z1,z2,z3,z4⟩=>⟨v',H',I',r',k v' H' d G' z1 z2 z3 z4⟩
theorem Lx{K:η}{r:R3}:fh K r (vm K r):=fun x y vx vy G H Q3 Q hx hy RG h k=>⟨x,y,G,Q3,RG,hx,hy,h,k⟩
theorem m9(hu:X.A.units+64<cLine):eZ X (compareOp .Eq) (vm X.K (eI false)):=(eqR hu).op
theorem rk(hu:X.A.units+64<cLine):eZ X (compareOp .NotEq) (vm X.K (eI true)):=(neR hu).op
theorem nk{K:η}:fh K (eI false) (vm K (eI false)):=Lx
theorem rq{K:η}:fh K (eI true) (vm K (eI true)):=Lx
abbrev yj:=S3->Gp->(Option Int->Gp->Prop)->Prop
def aaJ(K:η)(t:yj):TO:=fun σ H Q=>∃τ G Q3,eB K τ σ H/\aV K G H/\t τ G Q3/\∀o H' G',Step H G H' G'->aV K G' H'->Q3 o G'->Q o H'
abbrev Dw(X:Cx)(e:Option υ)(t:yj):Prop:=PO X e (aaJ X.K t)
theorem Lw{o:Option υ}{t t':TO}(h:PO X o t)(f:∀σ H Q,t' σ H Q->t σ H Q):PO X o t':=fun pins s σ H Q I q=>h pins s σ H Q I (f σ H Q q)
def yq:yj:=fun _ G Q=>Q none G
def vj(t:aQ):yj:=fun τ G Q=>t τ G fun x G1=>match x with
 |.int i=>Q (some i) G1
 |_=>False
theorem UY:Dw X none yq:=Lw Wk fun σ H Q ⟨τ,G,Q3,RS,RG,h,k⟩=>k none H G (.refl H G) RG h
theorem UX(h:bN X e ta):Dw X (some e) (vj ta):=Lw (Wj h) fun σ H Q ⟨τ,G,Q3,RS,RG,h,k⟩=>
 ⟨τ,G,_,RS,RG,h,fun v H1 d G1 h1 S1 R1 q1=>by
  cases d with
  |int i=>exact⟨i,kE h1,k (some i) H1 G1 S1 R1 q1⟩
  |_=>exact q1.elim⟩
def mq(ds:List D)(lo hi:Option Int):List D:=(ds.drop (HT.cu ds.length 0 lo)).take (HT.cu ds.length ds.length hi-HT.cu ds.length 0 lo)
def Ds(ta:aQ)(tl th:yj):aQ:=fun τ G Q=>ta τ G fun x G1=>tl τ G1 fun lo G2=>th τ G2 fun hi G3=>match x with
 |.tup ds=>Q (.tup (mq ds lo hi)) G3
 |.fy ds=>∀p G4,eF G3 p (.lst (mq ds lo hi)) G4->Q (.obj p) G4
 |.obj a=>∃ds,G3 a=some (.lst ds)/\∀p G4,eF G3 p (.lst (mq ds lo hi)) G4->Q (.obj p) G4
 |_=>False
theorem Fu{K:η}{H:Hp}{ds:List D}{vs:List V}(h:aR K H ds vs)(lo hi:Option Int):aR K H (mq ds lo hi) (uL vs lo hi):=by
 unfold mq uL;rw[h.length];exact (h.drop _).take _
theorem UW{prog:ag}{w:av}{A:aJ}{E:ε->θ->Prop}{s:θ}{t sl:ζ}{items:Array ε}{vl vu:ε}{lo hi:Option Int}{Q:ε->θ->Prop}(ht:pP s.heap t items)(hs:s.heap.IsSliceOf sl vl vu .none)(pl:mM vl lo)(pu:mM vu hi)
  (hw:HT.cu items.size 0 lo=0/\HT.cu items.size items.size hi=items.size) (h:Q (.ref t) s):ρ (model prog w) A (getItem (.ref t) (.ref sl)) Q E s:=by
 obtain⟨os,hos,hcs,hds⟩:=id hs;have hTs:s.TypeIs (.ref sl) "slice":=⟨os,hos,hcs⟩;unfold getItem
 try with_reducible refine bK ?_
 first|refine δ (μ ?_)|skip
 refine δ (wpAny_sequenceKey ht.typeIs (by decide) ?_);refine δ (cm (name:=fk "__getitem__") ht.typeIs cV
  (bU cV ht.typeIs entry_tuple_getitem ?_ (args_tuple_getitem _ _)))
 show ρ _ _ (oU (.ref t) >>= _) _ _ s;refine δ (tupleItemsOf_ ht ?_);refine δ (j6 hTs ?_);rw[if_pos (by decide)];refine δ (HT.pY hs pl pu ?_);have hyes:(((HT.cu items.size 0 lo:Nat):Int)==0&&(1:Int)==1&&(HT.cu items.size items.size hi-HT.cu items.size 0 lo)==items.size)=true:=by
  rw[hw.1,hw.2];simp
 show ρ _ _ (if (((HT.cu items.size 0 lo:Nat):Int)==0&&(1:Int)==1&&(HT.cu items.size items.size hi-HT.cu items.size 0 lo)==items.size)=true then _ else _) _ _ s;rw[if_pos hyes];unfold di.Tuple.tupleIsExact;refine δ (δ (j6 ht.typeIs (μ ?_)));rw[if_pos (by decide)];exact δ (mB (μ ⟨_,rfl,μ h⟩))
def Nr(K:η):V->Option Int->Option Int->Hp->VK->Prop:=fun x lo hi H Q=>∃a xs,x=.ref a/\cL K H a xs ∧
 (HT.cu xs.length 0 lo=0/\HT.cu xs.length xs.length hi=xs.length)/\Q (.ref a) H
theorem HD:yk X (Nr X.K):=by
 intro pins s σ H x v vl vu lo hi sl Q I rx hs pl pu h;obtain⟨a,xs,rfl,hx,hw,q⟩:=h;cases rx;obtain⟨its,r,ht,hz⟩:=I.tuple hx;have hlen:its.toArray.size=xs.length:=by rw[ψ];exact r.length.symm
 refine⟨"tuple",_,cV.lookup,ht.typeIs,?_⟩;exact UW ht hs pl pu (by rw[hlen];exact hw) ⟨.ref a,H,I,rfl,q⟩
theorem aaV{lo hi:Option υ}{tl th:yj}{p2:aN}(ha:bN X a ta)(hl:Dw X lo tl)(hh:Dw X hi th):bN X (.Subscript a (.Slice lo hi none p2) pos) (Ds ta tl th):=
 jJ (Wi (Ib.or (HD.or Wc)) ha hl hh) fun σ H Q ⟨τ,G,Q3,RS,RG,h,k⟩=>by
  refine⟨τ,G,_,RS,RG,h,fun v1 H1 d1 G1 h1 S1 R1 q1=>?_⟩;have RS1:=RS.ext (S1.ext RG);refine⟨τ,G1,_,RS1,R1,q1,fun l H2 G2 S2 R2 q2=>?_⟩;have RS2:=RS1.ext (S2.ext R1);refine⟨τ,G2,_,RS2,R2,q2,fun u H3 G3 S3 R3 q3=>?_⟩;have S13:Step H G H3 G3:=(S1.trans S2).trans S3;have hv:=(h1.ext (S2.ext R1)).ext (S3.ext R2);cases d1 with
  |tup ds=>
   obtain⟨a',vs,rfl,e1,e2⟩:=lJ hv;by_cases hw:HT.cu vs.length 0 l=0/\HT.cu vs.length vs.length u=vs.length
   ·refine .inr (.inl ⟨a',vs,rfl,e1,hw,k _ H3 (.tup (mq ds l u)) G3 (sO e1 ?_) S13 R3 q3⟩);have:mq ds l u=ds:=by
     unfold mq;rw[e2.length,hw.1,hw.2];simp[←e2.length]
    rw[this];exact e2
   ·refine .inl ⟨a',vs,rfl,e1,hw,fun p hp=>?_⟩;exact k _ _ (.tup (mq ds l u)) G3 (sO (.of g6) ((Fu e2 l u).ext (.laid hp))) (S13.trans (.laid hp)) (R3.laid hp) q3
  |fy ds=>
   obtain⟨a',vs,rfl,e1,e2⟩:=uA hv;refine .inr (.inr ⟨a',vs,rfl,e1.l,fun p hp=>?_⟩);exact k _ _ (.obj p) _ rp (S13.trans (.hX hp)) (R3.wx hp (Fu e2 l u)) (q3 p _ (.mk' (R3.free hp)))
  |obj a'=>
   rw[iH hv];obtain⟨ds,e0,q3⟩:=q3;obtain⟨vs,e1,e2⟩:=R3 a' _ e0;refine .inr (.inr ⟨a',vs,rfl,.of e1,fun p hp=>?_⟩);exact k _ _ (.obj p) _ rp (S13.trans (.hX hp)) (R3.wx hp (Fu e2 l u)) (q3 p _ (.mk' (R3.free hp)))
  |_=>exact q3.elim
end
end L3
namespace L3
open PySem PySem.Spec PyProof.Rows L2
abbrev C3:=List D->Gp->V3->Prop
def eN(r:C3)(t:dB):aQ:=fun τ G Q=>t τ G fun ds G1=>r ds G1 Q
def uR(K:η)(r:C3)(r2:List V->Hp->VK->Prop):Prop:=∀ds vs G H Q3 Q,aR K H ds vs->aV K G H->r ds G Q3->(∀v H' d G',Hv K H' d v->Step H G H' G'->aV K G' H'->Q3 d G'->Q v H')->r2 vs H Q
section
variable {X:Cx} {K:η} {e:υ} {es:List υ} {t:dB} {ta:aQ} {pos p:aN}
theorem UU{r:C3}{r2:List V->Hp->VK->Prop}(L:uR K r r2){σ:L2.St}{H:Hp}{Q:VK}(h:low K (eN r t) σ H Q):C2 r2 (wA K t) σ H Q:=by
 obtain⟨τ,G,Q3,RS,RG,h,k⟩:=h;refine⟨τ,G,_,RS,RG,h,fun vs H1 ds G1 h1 S1 R1 q1=>?_⟩;exact L _ _ _ _ _ _ h1 R1 q1 fun v H' d G' z1 z2 z3 z4=>k v H' d G' z1 (S1.trans z2) z3 z4
theorem wH{r:C3}{r2:List V->Hp->VK->Prop}(L:uR X.K r r2)(h:PE X e (C2 r2 (wA X.K t))):bN X e (eN r t):=jJ h fun _ _ _ h=>UU L h
theorem uG{H:Hp}{d:D}{vs:List V}(h:aR K H [d] vs):∃v,vs=[v]/\Hv K H d v:=by
 obtain⟨v,r,rfl,z1,z2⟩:=h.inv;cases z2.i5;exact⟨v,rfl,z1⟩
theorem aaQ{H:Hp}{d d':D}{vs:List V}(h:aR K H [d,d'] vs):∃v v',vs=[v,v']/\Hv K H d v/\Hv K H d' v':=by
 obtain⟨v,r,rfl,z1,z2⟩:=h.inv;obtain⟨v',rfl,z3⟩:=uG z2;exact⟨v,v',rfl,z1,z3⟩
def mU:C3:=fun ds G Q=>match ds with
 |[.obj a]=>∃xs,G a=some (.lst xs)/\Q (.int xs.length) G
 |[.tup xs]=>Q (.int xs.length) G
 |[.fy xs]=>Q (.int xs.length) G
 |_=>False
theorem UT:uR K mU (fun xs H Q=>∃p ys,xs=[.ref p]/\(fg K H p ys∨cL K H p ys)/\Q (.int ys.length) H):=fun ds vs G H Q3 Q h RG q k=>by
 rcases ds with _|⟨d,_|⟨d2,ds⟩⟩
 ·exact q.elim
 ·obtain⟨v,rfl,hv⟩:=uG h;cases d with
  |obj a=>
   obtain⟨xs,e,q⟩:=q;obtain⟨us,e1,e2⟩:=RG a _ e;rw[iH hv];exact⟨a,us,rfl,.inl (.of e1),by rw[←e2.length];exact k _ H _ G nW (.refl H G) RG q⟩
  |tup xs=>
   obtain⟨a,us,rfl,e1,e2⟩:=lJ hv;exact⟨a,us,rfl,.inr e1,by rw[←e2.length];exact k _ H _ G nW (.refl H G) RG q⟩
  |fy xs=>
   obtain⟨a,us,rfl,e1,e2⟩:=uA hv;exact⟨a,us,rfl,.inl e1.l,by rw[←e2.length];exact k _ H _ G nW (.refl H G) RG q⟩
  |_=>exact q.elim
 ·cases d<;>exact q.elim
theorem US(hu:X.A.units+64<cLine)(hm:X.mg "len" = none)(ha:kG X (e::es) t)(hg:Gl X "len":=by rfl)(he:notStar e=true:=by rfl)(hpl:es.all notStar=true:=by rfl):
  bN X (.Call (.Name "len" p) (e::es) [] pos) (eN mU t):=wH UT (sI Wb hg hm PySem.boot_len ha (he:=fP he) (hpl:=mi hpl))
def A6:C3:=fun ds G Q=>match ds with
 |[.bl b]=>Q (.int (if b then 1 else 0)) G
 |[.int i]=>Q (.int i) G
 |_=>False
theorem UR:uR K A6 (fun xs H Q=>(∃i,xs=[.int i]/\Q (.int i) H)∨∃k,xs=[.bl k]/\Q (.int (if k then 1 else 0)) H):=fun ds vs G H Q3 Q h RG q k=>by
 rcases ds with _|⟨d,_|⟨d2,ds⟩⟩
 ·exact q.elim
 ·obtain⟨v,rfl,hv⟩:=uG h;cases d with
  |bl b=>
   rw[wm hv];exact .inr ⟨b,rfl,k _ H _ G nW (.refl H G) RG q⟩
  |int b=>
   rw[kE hv];exact .inl ⟨b,rfl,k _ H _ G nW (.refl H G) RG q⟩
  |_=>exact q.elim
 ·cases d<;>exact q.elim
theorem UQ(hu:X.A.units+64<cLine)(hm:X.mg "int" = none)(ha:kG X (e::es) t)(hg:Gl X "int":=by rfl)(he:notStar e=true:=by rfl)(hpl:es.all notStar=true:=by rfl):
  bN X (.Call (.Name "int" p) (e::es) [] pos) (eN A6 t):=wH UR (Fj WC hg hm rfl ha (he:=fP he) (hpl:=mi hpl))
def xE:C3:=fun ds G Q=>match ds with
 |[.int i,.int j]=>Q (.int (if j > i then j else i)) G
 |_=>False
def Ft:C3:=fun ds G Q=>match ds with
 |[.int i,.int j]=>Q (.int (if j<i then j else i)) G
 |_=>False
theorem Lv{f:Int->Int->Int}:uR K (fun ds G Q=>match ds with
 |[.int i,.int j]=>Q (.int (f i j)) G
 | _=>False) (fun xs H Q=>∃i j,xs=[.int i,.int j]/\Q (.int (f i j)) H):=fun ds vs G H Q3 Q h RG q k=>by
 rcases ds with _|⟨d,_|⟨d2,_|⟨d3,ds⟩⟩⟩
 ·exact q.elim
 ·cases d<;>exact q.elim
 ·obtain⟨v,v',rfl,h1,h2⟩:=aaQ h;cases d with
  |int i=>
   cases d2 with
   |int j=>
    rw[kE h1,kE h2];exact⟨i,j,rfl,k _ H _ G nW (.refl H G) RG q⟩
   |_=>exact q.elim
  |_=>exact q.elim
 ·cases d with
  |int i=>cases d2<;>exact q.elim
  |_=>exact q.elim
theorem UP(hu:X.A.units+64<cLine)(hm:X.mg "max" = none)(ha:kG X (e::es) t)(hc:X.calm=true:=by rfl)(hg:Gl X "max":=by rfl)(he:notStar e=true:=by rfl)(hpl:es.all notStar=true:=by rfl):
  bN X (.Call (.Name "max" p) (e::es) [] pos) (eN xE t):=wH (Lv (f:=fun i j=>if j > i then j else i)) (sI (WE hc) hg hm rfl ha (he:=fP he) (hpl:=mi hpl))
theorem UO(hu:X.A.units+64<cLine)(hm:X.mg "min" = none)(ha:kG X (e::es) t)(hc:X.calm=true:=by rfl)(hg:Gl X "min":=by rfl)(he:notStar e=true:=by rfl)(hpl:es.all notStar=true:=by rfl):
  bN X (.Call (.Name "min" p) (e::es) [] pos) (eN Ft t):=wH (Lv (f:=fun i j=>if j<i then j else i)) (sI (WD hc) hg hm rfl ha (he:=fP he) (hpl:=mi hpl))
def zi:C3:=fun ds G Q=>match ds with
 |[.obj a]=>∃xs,G a=some (.lst xs)/\Q (.tup xs) G
 |[.tup xs]=>Q (.tup xs) G
 |[.fy xs]=>Q (.tup xs) G
 |_=>False
theorem Vp:uR K zi (fun xs H Q=>∃p ys,xs=[.ref p]/\((fg K H p ys/\∀l,H l=none->Q (.ref l) (upd H l (.tup ys)))∨(cL K H p ys/\Q (.ref p) H))):=fun ds vs G H Q3 Q h RG q k=>by
 rcases ds with _|⟨d,_|⟨d2,ds⟩⟩
 ·exact q.elim
 ·obtain⟨v,rfl,hv⟩:=uG h;cases d with
  |obj a=>
   obtain⟨xs,e,q⟩:=q;obtain⟨us,e1,e2⟩:=RG a _ e;rw[iH hv];exact⟨a,us,rfl,.inl ⟨.of e1,fun l hl=>k _ _ (.tup xs) G (sO (.of g6) (e2.ext (.laid hl))) (.laid hl) (RG.laid hl) q⟩⟩
  |tup xs=>
   obtain⟨a,us,rfl,e1,e2⟩:=lJ hv;exact⟨a,us,rfl,.inr ⟨e1,k _ H _ G (sO e1 e2) (.refl H G) RG q⟩⟩
  |fy xs=>
   obtain⟨a,us,rfl,e1,e2⟩:=uA hv;exact⟨a,us,rfl,.inl ⟨e1.l,fun l hl=>k _ _ (.tup xs) G (sO (.of g6) (e2.ext (.laid hl))) (.laid hl) (RG.laid hl) q⟩⟩
  |_=>exact q.elim
 ·cases d<;>exact q.elim
theorem Vo(hu:X.A.units+64<cLine)(hm:X.mg "tuple" = none)(ha:kG X (e::es) t)(hg:Gl X "tuple":=by rfl)(he:notStar e=true:=by rfl)(hpl:es.all notStar=true:=by rfl):
  bN X (.Call (.Name "tuple" p) (e::es) [] pos) (eN zi t):=wH Vp (Fj Wa hg hm rfl ha (he:=fP he) (hpl:=mi hpl))
def eM(r:D->List D->Gp->V3->Prop)(to:aQ)(t:dB):aQ:=fun τ G Q=>to τ G fun x G1=>(∃a xs,x=.obj a/\G1 a=some (.lst xs))/\t τ G1 fun ds G2=>r x ds G2 Q
def wK(K:η)(r:D->List D->Gp->V3->Prop)(r2:V->List V->Hp->VK->Prop):Prop:=∀x vx ds vs G H Q3 Q,Hv K H x vx->aR K H ds vs->aV K G H->r x ds G Q3->(∀v H' d G',Hv K H' d v->Step H G H' G'->aV K G' H'->Q3 d G'->Q v H')->r2 vx vs H Q
theorem Vn{r:D->List D->Gp->V3->Prop}{r2:V->List V->Hp->VK->Prop}{to:aQ}(L:wK K r r2){σ:L2.St}{H:Hp}{Q:VK}(h:low K (eM r to t) σ H Q):Ia K "list" r2 (low K to) (wA K t) σ H Q:=by
 obtain⟨τ,G,Q3,RS,RG,h,k⟩:=h;refine⟨τ,G,_,RS,RG,h,fun v1 H1 d1 G1 h1 S1 R1 q1=>?_⟩;obtain⟨⟨a,xs,rfl,e1⟩,q1⟩:=q1;obtain⟨us,e2,e3⟩:=R1 a _ e1;refine⟨?_,τ,G1,_,RS.ext (S1.ext RG),R1,q1,fun vs H2 ds G2 h2 S2 R2 q2=>?_⟩
 ·rw[iH h1];exact .inl ⟨rfl,us,.of e2⟩
 ·exact L _ _ _ _ _ _ _ _ (h1.ext (S2.ext R1)) h2 R2 q2 fun v H' d G' z1 z2 z3 z4=>k v H' d G' z1 ((S1.trans S2).trans z2) z3 z4
def Lu:D->List D->Gp->V3->Prop:=fun x ds G Q=>match x,ds with
 |.obj a,[d]=>∃xs,G a=some (.lst xs)/\xs.length<aw/\Q .aB (du G a (.lst (xs++[d])))
 |_,_=>False
theorem Vm:wK K Lu Ah:=fun x vx ds vs G H Q3 Q hx hs RG q k=>by
 rcases ds with _|⟨d,_|⟨d2,ds⟩⟩
 ·cases x<;>exact q.elim
 ·cases x with
  |obj a=>
   obtain⟨xs,e1,hz,q⟩:=q;obtain⟨us,e2,e3⟩:=RG a _ e1;obtain⟨v,rfl,hv⟩:=uG hs;rw[iH hx];refine⟨a,us,v,rfl,rfl,e2,by rw[←e3.length];exact hz,?_⟩;exact k _ _ .aB _ (by simp[Hv]) (.wrote e1) (RG.C0 e2 (e3.append (.cons hv .nil))) q
  |_=>exact q.elim
 ·cases x<;>exact q.elim
theorem Vl{r:D->List D->Gp->V3->Prop}{r2:V->List V->Hp->VK->Prop}{to:aQ}(L:wK X.K r r2)(h:PE X e (Ia X.K "list" r2 (low X.K to) (wA X.K t))):bN X e (eM r to t):=jJ h fun _ _ _ z=>Vn L z
def Fs:D->List D->Gp->V3->Prop:=fun x ds G Q=>match x,ds with
 |.obj a,[.int i]=>∃xs k d,G a=some (.lst xs)/\(-(2^63)≤i/\i<2^63)/\seqIndex? i xs.length=some k/\xs[k]?=some d/\Q d (du G a (.lst (xs.eraseIdx k)))
 |_,_=>False
theorem Ls:wK K Fs Df:=fun x vx ds vs G H Q3 Q hx hs RG q k=>by
 rcases ds with _|⟨d,_|⟨d2,ds⟩⟩
 ·cases x<;>exact q.elim
 ·cases x with
  |obj a=>
   cases d with
   |int i=>
    obtain⟨xs,j,y,e1,hb,hk,hy,q⟩:=q;obtain⟨us,e2,e3⟩:=RG a _ e1;obtain⟨v,rfl,hv⟩:=uG hs;obtain⟨w,e4,e5⟩:=e3.get hy;rw[iH hx,kE hv];refine⟨a,us,i,j,w,rfl,rfl,e2,hb.1,hb.2,by rw[←e3.length];exact hk,e4,?_⟩;exact k _ _ y _ (e5.ext (.wrote e2)) (.wrote e1) (RG.C0 e2 (e3.erase j)) q
   |_=>exact q.elim
  |_=>exact q.elim
 ·cases x with
  |obj a=>cases d<;>exact q.elim
  |_=>exact q.elim
def qN(T:String)(G:Gp):D->Option Bool
 |.aB=>some false
 |.bl _=>some (T=="bool" || T=="int")
 |.int _=>some (T=="int")
 |.str _=>some (T=="str")
 |.tup _=>some (T=="tuple")
 |.fy _=>some (T=="list")
 |.dc _=>some (T=="dict")
 |.obj a=>match G a with
  |some (.lst _)=>some (T=="list")
  |some .mW=>some (T=="list")
  |some .ji=>some (T=="dict")
  |some (.gen _)=>none
  |none=>none
def yv(T:String)(ta:aQ):aQ:=fun τ G Q=>ta τ G fun x G1=>match qN T G1 x with
 |some b=>Q (.bl b) G1
 |none=>False
end
end L3
namespace M9
open PySem PySem.W PyProof.Rows
structure Ord(n:Nat)(lt:Nat->Nat->Bool):Prop where
 An:∀a b,a<n->b<n->lt a b=true->lt b a=false
 vL:∀a b c,a<n->b<n->c<n->lt b a=false->lt c b=false->lt c a=false
abbrev g(p:Array Nat)(i:Nat):Nat:=p.getD i 0
structure Va(n:Nat)(p:Array Nat):Prop where
 perm:p.toList.Perm (ar n)
section
variable {n:Nat} {lt:Nat->Nat->Bool} {cmp:Nat->Nat->(Bool->θ->Prop)->θ->Prop} {s:θ}
theorem Va.size{p:Array Nat}(v:Va n p):p.size=n:=by
 have:=v.perm.length_eq;simpa using this
theorem Va.get{p:Array Nat}(v:Va n p){i:Nat}(hi:i<n):p[i]?=some (g p i):=by
 have h:=v.size;simp[g,mR,h,hi]
theorem Va.inr{p:Array Nat}(v:Va n p){i:Nat}(hi:i<n):g p i<n:=by
 have h:=v.get hi;have hm:g p i∈p.toList:=bF (by rw[aZ];exact h);have:=v.perm.mem_iff.mp hm;simpa using this
theorem Ord.refl(O:Ord n lt){a:Nat}(ha:a<n):lt a a=false:=by
 cases h:lt a a with
 |false=>rfl
 |true=>
  have:=O.An a a ha ha h;rw[h] at this;exact this
def So(lt:Nat->Nat->Bool)(p:Array Nat)(k:Nat):Prop:=∀i j,i≤j->j<k->lt (g p j) (g p i)=false
def Ni(lt:Nat->Nat->Bool)(p:Array Nat)(k:Nat):Prop:=∀i j,i≤j->j<k->lt (g p i) (g p j)=false
def DA(lt:Nat->Nat->Bool)(p:Array Nat)(lo hi:Nat):Prop:=∀i j,lo≤i->i<hi->lo≤j->j<hi->lt (g p i) (g p j)=false
theorem So.one(O:Ord n lt){p:Array Nat}(v:Va n p)(hn:1≤n):So lt p 1:=fun i j h1 h2=>by
 have e1:i=0:=by lia
 have e2:j=0:=by lia
 rw[e1,e2];exact O.refl (v.inr (by lia))
theorem So.next(O:Ord n lt){p:Array Nat}(v:Va n p){a:Nat}(h1:1≤a)(ha:a<n)(S:So lt p a)(h:lt (g p a) (g p (a-1))=false):So lt p (a+1):=fun i j hij hj=>by
 by_cases hja:j<a
 ·exact S i j hij hja
 ·have e:j=a:=by lia
  subst e;by_cases hij':i=j
  ·rw[hij'];exact O.refl (v.inr ha)
  ·exact O.vL (g p i) (g p (j-1)) (g p j) (v.inr (by lia)) (v.inr (by lia)) (v.inr ha) (S i (j-1) (by lia) (by lia)) h
theorem Ni.next(O:Ord n lt){p:Array Nat}(v:Va n p){a:Nat}(h1:1≤a)(ha:a<n)(S:Ni lt p a)(h:lt (g p (a-1)) (g p a)=false):Ni lt p (a+1):=fun i j hij hj=>by
 by_cases hja:j<a
 ·exact S i j hij hja
 ·have e:j=a:=by lia
  subst e;by_cases hij':i=j
  ·rw[hij'];exact O.refl (v.inr ha)
  ·exact O.vL (g p j) (g p (j-1)) (g p i) (v.inr ha) (v.inr (by lia)) (v.inr (by lia)) h (S i (j-1) (by lia) (by lia))
theorem wj{p:Array Nat}(v:Va n p)(i j:Nat):Va n (kas_rev p i j):=⟨(mirror_perm p i j _).toList.trans v.perm⟩
theorem A5{p:Array Nat}(v:Va n p){lo hi k:Nat}(hh:hi≤n)(hk:k<n):g (kas_rev p lo hi) k=if lo≤k/\k<hi then g p (lo+hi-1-k) else g p k:=by
 have h1:=getElem?_mirror_all (xs:=p) (i:=lo) (j:=hi) (by rw[v.size];exact hh) k;have h2:=(wj v lo hi).get hk;have h3:(kas_rev p lo hi)[k]?=_:=h1;rw[h2] at h3;by_cases hc:lo≤k/\k<hi
 ·rw[if_pos hc] at h3 ⊢;rw[v.get (by lia)] at h3;exact aO h3
 ·rw[if_neg hc] at h3 ⊢;rw[v.get hk] at h3;exact aO h3
theorem Fq{p:Array Nat}(v:Va n p){lo hi k:Nat}(hh:hi≤k)(hk:k≤n)(S:Ni lt p k)(e:DA lt p lo hi):Ni lt (kas_rev p lo hi) k:=fun i j hij hj=>by
 rw[A5 v (by lia) (show i<n by lia),A5 v (by lia) (show j<n by lia)];by_cases hi':lo≤i/\i<hi
 ·rw[if_pos hi'];by_cases hj':lo≤j/\j<hi
  ·rw[if_pos hj'];exact e _ _ (by lia) (by lia) (by lia) (by lia)
  ·rw[if_neg hj'];exact S _ _ (by lia) hj
 ·rw[if_neg hi'];by_cases hj':lo≤j/\j<hi
  ·rw[if_pos hj'];exact S _ _ (by lia) (by lia)
  ·rw[if_neg hj'];exact S _ _ hij hj
theorem Vk{p:Array Nat}(v:Va n p){k:Nat}(hk:k≤n)(S:Ni lt p k):So lt (kas_rev p 0 k) k:=fun i j hij hj=>by
 rw[A5 v hk (show i<n by lia),A5 v hk (show j<n by lia),if_pos (by lia),if_pos (by lia)];exact S _ _ (by lia) (by lia)
variable (O:Ord n lt) (hc:∀i j,i<n->j<n->∀(C:Bool->θ->Prop) (s:θ),C (lt i j) s->cmp i j C s)
include O hc
theorem Fp{p:Array Nat}(v:Va n p){G:Nat->θ->Prop}:∀(f a:Nat),1≤a->a+f≤n->So lt p a->(∀m,a≤m->m≤a+f->So lt p m->(m=a+f∨lt (g p m) (g p (m-1))=true)->G m s)->(kas_asc p f a).kasWp cmp G s
 |0,a,_,_,S,h=>h a (Φ _) (by lia) S (.inl (by lia))
 |f+1,a,h1,h2,S,h=>by
  show cmp _ _ _ s;refine hc _ _ (v.inr (by lia)) (v.inr (by lia)) _ s ?_;cases hb:lt (g p a) (g p (a-1)) with
  |true=>
   ((try dsimp only);rw[if_pos rfl])
   exact h a (Φ _) (by lia) S (.inr hb)
  |false=>
   ((try dsimp only);rw[if_neg ay])
   exact Fp v f (a+1) (by lia) (by lia) (S.next O v h1 (by lia) hb) fun m q1 q2 q3 q4=>h m (by lia) (by lia) q3 (by
    rcases q4 with q4|q4
    ·exact .inl (by lia)
    ·exact .inr q4)
theorem A4{G:Array Nat×Nat×Nat->θ->Prop}:∀(f:Nat) (p:Array Nat) (a q:Nat),Va n p->q+1≤a->a+f≤n->Ni lt p a->DA lt p (a-(q+1)) a ->
  (∀p' m q',Va n p'->a≤m->m≤a+f->q'+1≤m->Ni lt p' m->DA lt p' (m-(q'+1)) m->G (p',m,q') s)->(kas_desc f p a q).kasWp cmp G s
 |0,p,a,q,v,h1,h2,S,e,h=>h p a q v (Φ _) (by lia) h1 S e
 |f+1,p,a,q,v,h1,h2,S,e,h=>by
  show cmp _ _ _ s;refine hc _ _ (v.inr (by lia)) (v.inr (by lia)) _ s ?_;have one:∀{p':Array Nat},Va n p'->DA lt p' (a+1-(0+1)) (a+1):=fun {p'} v' i j i1 i2 j1 j2=>by
   have e1:i=a:=by lia
   have e2:j=a:=by lia
   rw[e1,e2];exact O.refl (v'.inr (by lia))
  cases hb:lt (g p a) (g p (a-1)) with
  |true=>
   ((try dsimp only);rw[if_pos rfl])
   have S':=S.next O v (by lia) (by lia) (O.An _ _ (v.inr (by lia)) (v.inr (by lia)) hb)
   by_cases hq:q > 0
   ·rw[if_pos hq];exact A4 f _ (a+1) 0 (wj v _ _) (by lia) (by lia) (Fq v (by lia) (by lia) S' e) (one (wj v _ _)) fun p' m q' r1 r2 r3 r4 r5 r6=>h p' m q' r1 (by lia) (by lia) r4 r5 r6
   ·rw[if_neg hq];exact A4 f _ (a+1) 0 v (by lia) (by lia) S' (one v) fun p' m q' r1 r2 r3 r4 r5 r6=>h p' m q' r1 (by lia) (by lia) r4 r5 r6
  |false=>
   ((try dsimp only);rw[if_neg ay])
   show cmp _ _ _ s;refine hc _ _ (v.inr (by lia)) (v.inr (by lia)) _ s ?_;cases hd:lt (g p (a-1)) (g p a) with
   |true=>
    ((try dsimp only);rw[if_pos rfl])
    exact h p a q v (Φ _) (by lia) h1 S e
   |false=>
    ((try dsimp only);rw[if_neg ay])
    refine A4 f _ (a+1) (q+1) v (by lia) (by lia) (S.next O v (by lia) (by lia) hd) (fun i j i1 i2 j1 j2=>?_) fun p' m q' r1 r2 r3 r4 r5 r6=>h p' m q' r1 (by lia) (by lia) r4 r5 r6
    have L:∀k,k<n->g p k<n:=fun k hk=>v.inr hk;by_cases hi:i=a
    ·by_cases hj:j=a
     ·rw[hi,hj];exact O.refl (L _ (by lia))
     ·rw[hi];exact O.vL (g p j) (g p (a-1)) (g p a) (L _ (by lia)) (L _ (by lia)) (L _ (by lia)) (e (a-1) j (by lia) (by lia) (by lia) (by lia)) hb
    ·by_cases hj:j=a
     ·rw[hj];exact O.vL (g p a) (g p (a-1)) (g p i) (L _ (by lia)) (L _ (by lia)) (L _ (by lia)) hd (e i (a-1) (by lia) (by lia) (by lia) (by lia))
     ·exact e i j (by lia) (by lia) (by lia) (by lia)
theorem Lr{p:Array Nat}(v:Va n p){a:Nat}{G:Nat×Array Nat->θ->Prop}(h1:1≤a)(h2:a≤n)(S:Ni lt p a)(h:∀m p',Va n p'->1≤m->m≤n->So lt p' m->G (m,p') s):(kas_tail3 a n p).kasWp cmp G s:=by
 unfold kas_tail3;rw[jQ];exact Fp O hc (wj v 0 a) (n-a) a h1 (by lia) (Vk v h2 S) fun m q1 q2 q3 _=>h m _ (wj v 0 a) (by lia) (by lia) q3
theorem Lq{p:Array Nat}(v:Va n p){a:Nat}{G:Nat×Array Nat->θ->Prop}(h1:1≤a)(h2:a+1≤n)(S:Ni lt p (a+1))(h:∀m p',Va n p'->1≤m->m≤n->So lt p' m->G (m,p') s):(kas_descPart a n p).kasWp cmp G s:=by
 unfold kas_descPart;rw[jQ];refine A4 O hc (n-(a+1)) p (a+1) 0 v (by lia) (by lia) S (fun i j i1 i2 j1 j2=>?_) fun p' m q' r1 r2 r3 r4 r5 r6=>?_
 ·have e1:i=a:=by lia
  have e2:j=a:=by lia
  rw[e1,e2];exact O.refl (v.inr (by lia))
 ·dsimp only;by_cases hq:q' > 0
  ·rw[if_pos hq];exact Lr O hc (wj r1 _ _) (by lia) (by lia) (Fq r1 (Φ _) (by lia) r5 r6) h
  ·rw[if_neg hq];exact Lr O hc r1 (by lia) (by lia) r5 h
theorem Vj{p:Array Nat}(v:Va n p){G:Nat×Array Nat->θ->Prop}(hn:1≤n)(h:∀m p',Va n p'->1≤m->m≤n->So lt p' m->G (m,p') s):(kas_count n p).kasWp cmp G s:=by
 unfold kas_count;rw[jQ];refine Fp O hc v (n-1) 1 (Φ _) (by lia) (So.one O v hn) fun a q1 q2 q3 q4=>?_;have L:∀k,k<n->g p k<n:=fun k hk=>v.inr hk;by_cases e1:(a==n)=true
 ·rw[if_pos e1];exact h a p v q1 (by lia) q3
 ·rw[if_neg e1];have cK:a≠n:=fun z=>e1 (by rw[z];exact beq_self_eq_true _);have hlt:lt (g p a) (g p (a-1))=true:=by
   rcases q4 with q4|q4
   ·lia
   ·exact q4
  have hle:=O.An _ _ (L a (by lia)) (L (a-1) (by lia)) hlt;by_cases e2:a > 1
  ·rw[if_pos e2];show cmp _ _ _ s;refine hc _ _ (v.inr (by lia)) (v.inr (by lia)) _ s ?_;cases hb:lt (g p 0) (g p (a-1)) with
   |true=>
    ((try dsimp only);rw[if_pos rfl])
    exact h a p v q1 (by lia) q3
   |false=>
    ((try dsimp only);rw[if_neg ay])
    -- all of the run are alike
    have eqv:DA lt p 0 a:=fun i j i1 i2 j1 j2=>by
     have h1:lt (g p i) (g p 0)=false:=q3 0 i (by lia) i2;have h2:lt (g p (a-1)) (g p j)=false:=q3 j (a-1) (by lia) (by lia);have h3:lt (g p 0) (g p j)=false:=O.vL _ _ _ (L j (by lia)) (L (a-1) (by lia)) (L 0 (by lia)) h2 hb;have h4:lt (g p (a-1)) (g p i)=false:=q3 i (a-1) (by lia) (by lia);exact O.vL _ _ _ (L j (by lia)) (L 0 (by lia)) (L i (by lia)) h3 h1
    have ni:Ni lt p (a+1):=Ni.next O v (by lia) (by lia) (fun i j hij hj=>eqv i j (by lia) (by lia) (by lia) hj) hle
    exact Lq O hc (wj v _ _) (by lia) (by lia) (Fq v (by lia) (by lia) ni eqv) h
  ·rw[if_neg e2];have ea:a=1:=by lia
   subst ea;refine Lq O hc v (Φ _) (by lia) (Ni.next O v (by lia) (by lia) (fun i j hij hj=>?_) hle) h
   have e3:i=0:=by lia
   have e4:j=0:=by lia
   rw[e3,e4];exact O.refl (L 0 (by lia))
theorem Fo{p:Array Nat}(v:Va n p){k:Nat}(hk:k<n)(S:So lt p k){G:Nat->θ->Prop}:∀(f l r:Nat),l≤r->r≤k->r-l≤f->(∀i,i<l->lt (g p k) (g p i)=false)->(∀i,r≤i->i<k->lt (g p k) (g p i)=true) ->
  (∀l,l≤k->(∀i,i<l->lt (g p k) (g p i)=false)->(∀i,l≤i->i<k->lt (g p k) (g p i)=true)->G l s)->(kas_place p k f l r).kasWp cmp G s
 |0,l,r,h1,h2,h3,h4,h5,h=>by
  have e:l=r:=by lia
  subst e;exact h l h2 h4 h5
 |f+1,l,r,h1,h2,h3,h4,h5,h=>by
  unfold kas_place;by_cases hlr:l≥r
  ·rw[if_pos hlr];have e:l=r:=by lia
   subst e;exact h l h2 h4 h5
  ·rw[if_neg hlr];show cmp _ _ _ s;refine hc _ _ (v.inr hk) (v.inr (by lia)) _ s ?_;have L:∀k,k<n->g p k<n:=fun k hk=>v.inr hk;cases hb:lt (g p k) (g p ((l+r) / 2)) with
   |true=>
    ((try dsimp only);rw[if_pos rfl])
    refine Fo v hk S f l ((l+r) / 2) (by lia) (by lia) (by lia) h4 (fun i i1 i2=>?_) h;by_cases hri:r≤i
    ·exact h5 i hri i2
    ·cases hx:lt (g p k) (g p i) with
     |true=>rfl
     |false=>
      have h6:lt (g p i) (g p ((l+r) / 2))=false:=S _ _ i1 i2;have:=O.vL _ _ _ (L ((l+r) / 2) (by lia)) (L i (by lia)) (L k hk) h6 hx;rw[hb] at this;exact this.symm
   |false=>
    ((try dsimp only);rw[if_neg ay])
    refine Fo v hk S f ((l+r) / 2+1) r (by lia) h2 (by lia) (fun i hi=>?_) h5 h;exact O.vL _ _ _ (L i (by lia)) (L ((l+r) / 2) (by lia)) (L k hk) (S i ((l+r) / 2) (by lia) (by lia)) hb
theorem Lp{G:Array Nat->θ->Prop}:∀(f:Nat) (p:Array Nat) (k:Nat),Va n p->k+f=n->So lt p k->(∀p',Va n p'->So lt p' n->G p' s)->(kas_bin f p k).kasWp cmp G s
 | 0,p,k,v,hk,S,h=>h p v (by
  have e:k=n:=by lia
  rw[←e];exact S)
 |f+1,p,k,v,hk,S,h=>by
  show ((kas_place p k k 0 k).bind fun l=>kas_bin f (bubble p k (k-l)) (k+1)).kasWp cmp G s;rw[jQ];refine Fo O hc v (by lia) S k 0 k (by lia) (Φ _) (by lia) (fun i hi=>by lia) (fun i i1 i2=>by lia) fun l hl q1 q2=>?_;have v':Va n (bubble p k (k-l)):=⟨(bubble_perm p k (k-l)).toList.trans v.perm⟩;have L:∀k,k<n->g p k<n:=fun k hk=>v.inr hk;have bg:∀i,i<n->g (bubble p k (k-l)) i=if i=l then g p k else if l<i/\i≤k then g p (i-1) else g p i:=fun i hi=>by
   have h1:=getElem?_bubble (xs:=p) (src:=k) (by rw[v.size];lia) (k-l) (by lia) i;rw[v'.get hi,show k-(k-l)=l by lia] at h1;by_cases c1:i=l
   ·rw[if_pos c1] at h1 ⊢;rw[v.get (by lia)] at h1;exact aO h1
   ·rw[if_neg c1] at h1 ⊢;by_cases c2:l<i/\i≤k
    ·rw[if_pos c2] at h1 ⊢;rw[v.get (by lia)] at h1;exact aO h1
    ·rw[if_neg c2] at h1 ⊢;rw[v.get hi] at h1;exact aO h1
  refine Lp f _ (k+1) v' (by lia) (fun i j hij hj=>?_) h;rw[bg i (by lia),bg j (by lia)];by_cases ci:i=l
  ·rw[if_pos ci];by_cases cj:j=l
   ·rw[if_pos cj];exact O.refl (L k (by lia))
   ·rw[if_neg cj,if_pos (by lia)];exact O.An _ _ (L k (by lia)) (L _ (by lia)) (q2 (j-1) (by lia) (by lia))
  ·rw[if_neg ci];by_cases cj:j=l
   ·rw[if_pos cj,if_neg (by lia)];exact q1 i (by lia)
   ·rw[if_neg cj];by_cases c3:l<i/\i≤k
    ·rw[if_pos c3,if_pos (by lia)];exact S (i-1) (j-1) (by lia) (by lia)
    ·rw[if_neg c3];by_cases c4:l<j/\j≤k
     ·rw[if_pos c4];exact S i (j-1) (by lia) (by lia)
     ·rw[if_neg c4];exact S i j hij (by lia)
theorem Vi{G:Array Nat->θ->Prop}(hn:1≤n)(h:∀p,Va n p->So lt p n->G p s):(kas_sort n).kasWp cmp G s:=by
 unfold kas_sort;rw[jQ];have v0:Va n (kg (ar n)):=⟨by simp⟩;refine Vj O hc v0 hn fun m p' v m1 m2 S=>?_;dsimp only;by_cases hm:m<n
 ·rw[if_pos hm];have e:max m 1=m:=by lia
  rw[e];exact Lp O hc (n-m) p' m v (by lia) S h
 ·rw[if_neg hm];have e:m=n:=by lia
  subst e;exact h p' v S
end
end M9
namespace qi
open PySem PySem.SetTable
def kr(m:Nat):Prop:=m=7∨m=31∨m=127
def uN(m:Nat)(p:Probe):Probe:=
 if p.more > 0 then { p with j:=p.j+1,more:=p.more-1 } else
 { p with j:=(leap m p.i p.perturb).1,more:=runEnd m (leap m p.i p.perturb).1-(leap m p.i p.perturb).1,i:=(leap m p.i p.perturb).1,perturb:=(leap m p.i p.perturb).2 }
def rs(m:Nat)(q:Nat×Nat):Probe:={ j:=q.1,more:=runEnd m q.1-q.1,i:=q.1,perturb:=q.2,dummy:=none }
def sta(m:Nat)(h:Int):Probe:=rs m (bits h%(m+1),bits h)
def sq(m:Nat)(h:Int):Nat->Probe
 |0=>sta m h
 |k+1=>uN m (sq m h k)
def rn(m:Nat)(h:Int):Nat->Nat×Nat
 |0=>(bits h%(m+1),bits h)
 |r+1=>leap m (rn m h r).1 (rn m h r).2
theorem Lo(m:Nat)(h:Int):∀k,(sq m h k).dummy=none
 |0=>rfl
 |k+1=>by
  show (uN m (sq m h k)).dummy=none;have ih:=Lo m h k;unfold uN;split<;>simpa using ih
theorem Vh(m i:Nat):runEnd m i-i≤9:=by
 unfold runEnd;split<;>lia
theorem Fn(m:Nat)(h:Int)(n:Nat)(q:Nat×Nat)(e:sq m h n=rs m q):∀d,d≤runEnd m q.1-q.1->sq m h (n+d)={ j:=q.1+d,more:=runEnd m q.1-q.1-d,i:=q.1,perturb:=q.2,dummy:=none }
 |0,_=>by rw[Nat.add_zero,e];rfl
 |d+1,hd=>by
  have ih:=Fn m h n q e d (by lia);show uN m (sq m h (n+d))=_;rw[ih];unfold uN;rw[if_pos (show runEnd m q.1-q.1-d > 0 by lia)];simp only[Probe.mk.injEq,and_true,true_and];lia
theorem Ln(m:Nat)(h:Int)(n:Nat)(q:Nat×Nat)(e:sq m h n=rs m q):sq m h (n+(runEnd m q.1-q.1)+1)=rs m (leap m q.1 q.2):=by
 show uN m (sq m h (n+(runEnd m q.1-q.1)))=_;rw[Fn m h n q e _ (Φ _)];unfold uN;rw[if_neg (by simp)];rfl
theorem Lm(m:Nat)(h:Int):∀r,∃n,n≤10*r/\sq m h n=rs m (rn m h r)
 |0=>⟨0,by lia,rfl⟩
 |r+1=>by
  obtain⟨n,hn,e⟩:=Lm m h r;have:=Vh m (rn m h r).1;exact⟨n+(runEnd m (rn m h r).1-(rn m h r).1)+1,by lia,Ln m h n _ e⟩
theorem Vg(h:Int):bits h<2^64:=by
 unfold bits;have h1:h%(2^64:Int)<2^64:=cg _ (by decide);have h2:0≤h%(2^64:Int):=cC _ (by decide);lia
theorem Ll(m:Nat)(h:Int):∀r,(rn m h r).2=bits h / 32^r
 |0=>by simp[rn]
 |r+1=>by
  show (rn m h r).2 / 32=_;rw[Ll m h r,Nat.div_div_eq_div_mul,mF]
theorem UC(m:Nat)(h:Int)(r:Nat)(hr:13≤r):(rn m h r).2=0:=by
 rw[Ll];have h1:=Vg h;have h2:(32:Nat)^13≤32^r:=cH (by decide) hr;have h3:(2:Nat)^64<32^13:=by decide
 exact Nat.div_eq_of_lt (by lia)
def fl(m x:Nat):Nat:=(x*5+1)%(m+1)
def it(m:Nat):Nat->Nat->Nat
 |0,x=>x
 |n+1,x=>fl m (it m n x)
theorem zh(m:Nat)(a:Nat):∀b x,it m (b+a) x=it m b (it m a x)
 |0,x=>by rw[Nat.zero_add];rfl
 |b+1,x=>by
  rw[show b+1+a=(b+a)+1 by lia];show fl m (it m (b+a) x)=fl m (it m b (it m a x));rw[zh m a b x]
theorem Fm(m:Nat)(h:Int):∀n,(rn m h (13+n)).1=it m n (rn m h 13).1
 |0=>rfl
 |n+1=>by
  show ((rn m h (13+n)).1*5+1+(rn m h (13+n)).2 / 32)%(m+1)=fl m (it m n (rn m h 13).1);rw[UC m h (13+n) (by lia),Fm m h n];rfl
theorem EW(m:Nat)(h:Int):∀r,(rn m h r).1<m+1
 |0=>dO _ (qr _)
 |r+1=>dO _ (qr _)
def Dj(m:Nat):Nat->Nat->List Nat
 |0,_=>[]
 |n+1,x=>x::Dj m n (fl m x)
theorem A3(m:Nat):∀(n x y:Nat),y∈Dj m n x->∃k,k<n/\y=it m k x
 |0,_,_,h=>by cases h
 |n+1,x,y,h=>by
  rcases Ω.mp h with e|e
  ·exact⟨0,by lia,e⟩
  ·obtain⟨k,hk,e⟩:=A3 m n (fl m x) y e;refine⟨k+1,by lia,?_⟩;rw[zh m 1 k x];exact e
theorem aaC:((ar 8).all fun x=>(Dj 7 8 0).contains x)=true:=by decide +kernel
theorem Nu:((ar 32).all fun x=>(Dj 31 32 0).contains x)=true:=by decide +kernel
theorem Mv:((ar 128).all fun x=>(Dj 127 128 0).contains x)=true:=by decide +kernel
theorem NW:it 7 8 0=0:=by decide +kernel
theorem MW:it 31 32 0=0:=by decide +kernel
theorem HN:it 127 128 0=0:=by decide +kernel
theorem Gz{m:Nat}(hm:kr m){x:Nat}(hx:x<m+1):∃k,k<m+1/\x=it m k 0:=by
 rcases hm with rfl|rfl|rfl
 ·have:=lO.mp aaC x (bE.mpr hx);exact A3 7 8 0 x (by simpa using this)
 ·have:=lO.mp Nu x (bE.mpr hx);exact A3 31 32 0 x (by simpa using this)
 ·have:=lO.mp Mv x (bE.mpr hx);exact A3 127 128 0 x (by simpa using this)
theorem back{m:Nat}(hm:kr m):it m (m+1) 0=0:=by
 rcases hm with rfl|rfl|rfl
 ·exact NW
 ·exact MW
 ·exact HN
theorem Di{m:Nat}(hm:kr m){x y:Nat}(hx:x<m+1)(hy:y<m+1):∃n,n≤m/\it m n x=y:=by
 obtain⟨a,ha,ea⟩:=Gz hm hx;obtain⟨b,hb,eb⟩:=Gz hm hy;by_cases hab:a≤b
 ·refine⟨b-a,by lia,?_⟩;rw[ea,←zh,eb];congr 1;lia
 ·refine⟨m+1-a+b,by lia,?_⟩;rw[ea,←zh,eb,show m+1-a+b+a=b+(m+1) by lia,zh,back hm]
theorem comes{m:Nat}(hm:kr m)(h:Int){e:Nat}(he:e≤m):∃k,k≤10*m+130/\(sq m h k).j=e:=by
 obtain⟨n,hn,en⟩:=Di hm (EW m h 13) (show e<m+1 by lia);obtain⟨k,hk,ek⟩:=Lm m h (13+n);refine⟨k,by lia,?_⟩;rw[ek];show (rn m h (13+n)).1=e;rw[Fm,en]
theorem EV{xs:Array Nat}{j:Nat}(hr:xs.toList.Pairwise (· < ·)):∀(fuel lo hi:Nat),hi-lo≤fuel->lo≤hi->hi≤xs.size->(∀i x,i<lo->xs[i]?=some x->x<j)->(∀i x,hi≤i->xs[i]?=some x->j≤x) ->
  below.go xs j fuel lo hi≤xs.size/\(∀i x,i<below.go xs j fuel lo hi->xs[i]?=some x->x<j)/\(∀i x,below.go xs j fuel lo hi≤i->xs[i]?=some x->j≤x)
 |0,lo,hi,hf,hl,hs,h1,h2=>by
  have e:lo=hi:=by lia
  subst e;exact⟨hs,h1,h2⟩
 |fuel+1,lo,hi,hf,hl,hs,h1,h2=>by
  unfold below.go;by_cases hlt:lo<hi
  ·rw[if_pos hlt];dsimp only;have hmid:(lo+hi) / 2<xs.size:=by lia
   have hg:xs.getD ((lo+hi) / 2) j=xs[(lo+hi) / 2]:=by simp[mR,hmid]
   rw[hg];have pw:∀a b x y,a<b->xs[a]?=some x->xs[b]?=some y->x<y:=fun a b x y hab ea eb=>by
    have ha':a<xs.toList.length:=by
     have:=(aG.mp ea).1;simpa using this
    have hb':b<xs.toList.length:=by
     have:=(aG.mp eb).1;simpa using this
    have:=gE.mp hr a b ha' hb' hab;obtain⟨_,e1⟩:=aG.mp ea;obtain⟨_,e2⟩:=aG.mp eb;simpa [e1,e2] using this
   have em:xs[(lo+hi) / 2]?=some xs[(lo+hi) / 2]:=by simp[hmid]
   by_cases hc:xs[(lo+hi) / 2]<j
   ·rw[if_pos hc];refine EV hr fuel _ hi (by lia) (by lia) hs (fun i x hi' e=>?_) h2;by_cases hi2:i=(lo+hi) / 2
    ·subst hi2;rw[em] at e;cases e;exact hc
    ·exact mG (pw i _ x _ (by lia) e em) hc
   ·rw[if_neg hc];refine EV hr fuel lo _ (by lia) (by lia) (by lia) h1 (fun i x hi' e=>?_);by_cases hi2:i=(lo+hi) / 2
    ·subst hi2;rw[em] at e;cases e;lia
    ·have:=pw _ i _ x (by lia) em e;lia
  ·rw[if_neg hlt];have e:lo=hi:=by lia
   subst e;exact⟨hs,h1,h2⟩
theorem A2{xs:Array Nat}{j:Nat}(hr:xs.toList.Pairwise (· < ·)):below xs j≤xs.size/\(∀i x,i<below xs j->xs[i]?=some x->x<j)/\(∀i x,below xs j≤i->xs[i]?=some x->j≤x):=
 EV hr xs.size 0 xs.size (by lia) (by lia) (by lia) (fun i _ h=>by lia) fun i x h e=>by
  have:=(aG.mp e).1;lia
theorem below_at{xs:Array Nat}{j i:Nat}(hr:xs.toList.Pairwise (· < ·))(e:xs[i]?=some j):below xs j=i:=by
 obtain⟨h0,h1,h2⟩:=A2 (j:=j) hr;have hi:=(aG.mp e).1;by_cases hlt:i<below xs j
 ·exact absurd (h1 i j hlt e) (cE _)
 ·by_cases hgt:below xs j<i
  ·have hb:below xs j<xs.size:=by lia
   have eb:xs[below xs j]?=some xs[below xs j]:=by simp[hb]
   have q1:=h2 _ _ (Φ _) eb;have pw:=gE.mp hr (below xs j) i (by simpa using hb) (by simpa using hi) hgt;obtain⟨_,e1⟩:=aG.mp e;simp[e1] at pw;lia
  ·lia
end qi
namespace qi
open PySem PySem.SetTable
structure Tab(t:bC)(hs:List Int):Prop where
 mask:kr t.mask
 size:t.place.size=hs.length
 rise:t.place.toList.Pairwise (· < ·)
 bound:∀j∈t.place.toList,j≤t.mask
 pK:t.dummies = #[]
 room:hs.length*5<t.mask*3
 reach:∀j h,(j,h)∈t.place.toList.zip hs->∃k,(sq t.mask h k).j=j/\∀k',k' < k->(sq t.mask h k').j∈t.place.toList
theorem Lk{t:bC}{j i:Nat}(hr:t.place.toList.Pairwise (· < ·))(e:t.place[i]?=some j):t.slot j=.live i:=by
 unfold slot;dsimp only;rw[below_at hr e,e];simp
theorem UB{t:bC}{j:Nat}(hd:t.dummies = #[])(e:j∉t.place.toList):t.slot j=.empty:=by
 unfold slot;dsimp only;have h1:¬(t.place[below t.place j]?==some j)=true:=by
  intro h;have h':t.place[below t.place j]?=some j:=by simpa using h
  exact e (by
   rw[←aZ] at h';exact bF h')
 rw[if_neg h1];have h2:has t.dummies j=false:=by
  rw[hd];rfl
 rw[h2];rfl
theorem EU:∀(n:Nat) (L:List Nat),(∀e,e<n->e∈L)->n≤L.length
 |0,_,_=>aI _
 |n+1,L,h=>by
  have h1:=h n (lM n);have h2:=EU n (L.erase n) fun e he=>(List.mem_erase_of_ne (by lia)).mpr (h e (by lia));have h3:=List.length_erase_of_mem h1;have h4:=List.length_pos_of_mem h1;lia
theorem UA{t:bC}{hs:List Int}(T:Tab t hs)(h:Int):∃ke,ke≤10*t.mask+130/\(sq t.mask h ke).j∉t.place.toList/\∀k,k<ke->(sq t.mask h k).j∈t.place.toList:=by
 -- some slot is empty
 have hex:∃e,e≤t.mask/\e∉t.place.toList:=by
  refine aL fun hn=>?_;have hall:∀e,e≤t.mask->e∈t.place.toList:=fun e he=>aL fun q=>hn ⟨e,he,q⟩;have hl:=EU (t.mask+1) t.place.toList fun e he=>hall e (by lia);have e1:t.place.toList.length=t.place.size:=by simp
  have:=T.size;have:=T.room;lia
 obtain⟨e,he,ne⟩:=hex;obtain⟨k,hk,ek⟩:=comes T.mask h he;have hP:∃k,(sq t.mask h k).j∉t.place.toList:=⟨k,by rw[ek];exact ne⟩
 -- the least one
 have least:∀n,(∃k,k≤n/\(sq t.mask h k).j∉t.place.toList)->∃ke,ke≤n/\(sq t.mask h ke).j∉t.place.toList/\∀k,k<ke->(sq t.mask h k).j∈t.place.toList:=by
  intro n
  induction n with
  |zero=>
   rintro⟨k,hk,q⟩;have:k=0:=by lia
   subst this;exact⟨0,Φ _,q,fun k hk=>by lia⟩
  |succ n ih=>
   rintro⟨k,hk,q⟩;by_cases hp:∃k,k≤n/\(sq t.mask h k).j∉t.place.toList
   ·obtain⟨ke,h1,h2,h3⟩:=ih hp;exact⟨ke,by lia,h2,h3⟩
   ·have hk':k=n+1:=by
     refine aL fun z=>hp ⟨k,by lia,q⟩
    subst hk';exact⟨n+1,Φ _,q,fun k' hk'=>aL fun z=>hp ⟨k',by lia,z⟩⟩
 obtain⟨ke,h1,h2,h3⟩:=least k ⟨k,Φ _,by rw[ek];exact ne⟩;exact⟨ke,by lia,h2,h3⟩
inductive Meets(t:bC)(hashAt:Nat->Int)(h:Int)(n ke:Nat):Met->Prop where
 |CD {k i:Nat} (h1:n≤k) (h2:k<ke) (h3:t.place[i]?=some (sq t.mask h k).j) (h4:hashAt i=h) (h5:∀k' i',n≤k'->k' < k->t.place[i']?=some (sq t.mask h k').j->hashAt i'≠h):
   Meets t hashAt h n ke (.candidate (sq t.mask h k).j i (sq t.mask h (k+1)))
 |free (h1:n≤ke) (h5:∀k' i',n≤k'->k' < ke->t.place[i']?=some (sq t.mask h k').j->hashAt i'≠h):Meets t hashAt h n ke (.empty (sq t.mask h ke).j none)
theorem LX{t:bC}{hashAt:Nat->Int}{h:Int}{ke:Nat}(hr:t.place.toList.Pairwise (· < ·))(hd:t.dummies = #[])(he:(sq t.mask h ke).j∉t.place.toList)(hl:∀k,k<ke->(sq t.mask h k).j∈t.place.toList):
  ∀(fuel n:Nat),n≤ke->ke-n<fuel->∃met,probe.go t hashAt h fuel (sq t.mask h n)=some met/\Meets t hashAt h n ke met
 |0,n,_,hf=>by lia
 |fuel+1,n,hn,hf=>by
  unfold probe.go;by_cases hlast:n=ke
  ·subst hlast;rw[UB hd he,Lo];exact⟨_,rfl,.free (Φ _) fun k' i' h1 h2=>by lia⟩
  ·have hmem:=hl n (by lia);obtain⟨i,hi⟩:=gF hmem;have hi':t.place[i]?=some (sq t.mask h n).j:=by rw[←aZ];exact hi
   rw[Lk hr hi'];dsimp only;by_cases hh:hashAt i=h
   ·rw[if_pos (by simpa using hh)];exact⟨_,rfl,.CD (Φ _) (by lia) hi' hh fun k' i' h1 h2=>by lia⟩
   ·rw[if_neg (by simpa using hh)];obtain⟨met,e,m⟩:=LX (hashAt:=hashAt) hr hd he hl fuel (n+1) (by lia) (by lia);refine⟨met,e,?_⟩;have one:∀i',t.place[i']?=some (sq t.mask h n).j->hashAt i'≠h:=fun i' e'=>by
     have e1:=below_at hr hi';have e2:=below_at hr e';have:i'=i:=by lia
     rw[this];exact hh
    cases m with
    |CD h1 h2 h3 h4 h5=>
     refine .CD (by lia) h2 h3 h4 fun k' i' q1 q2 q3=>?_;by_cases hk:k'=n
     ·subst hk;exact one i' q3
     ·exact h5 k' i' (by lia) q2 q3
    |free h1 h5=>
     refine .free (by lia) fun k' i' q1 q2 q3=>?_;by_cases hk:k'=n
     ·subst hk;exact one i' q3
     ·exact h5 k' i' (by lia) q2 q3
theorem Uz{t:bC}{hs:List Int}(T:Tab t hs){hashAt:Nat->Int}{h:Int}{ke n:Nat}(hk:ke≤10*t.mask+130)(he:(sq t.mask h ke).j∉t.place.toList)(hl:∀k,k<ke->(sq t.mask h k).j∈t.place.toList)(hn:n≤ke):
  ∃met,t.probe hashAt h (sq t.mask h n)=some met/\Meets t hashAt h n ke met:=by
 unfold probe;exact LX T.rise T.pK he hl _ n hn (by unfold turns;lia)
theorem wg{α:Type}(xs:Array α)(p:Nat)(x:α):(insertAt xs p x).toList=xs.toList.take p++x::xs.toList.drop p:=by
 unfold insertAt;have e:(xs.extract p xs.size).toList=xs.toList.drop p:=by
  rw[tO];simp[List.extract];exact lp (by simp)
 simp[tO,List.extract];exact lp (by simp)
theorem LW{α β:Type}:∀(p:Nat) (xs:List α) (ys:List β) (x:α) (y:β),xs.length=ys.length->((xs.take p++x::xs.drop p).zip (ys.take p++y::ys.drop p)).Perm ((x,y)::xs.zip ys)
 |0,xs,ys,x,y,_=>by simp
 |p+1,[],ys,x,y,h=>by
  have:ys=[]:=fE.mp (by simpa using h.symm);subst this;simp
 |p+1,a::xs,[],x,y,h=>by simp at h
 |p+1,a::xs,b::ys,x,y,h=>by
  have ih:=LW p xs ys x y (by simpa using h);simp only[List.take_succ_cons,List.drop_succ_cons,qC,kf];exact (List.Perm.cons (a,b) ih).trans (List.Perm.swap _ _ _)
theorem xD{α:Type}(p:Nat)(xs:List α)(x:α):(xs.take p++x::xs.drop p).Perm (x::xs):=by
 have:=List.perm_middle (a:=x) (l₁:=xs.take p) (l₂:=xs.drop p);rw[iP] at this;exact this
theorem Uy{t:bC}{j:Nat}(hd:t.dummies = #[]):t.put j=({ t with place:=insertAt t.place (below t.place j) j,dummies:=#[]},below t.place j):=by
 unfold put;dsimp only;have h2:has t.dummies j=false:=by
  rw[hd];rfl
 rw[h2];simp[hd]
structure uO(t:bC)(hs:List Int):Prop where
 mask:kr t.mask
 size:t.place.size=hs.length
 rise:t.place.toList.Pairwise (· < ·)
 bound:∀j∈t.place.toList,j≤t.mask
 pK:t.dummies = #[]
 MU:hs.length≤t.mask
 reach:∀j h,(j,h)∈t.place.toList.zip hs->∃k,(sq t.mask h k).j=j/\∀k',k' < k->(sq t.mask h k').j∈t.place.toList
theorem LV{m:Nat}(hm:kr m)(h:Int):∀k,(sq m h k).j≤m/\(sq m h k).j+(sq m h k).more≤m:=by
 have hrun:∀i,i≤m->runEnd m i≤m:=fun i hi=>by
  unfold runEnd;split<;>lia
 have hrs:∀q:Nat×Nat,q.1≤m->(rs m q).j≤m/\(rs m q).j+(rs m q).more≤m:=fun q hq=>by
  have:=hrun q.1 hq;have h2:q.1≤runEnd m q.1:=by unfold runEnd;split<;>lia
  show q.1≤m/\q.1+(runEnd m q.1-q.1)≤m;lia
 intro k
 induction k with
 |zero=>exact hrs _ (by show bits h%(m+1)≤m;have:bits h%(m+1)<m+1:=dO (bits h) (qr m);lia)
 |succ k ih=>
  show (uN m (sq m h k)).j≤m/\(uN m (sq m h k)).j+(uN m (sq m h k)).more≤m;unfold uN;by_cases hc:(sq m h k).more > 0
  ·rw[if_pos hc];show (sq m h k).j+1≤m/\(sq m h k).j+1+((sq m h k).more-1)≤m;lia
  ·rw[if_neg hc];have hlt:(leap m (sq m h k).i (sq m h k).perturb).1≤m:=by
    show ((sq m h k).i*5+1+(sq m h k).perturb / 32)%(m+1)≤m;have:((sq m h k).i*5+1+(sq m h k).perturb / 32)%(m+1)<m+1:=dO _ (qr m);lia
   exact hrs (leap m (sq m h k).i (sq m h k).perturb) hlt
theorem Tab.put{t:bC}{hs:List Int}(T:Tab t hs){h:Int}{ke:Nat}(he:(sq t.mask h ke).j∉t.place.toList)(hl:∀k,k<ke->(sq t.mask h k).j∈t.place.toList):
  uO { t with place:=insertAt t.place (below t.place (sq t.mask h ke).j) (sq t.mask h ke).j,dummies:=#[]} (hs.take (below t.place (sq t.mask h ke).j)++h::hs.drop (below t.place (sq t.mask h ke).j)):=by
 obtain⟨b0,b1,b2⟩:=A2 (j:=(sq t.mask h ke).j) T.rise;have hlen:t.place.toList.length=hs.length:=by simpa using T.size
 have hmem:∀x,x∈(insertAt t.place (below t.place (sq t.mask h ke).j) (sq t.mask h ke).j).toList↔x=(sq t.mask h ke).j∨x∈t.place.toList:=fun x=>by
  rw[wg,(xD _ t.place.toList _).mem_iff,Ω]
 refine⟨T.mask,?_,?_,fun j hj=>?_,rfl,?_,fun j h' hj=>?_⟩
 ·show (insertAt t.place (below t.place (sq t.mask h ke).j) (sq t.mask h ke).j).size=_;have e1:(insertAt t.place (below t.place (sq t.mask h ke).j) (sq t.mask h ke).j).size=(insertAt t.place (below t.place (sq t.mask h ke).j) (sq t.mask h ke).j).toList.length:=by simp
  rw[e1,wg,(xD _ t.place.toList _).length_eq,(xD _ hs _).length_eq];simp only[az];lia
 ·show (insertAt t.place (below t.place (sq t.mask h ke).j) (sq t.mask h ke).j).toList.Pairwise (· < ·);rw[wg];refine List.pairwise_append.mpr ⟨T.rise.sublist (pF _ _),List.pairwise_cons.mpr ⟨fun x hx=>?_,T.rise.sublist (List.drop_sublist _ _)⟩,fun a ha b hb=>?_⟩
  ·obtain⟨i,hi⟩:=gF hx;rw[uZ] at hi;have q:=b2 (below t.place (sq t.mask h ke).j+i) x (by lia) (by rw[←aZ];exact hi);have ne:x≠(sq t.mask h ke).j:=fun e=>he (e▸bF hi);lia
  ·obtain⟨i,hi⟩:=gF ha;have hil:i<below t.place (sq t.mask h ke).j:=by
    have:=(au.mp hi).1;rw[eP] at this;lia
   rw[qA hil] at hi;have qa:=b1 i a hil (by rw[←aZ];exact hi);rcases Ω.mp hb with e|hb
   ·rw[e];exact qa
   ·obtain⟨i2,hi2⟩:=gF hb;rw[uZ] at hi2;have q:=b2 (below t.place (sq t.mask h ke).j+i2) b (by lia) (by rw[←aZ];exact hi2);lia
 ·rcases (hmem j).mp hj with e|e
  ·rw[e];exact (LV T.mask h ke).1
  ·exact T.bound j e
 ·rw[(xD _ hs _).length_eq];have:=T.room;rcases T.mask with e|e|e<;>(simp only[az];show _≤t.mask;lia)
 ·have hp:(j,h')∈(t.place.toList.take (below t.place (sq t.mask h ke).j)++(sq t.mask h ke).j::t.place.toList.drop (below t.place (sq t.mask h ke).j)).zip
    (hs.take (below t.place (sq t.mask h ke).j)++h::hs.drop (below t.place (sq t.mask h ke).j)):=by
   rw[←wg];exact hj
  rw[(LW _ _ _ _ _ hlen).mem_iff] at hp;rcases Ω.mp hp with e|e
  ·cases e;exact⟨ke,rfl,fun k' hk'=>(hmem _).mpr (.inr (hl k' hk'))⟩
  ·obtain⟨k,e1,e2⟩:=T.reach j h' e;exact⟨k,e1,fun k' hk'=>(hmem _).mpr (.inr (e2 k' hk'))⟩
theorem uO.tab{t:bC}{hs:List Int}(T:uO t hs)(h:t.tooFull=false):Tab t hs:=by
 refine⟨T.mask,T.size,T.rise,T.bound,T.pK,?_,T.reach⟩;have h':¬(t.fill*5≥t.mask*3):=by simpa [tooFull] using h
 have e:t.fill=hs.length:=by
  unfold fill;rw[T.size,T.pK];rfl
 rw[e] at h';lia
end qi
namespace qi
open PySem PySem.SetTable
def Taken(ow:Array (Option Nat))(j:Nat):Prop:=∃k,ow[j]?=some (some k)
theorem ET{ow:Array (Option Nat)}{j:Nat}(hj:j<ow.size):(ow.getD j (some 0)).isNone=true↔¬Taken ow j:=by
 have e:ow.getD j (some 0)=ow[j]:=by simp[mR,hj]
 rw[e];unfold Taken;rw[jS hj];cases ow[j] with
 |none=>simp
 |some k=>simp
theorem LU{m:Nat}(hm:kr m){h:Int}{ow:Array (Option Nat)}(hs:ow.size=m+1):∀(fuel r n:Nat),sq m h n=rs m (rn m h r)->(∀k,k<n->Taken ow (sq m h k).j) ->
  (∃r',r≤r'/\r' < r+fuel/\¬Taken ow (rn m h r').1)->∃ke,layClean.free m ow fuel (rn m h r).1 (rn m h r).2=some (sq m h ke).j/\¬Taken ow (sq m h ke).j/\∀k,k<ke->Taken ow (sq m h k).j
 |0,r,n,_,_,hx=>by
  obtain⟨r',h1,h2,_⟩:=hx;lia
 |fuel+1,r,n,hn,hk,hx=>by
  have hi:=EW m h r;have hre:runEnd m (rn m h r).1≤m:=by unfold runEnd;split<;>lia
  have hre2:(rn m h r).1≤runEnd m (rn m h r).1:=by unfold runEnd;split<;>lia
  have at_d:∀d,d≤runEnd m (rn m h r).1-(rn m h r).1->(sq m h (n+d)).j=(rn m h r).1+d:=fun d hd=>by
   rw[Fn m h n _ hn d hd]
  unfold layClean.free;cases hf:(ar (runEnd m (rn m h r).1+1-(rn m h r).1)).find? (fun k=>(ow.getD ((rn m h r).1+k) (some 0)).isNone) with
  |some k=>
   obtain⟨p1,p2,p3⟩:=List.find?_range_eq_some.mp hf;have hkr:=bE.mp p2;refine⟨n+k,?_,?_,fun k' hk'=>?_⟩
   ·rw[at_d k (by lia)]
   ·rw[at_d k (by lia)];exact (ET (by lia)).mp p1
   ·by_cases hlt:k' < n
    ·exact hk k' hlt
    ·obtain⟨d,rfl⟩:∃d,k'=n+d:=⟨k' - n,by lia⟩;rw[at_d d (by lia)];have q:=p3 d (by lia);refine aL fun z=>?_;rw[(ET (by lia)).mpr z] at q;cases q
  |none=>
   have hnone:=fZ.mp hf;have occ:∀d,d≤runEnd m (rn m h r).1-(rn m h r).1->Taken ow ((rn m h r).1+d):=fun d hd=>
    aL fun z=>hnone d (bE.mpr (by lia)) ((ET (by lia)).mpr z)
   refine LU hm hs fuel (r+1) (n+(runEnd m (rn m h r).1-(rn m h r).1)+1) (Ln m h n _ hn) (fun k hk'=>?_) ?_
   ·by_cases hlt:k<n
    ·exact hk k hlt
    ·obtain⟨d,rfl⟩:∃d,k=n+d:=⟨k-n,by lia⟩;rw[at_d d (by lia)];exact occ d (by lia)
   ·obtain⟨r',h1,h2,h3⟩:=hx;refine⟨r',?_,by lia,h3⟩;have:r'≠r:=fun e=>h3 (by
     rw[e];have:=occ 0 (aI _);simpa using this)
    lia
structure vQ(m:Nat)(ow:Array (Option Nat))(l:List Int):Prop where
 size:ow.size=m+1
 all:∀(k:Nat),k<l.length->∃j:Nat,ow[j]?=some (some k)
 one:∀(j j' k:Nat),ow[j]?=some (some k)->ow[j']?=some (some k)->j=j'
 reach:∀(j k:Nat),ow[j]?=some (some k)->∃h,l[k]?=some h/\∃n,(sq m h n).j=j/\∀n',n' < n->Taken ow (sq m h n').j
theorem vQ.nil(m:Nat):vQ m (Array.replicate (m+1) none) []:=by
 have hno:∀(j k:Nat),¬(Array.replicate (m+1) (none:Option Nat))[j]?=some (some k):=fun j k e=>by
  rw[Array.getElem?_replicate] at e;split at e<;>simp at e
 exact⟨by simp,fun k hk=>by simp at hk,fun j j' k e=>absurd e (hno j k),fun j k e=>absurd e (hno j k)⟩
theorem vQ.room{m:Nat}{ow:Array (Option Nat)}{l:List Int}(O:vQ m ow l)(hl:l.length≤m):∃e,e≤m/\¬Taken ow e:=by
 refine aL fun hn=>?_;have hall:∀e,e≤m->Taken ow e:=fun e he=>aL fun q=>hn ⟨e,he,q⟩;obtain⟨g,hg⟩:∃g:Nat->Nat,∀k,k<l.length->ow[g k]?=some (some k):=by
  refine⟨fun k=>if q:k<l.length then (O.all k q).choose else 0,fun k hk=>?_⟩;dsimp only;rw[dif_pos hk];exact (O.all k hk).choose_spec
 have hlen:=EU (m+1) ((ar l.length).map g) fun e he=>by
  obtain⟨k,hk⟩:=hall e (by lia);obtain⟨h,e1,_⟩:=O.reach e k hk;have hkl:=(au.mp e1).1;exact aT.mpr ⟨k,bE.mpr hkl,O.one _ _ k (hg k hkl) hk⟩
 simp at hlen;lia
theorem vQ.add{m:Nat}(hm:kr m){ow:Array (Option Nat)}{l:List Int}{h:Int}(O:vQ m ow l)(hl:l.length≤m):
  ∃j,layClean.free m ow (turns m) (bits h%(m+1)) (bits h)=some j/\vQ m (ow.setIfInBounds j (some l.length)) (l++[h]):=by
 obtain⟨e,he,ne⟩:=O.room hl;obtain⟨n0,hn0,en0⟩:=Di hm (EW m h 13) (show e<m+1 by lia);obtain⟨ke,h1,h2,h3⟩:=LU hm (h:=h) O.size (turns m) 0 0 rfl (fun k hk=>by lia) ⟨13+n0,by lia,by unfold turns;lia,by rw[Fm,en0];exact ne⟩;refine⟨(sq m h ke).j,h1,?_⟩;have hj:(sq m h ke).j<ow.size:=by
  have:=(LV hm h ke).1;rw[O.size];lia
 have hget:∀j:Nat,(ow.setIfInBounds (sq m h ke).j (some l.length))[j]?=if (sq m h ke).j=j then some (some l.length) else ow[j]?:=fun j=>by
  rw[Array.getElem?_setIfInBounds];by_cases e:(sq m h ke).j=j
  ·rw[if_pos e,if_pos e,if_pos (by lia)]
  ·rw[if_neg e,if_neg e]
 have tk:∀j,Taken ow j->Taken (ow.setIfInBounds (sq m h ke).j (some l.length)) j:=fun j ⟨k,hk⟩=>by
  unfold Taken;rw[hget];by_cases e:(sq m h ke).j=j
  ·exact⟨_,if_pos e⟩
  ·exact⟨k,by rw[if_neg e];exact hk⟩
 have lt_of:∀j k:Nat,ow[j]?=some (some k)->k<l.length:=fun j k e=>by
  obtain⟨h',e1,_⟩:=O.reach j k e;exact (au.mp e1).1
 refine⟨by rw[Array.size_setIfInBounds];exact O.size,fun k hk=>?_,fun j j' k q q'=>?_,fun j k q=>?_⟩
 ·rw[ah,gk] at hk;by_cases hkl:k<l.length
  ·obtain⟨j,hj'⟩:=O.all k hkl;refine⟨j,?_⟩;rw[hget,if_neg (fun e=>h2 ⟨k,by rw[e];exact hj'⟩)];exact hj'
  ·have:k=l.length:=by lia
   exact⟨(sq m h ke).j,by rw[hget,if_pos rfl,this]⟩
 ·rw[hget] at q q';by_cases e:(sq m h ke).j=j
  ·rw[if_pos e] at q;by_cases e':(sq m h ke).j=j'
   ·lia
   ·rw[if_neg e'] at q';cases q;exact absurd (lt_of _ _ q') (cE _)
  ·rw[if_neg e] at q;by_cases e':(sq m h ke).j=j'
   ·rw[if_pos e'] at q';cases q';exact absurd (lt_of _ _ q) (cE _)
   ·rw[if_neg e'] at q';exact O.one j j' k q q'
 ·rw[hget] at q;by_cases e:(sq m h ke).j=j
  ·rw[if_pos e] at q;cases q;exact⟨h,by simp,ke,e,fun n' hn'=>tk _ (h3 n' hn')⟩
  ·rw[if_neg e] at q;obtain⟨h',e1,n,e2,e3⟩:=O.reach j k q;exact⟨h',by rw[eW (lt_of j k q)];exact e1,n,e2,fun n' hn'=>tk _ (e3 n' hn')⟩
theorem LS{m:Nat}(hm:kr m):∀(l' l:List Int) (ow:Array (Option Nat)),vQ m ow l->l.length+l'.length≤m+1 ->
  ∃ow',(l'.foldl (fun (acc:Option (Array (Option Nat)×Nat)) h=>do
   let (owner,k) ←acc
   let j ←layClean.free m owner (turns m) (bits h%(m+1)) (bits h)
   pure (owner.setIfInBounds j (some k),k+1)) (some (ow,l.length)))=some (ow',(l++l').length)/\vQ m ow' (l++l')
 |[],l,ow,O,_=>⟨ow,by simp,by simpa using O⟩
 |h::l',l,ow,O,hl=>by
  rw[az] at hl
  obtain⟨j,e,O'⟩:=O.add hm (h:=h) (by lia)
  obtain⟨ow',e2,O2⟩:=LS hm l' (l++[h]) _ O' (by simp;lia)
  refine⟨ow',?_,by simpa using O2⟩
  rw[qU]
  have hs:(do
   let (owner,k) ←(some (ow,l.length):Option (Array (Option Nat)×Nat))
   let j ←layClean.free m owner (turns m) (bits h%(m+1)) (bits h)
   pure (owner.setIfInBounds j (some k),k+1))=some (ow.setIfInBounds j (some l.length),(l++[h]).length):=by
   show (do
    let j ←layClean.free m ow (turns m) (bits h%(m+1)) (bits h)
    pure (ow.setIfInBounds j (some l.length),l.length+1))=_
   rw[e]
   simp
  rw[hs,e2]
  simp
theorem ES{α:Type}:∀l:List α,((ar l.length).filterMap fun k=>l[k]?)=l
 |[]=>rfl
 |a::l=>by
  rw[az,rL,qB (b:=a) (by simp),u6];have ih:=ES l;congr 1
theorem Ux{α:Type}(xs:Array α):((ar xs.size).filterMap fun k=>xs[k]?)=xs.toList:=by
 have:=ES xs.toList;simpa using this
theorem Uw{m finger moves:Nat}{led plain:Bool}(hm:kr m)(hs:Array Int)(hl:hs.size*5<m*3):
  ∃t order,laid m finger moves led plain hs=some (t,order)/\t.mask=m/\t.led=led/\t.plain=plain/\t.finger=finger/\order.toList.Perm (ar hs.size)/\Tab t (order.toList.filterMap fun k=>hs[k]?):=by
 obtain⟨ow,e,O⟩:=LS hm hs.toList [] _ (vQ.nil m) (by simp;lia);rw[eG] at e O;have hlc:layClean m hs=some ow:=by
  unfold layClean;rw[←Array.foldl_toList];have e':=congrArg (xp fun x:Array (Option Nat)×Nat=>x.1) e;exact e'
 have hmem:∀j k,(j,k)∈((ar (m+1)).filterMap fun j=>(ow.getD j none).map (j,·))↔ow[j]?=some (some k):=fun j k=>by
  rw[oq];constructor
  ·rintro⟨a,ha,q⟩;have ha':=bE.mp ha;cases ho:ow.getD a none with
   |none=>rw[ho] at q;cases q
   |some k'=>
    rw[ho] at q;cases q;have:ow.getD j none=ow[j]'(by rw[O.size];exact ha'):=by simp[mR,O.size,ha']
    rw[this] at ho;rw[jS (by rw[O.size];exact ha'),ho]
  ·intro q;have hj:=(aG.mp q).1;rw[O.size] at hj;refine⟨j,bE.mpr hj,?_⟩;have:ow.getD j none=some k:=by
    rw[Array.getD_eq_getD_getElem?,q];rfl
   rw[this];rfl
 generalize hL:((ar (m+1)).filterMap fun j=>(ow.getD j none).map (j,·))=L at hmem;have rise:L.Pairwise fun a b=>a.1<b.1:=by
  rw[←hL];refine List.Pairwise.filterMap _ (fun a a' hlt b hb b' hb'=>?_) (List.pairwise_lt_range (n:=m+1));cases ho:ow.getD a none with
  |none=>rw[ho] at hb;cases hb
  |some k=>
   rw[ho] at hb;cases hb;cases ho':ow.getD a' none with
   |none=>rw[ho'] at hb';cases hb'
   |some k'=>
    rw[ho'] at hb';cases hb';exact hlt
 have nd:(L.map (·.2)).Nodup:=by
  refine vH _ (R:=fun a b=>a.2≠b.2) (fun _ _ z=>z) ?_;refine List.Pairwise.imp_of_mem (fun {a b} ha hb hab=>?_) rise;intro q;obtain⟨j,k⟩:=a;obtain⟨j',k'⟩:=b;have ea:=(hmem j k).mp ha;have eb:=(hmem j' k').mp hb;have hab':j<j':=hab;have q':k=k':=q;subst q';have:=O.one j j' k ea eb;lia
 have hperm:(L.map (·.2)).Perm (ar hs.size):=by
  refine (List.perm_ext_iff_of_nodup nd List.nodup_range).mpr fun k=>?_;rw[aT,bE];constructor
  ·rintro⟨⟨j,k'⟩,hjk,rfl⟩;obtain⟨h,e1,_⟩:=O.reach j k' ((hmem j k').mp hjk);have:=(au.mp e1).1;simpa using this
  ·intro hk;obtain⟨j,ej⟩:=O.all k (by simpa using hk);exact⟨(j,k),(hmem j k).mpr ej,rfl⟩
 -- the hashes in the slots' order
 have hzip:∀j h,(j,h)∈(L.map (·.1)).zip ((L.map (·.2)).filterMap fun k=>hs[k]?)->∃k,(j,k)∈L/\hs[k]?=some h:=by
  have hall:∀p∈L,∃h,hs[p.2]?=some h:=fun p hp=>by
   obtain⟨h,e1,_⟩:=O.reach p.1 p.2 ((hmem p.1 p.2).mp hp);exact⟨h,by rw[←aZ];exact e1⟩
  clear hmem rise nd hperm hL
  induction L with
  |nil=>intro j h q;cases q
  |cons p L ih=>
   intro j h q;obtain⟨h0,e0⟩:=hall p aa;rw[aC,aC,qB e0,kf] at q;rcases Ω.mp q with q|q
   ·cases q;exact⟨p.2,aa,e0⟩
   ·obtain⟨k,q1,q2⟩:=ih (fun p hp=>hall p (Γ _ hp)) j h q;exact⟨k,Γ _ q1,q2⟩
 have hlenL:((L.map (·.2)).filterMap fun k=>hs[k]?).length=L.length:=by
  have h1:=(hperm.filterMap fun k=>hs[k]?).length_eq;rw[Ux] at h1;have h3:=hperm.length_eq;rw[π,pG] at h3;rw[h1,h3];simp
 refine⟨_,_,by unfold laid;rw[hlc];rfl,rfl,rfl,rfl,rfl,?_,?_⟩
 ·rw[hL];exact hperm
 ·rw[hL];have hlen:L.length=hs.size:=by
   have:=hperm.length_eq;simpa using this
  refine⟨hm,?_,?_,fun j hj=>?_,rfl,?_,fun j h hj=>?_⟩
  ·rw[hlenL];simp
  ·exact vH _ (fun _ _ z=>z) rise
  ·obtain⟨⟨j',k⟩,hp,rfl⟩:=aT.mp hj;have:=(aG.mp ((hmem j' k).mp hp)).1;rw[O.size] at this;show j'≤m;lia
  ·rw[hlenL,hlen];exact hl
  ·obtain⟨k,q1,q2⟩:=hzip j h hj;obtain⟨h',e1,n,e2,e3⟩:=O.reach j k ((hmem j k).mp q1);have eh:h'=h:=by
    rw[aZ,q2] at e1;exact (aO e1).symm
   subst eh;refine⟨n,e2,fun n' hn'=>?_⟩;obtain⟨k',hk'⟩:=e3 n' hn';exact aT.mpr ⟨(_,k'),(hmem _ k').mpr hk',rfl⟩
end qi
namespace j0
open PySem qi
section
variable {prog:ag} {w:av} {A:aJ} {E:ε->θ->Prop} {s:θ}
abbrev hk(prog:ag)(w:av)(ks:List Int):Int:=tupleKeyHash (intKind prog w) ks
abbrev jk(prog:ag)(w:av)(h:Ψ)(ks:List Int)(a:ζ):Prop:=IsTupleKey (intKind prog w) h ks a
def ent(prog:ag)(w:av)(p:List Int×ζ):Int×ε:=(hk prog w p.1,.ref p.2)
structure nN(prog:ag)(w:av)(h:Ψ)(a:ζ)(o:aH)(es:Array (Int×ε))(ep:Nat)(t:bC)(xs:List (List Int×ζ)):Prop where
 at_:h.get? a=some o
 ex:o.ExactSet
 dat:o.data=.set es ep t
 ents:es.toList=xs.map (ent prog w)
 keys:∀p∈xs,jk prog w h p.1 p.2
 nd:(xs.map (·.1)).Nodup
 plain:t.plain=true
 led:t.led = !(w.params.followText "set-order")
structure mw(w:av)(h:Ψ)(a:ζ)(o:aH)(es:Array (Int×ε))(ep:Nat)(t:bC):Prop where
 at_:h.get? a=some o
 ex:o.ExactSet
 dat:o.data=.set es ep t
 plain:t.plain=true
 led:t.led = !(w.params.followText "set-order")
theorem nN.wk{prog:ag}{w:av}{h:Ψ}{a:ζ}{o:aH}{es:Array (Int×ε)}{ep:Nat}{t:bC}{xs:List (List Int×ζ)}(S:nN prog w h a o es ep t xs):mw w h a o es ep t:=⟨S.at_,S.ex,S.dat,S.plain,S.led⟩
theorem zg{es:Array (Int×ε)}:(es.toList.map (·.1)).length=es.size:=by simp
theorem we{es:Array (Int×ε)}{t:bC}(T:uO t (es.toList.map (·.1))):t.fits es.size=true:=by
 unfold bC.fits;have h1:=T.size;rw[zg] at h1;have h2:=T.MU;rw[zg] at h2;have h3:t.fill=es.size:=by
  unfold bC.fill;rw[h1,T.pK];rfl
 rw[h3,h1];simp;exact h2
theorem Tab.r{t:bC}{hs:List Int}(T:Tab t hs):uO t hs:=by
 refine⟨T.mask,T.size,T.rise,T.bound,T.pK,?_,T.reach⟩;have:=T.room;lia
theorem Uv{t:bC}(h:kr t.mask):t.gaveWay=false:=by
 unfold bC.gaveWay;rcases h with e|e|e<;>rw[e]<;>rfl
theorem Uu(n:Nat){v:ε}(h:carriedByValue v=true):ofAClassStatement n v=pure false:=by
 cases v with
 |ref a=>simp[carriedByValue] at h
 |_=>first|rfl|(cases n<;>rfl)
theorem LR{ks:List Int}{a:ζ}{Q:Bool->θ->Prop}(hx:jk prog w s.heap ks a)(h:Q false s):ρ (model prog w) A (ofAClassStatement 8 (.ref a)) Q E s:=by
 have hT:=hx.typeIs;obtain⟨o,items,n,ho,hc,hd,hi⟩:=hx;unfold ofAClassStatement;refine δ (j6 hT ?_);dsimp only;rw[if_pos (by decide)];refine δ (μ ?_);rw[if_neg (by decide)];refine δ (dX ho hd ?_);dsimp only;refine δ ?_;rw[←vd];refine lL _ (fun rest r s'=>r.1=none/\s'=s/\∀v∈rest,carriedByValue v=true) _ ?_ ?_ _ _ ⟨rfl,rfl,hi.byValue⟩
 ·rintro v rest r s' ⟨hr,rfl,hall⟩;rw[Uu _ (hall v aa)];refine δ (μ ?_);rw[if_neg ay];exact μ ⟨rfl,rfl,fun u hu'=>hall u (Γ _ hu')⟩
 ·rintro⟨r1,r2⟩ s' ⟨hr,rfl,_⟩;simp only at hr;subst hr;exact μ h
theorem Ut{ks:List Int}{a:ζ}{Q:Bool->θ->Prop}(hx:jk prog w s.heap ks a)(l:List ε)(hl:∀v∈l,∃k y,v=.ref y/\jk prog w s.heap k y)(h:Q false s):
  ρ (model prog w) A (searchCouldBeSeen (.ref a) l) Q E s:=by
 unfold searchCouldBeSeen;refine δ ?_;refine lL _ (fun rest r s'=>r.1=none/\s'=s/\∀v∈rest,∃k y,v=.ref y/\jk prog w s.heap k y) _ ?_ ?_ _ _ ⟨rfl,rfl,hl⟩
 ·rintro v rest r s' ⟨hr,rfl,hall⟩;obtain⟨k,y,rfl,hy⟩:=hall v aa;have hrest:∀v∈rest,∃k y,v=aF y/\jk prog w s'.heap k y:=fun v hv=>hall v (Γ _ hv);dsimp only;by_cases hc:((a==y)||(carriedByValue (.ref a)&&carriedByValue (.ref y)))=true
  ·rw[if_pos hc];exact μ ⟨rfl,rfl,hrest⟩
  ·rw[if_neg hc];refine δ (wpAny_eqIsQuiet_tuple hx ?_);rw[if_neg (by decide)];refine δ (wpAny_eqIsQuiet_tuple hy ?_);rw[if_neg (by decide)];refine δ (LR hx ?_);rw[if_neg ay];refine δ (LR hy ?_);rw[if_neg ay];exact μ ⟨rfl,rfl,hrest⟩
 ·rintro⟨r1,r2⟩ s' ⟨hr,rfl,_⟩;simp only at hr;subst hr;exact μ h
theorem Us{ks:List Int}{a:ζ}{Q:Bool->θ->Prop}(hx:jk prog w s.heap ks a)(h:Q true s):ρ (model prog w) A (hashByValue 8 (.ref a)) Q E s:=by
 have hT:=hx.typeIs;obtain⟨o,items,n,ho,hc,hd,hi⟩:=hx;unfold hashByValue;refine δ (wpAny_specialOf hT F.slot_tuple_hash.lookup ?_);dsimp only;refine δ (dX ho hd ?_);refine δ ?_;show ρ _ _ (forIn items _ _) _ _ s;rw[←vd];refine lL _ (fun rest r s'=>r.1=none/\s'=s/\∃l,ItemsAre (intKind prog w) l rest) _ ?_ ?_ _ _ ⟨rfl,rfl,ks,hi⟩
 ·rintro v rest r s' ⟨hr,rfl,l,hl⟩;cases hl with
  |@cons k v' _ _ h1 h2=>
   obtain⟨tk,rfl⟩:=iB (k:=k) h1;have e:hashByValue 7 (.int k tk)=pure true:=by rfl
   rw[e];refine δ (μ ?_);rw[if_neg (by decide)];exact μ ⟨rfl,rfl,_,h2⟩
 ·rintro⟨r1,r2⟩ s' ⟨hr,rfl,_⟩;simp only at hr;subst hr;exact μ h
theorem Ur{es:Array (Int×ε)}{xs:List (List Int×ζ)}(he:es.toList=xs.map (ent prog w)){i:Nat}(hi:i<es.size):∃p,xs[i]?=some p/\es[i]?=some (ent prog w p):=by
 have hl:xs.length=es.size:=by
  have:=congrArg e7 he;simpa using this.symm
 obtain⟨p,hp⟩:∃p,xs[i]?=some p:=⟨xs[i]'(by lia),aE (by lia)⟩;refine⟨p,hp,?_⟩;rw[←aZ,he,aK,hp];rfl
theorem LQ{a:ζ}{o:aH}{es:Array (Int×ε)}{ep:Nat}{t:bC}{xs:List (List Int×ζ)}(S:nN prog w s.heap a o es ep t xs)(T:Tab t (es.toList.map (·.1)))(hu:A.units<cLine)
  {ks:List Int} {x:ζ} (hx:jk prog w s.heap ks x) {ke:Nat} (hke:ke≤10*t.mask+130) (hemp:(sq t.mask (hk prog w ks) ke).j∉t.place.toList) (hliv:∀k,k<ke->(sq t.mask (hk prog w ks) k).j∈t.place.toList)
  {Q:SetFound->θ->Prop} (hin:ks∈xs.map (·.1)->Q (.there none) s) (hout:ks∉xs.map (·.1)->Q (.free (sq t.mask (hk prog w ks) ke).j false) s):
  ∀(fuel n:Nat) (stand:Option bC.Probe),stand.getD (t.probeStart (hk prog w ks))=sq t.mask (hk prog w ks) n->n≤ke->ke-n<fuel ->
   (∀(k' i':Nat) p,k' < n->t.place[i']?=some (sq t.mask (hk prog w ks) k').j->xs[i']?=some p->p.1≠ks) ->
   ρ (model prog w) A (setSearchFrom a (.ref x) (hk prog w ks) true fuel stand) Q E s
 |0,n,stand,_,_,hf,_=>by lia
 |fuel+1,n,stand,hst,hn,hf,hprev=>by
  have hsz:t.place.size=es.size:=by
   have:=T.size
   rw[zg] at this
   exact this
  have hfit:=we (Tab.r T)
  have hal:∀(i:Nat) (p:List Int×ζ),xs[i]?=some p->((es[i]?).map fun z:Int×ε=>z.1).getD 0=hk prog w p.1:=fun i p hp=>by
   rw[←aZ,S.ents,aK,hp]
   rfl
  unfold setSearchFrom
  refine δ (dt S.at_ S.dat hfit ?_)
  dsimp only
  rw[Uv T.mask,if_neg ay,hst]
  obtain⟨met,e,m⟩:=Uz T (hashAt:=fun i=>((es[i]?).map fun z:Int×ε=>z.1).getD 0) hke hemp hliv hn
  erw [e]
  dsimp only
  cases m with
  |free h1 h5=>
   dsimp only
   refine μ (hout fun hmem=>?_)
   obtain⟨p,hp,rfl⟩:=aT.mp hmem
   obtain⟨i,hi⟩:=gF hp
   have hil:i<es.size:=by
    have h1:=(au.mp hi).1
    have h2:=congrArg e7 S.ents
    simp at h2
    lia
   have hj:∃j,t.place[i]?=some j:=⟨t.place[i]'(by lia),by simp⟩
   obtain⟨j,hj⟩:=hj
   have hz:(j,hk prog w p.1)∈t.place.toList.zip (es.toList.map (·.1)):=by
    refine bF (i:=i) ?_
    rw[List.getElem?_zip_eq_some]
    refine⟨by rw[aZ];exact hj,?_⟩
    rw[S.ents,cy,aK,hi]
    rfl
   obtain⟨k,hk1,hk2⟩:=T.reach _ _ hz
   have hkke:k<ke:=by
    refine aL fun z=>hemp ?_
    by_cases q:k=ke
    ·rw[←q,hk1]
     exact bF (by rw[aZ];exact hj)
    ·exact hk2 ke (by lia)
   rw[←hk1] at hj
   by_cases hkn:k<n
   ·exact hprev k i p hkn hj hi rfl
   ·exact h5 k i (by lia) hkke hj (hal i p hi)
  |@CD k i h1 h2 h3 h4 h5=>
   dsimp only
   have hil:i<es.size:=by
    have:=(aG.mp h3).1
    lia
   obtain⟨p,hp,hesi⟩:=Ur S.ents hil
   have hyk:=S.keys p (bF hp)
   have hpk:p∈xs:=bF hp
   have go:ρ (model prog w) A (do
     let some (_,y):=es[i]? | unsupported "internal:set-entry"
     let equal ←holding [y] (eqBool y (.ref x))
     let (es',_,t') ←setState a
     if true&&equal then return .there none
     let some same:=t'.sameMemory t.moves t.mask|unsupported "set.changed-during-lookup:is-the-new-block-at-the-old-address"
     let still ←match (if same then t'.slot (sq t.mask (hk prog w ks) k).j else .empty) with
      |.live i'=>match es'[i']? with
       |some (_,y')=>do pure (if ←isSame y' y then some i' else none)
       |none=>pure none
      |_=>pure none
     match still with
     |none=>rule "set.search.anew";setSearchFrom a (.ref x) (hk prog w ks) true fuel none
     | some i'=>if equal then return .there (some i') else setSearchFrom a (.ref x) (hk prog w ks) true fuel (some (sq t.mask (hk prog w ks) (k+1)))) Q E s:=by
    rw[hesi]
    dsimp only[ent]
    refine δ (bK (wpAny_eqBool_tuple hu hyk hx ?_))
    refine δ (dt S.at_ S.dat hfit ?_)
    dsimp only
    by_cases heq:p.1=ks
    ·rw[decide_eq_true heq,if_pos (by decide)]
     exact μ (hin (aT.mpr ⟨p,hpk,heq⟩))
    ·rw[decide_eq_false heq,if_neg (by decide)]
     have hsm:t.sameMemory t.moves t.mask=some true:=by unfold bC.sameMemory;simp
     rw[hsm]
     dsimp only
     rw[if_pos rfl,Lk T.rise h3]
     dsimp only
     rw[hesi]
     dsimp only[ent]
     refine δ (wpAny_isSame_ref_self ?_)
     rw[if_pos rfl]
     refine δ (μ ?_)
     dsimp only
     rw[if_neg ay]
     refine LQ S T hu hx hke hemp hliv hin hout fuel (k+1) _ rfl (by lia) (by lia) fun k' i' p' hk' hpl hp'=>?_
     by_cases hkn:k' < n
     ·exact hprev k' i' p' hkn hpl hp'
     ·by_cases hkk:k'=k
      ·subst hkk
       have e1:=below_at T.rise h3
       have e2:=below_at T.rise hpl
       have:i'=i:=by lia
       subst this
       rw[hp] at hp'
       cases hp'
       exact heq
      ·intro he
       exact h5 k' i' (by lia) (by lia) hpl (by rw[hal i' p' hp',he])
   by_cases hled:t.led=true
   ·rw[hled]
    rw[if_neg (by decide)]
    exact go
   ·have hled':t.led=false:=by simpa using hled
    rw[hled']
    rw[if_pos (by decide)]
    refine δ (Ut hx _ (fun v hv=>?_) ?_)
    ·obtain⟨e0,he0,rfl⟩:=aT.mp hv
     have he1:e0∈es.toList:=by
      have:=gH.mp he0
      exact gH.mpr (Array.mem_filter.mp this).1
     rw[S.ents] at he1
     obtain⟨p0,hp0,rfl⟩:=aT.mp he1
     exact⟨p0.1,p0.2,rfl,S.keys p0 hp0⟩
    ·rw[if_neg ay]
     exact go
end
end j0
namespace j0
open PySem qi
section
variable {prog:ag} {w:av} {A:aJ} {E:ε->θ->Prop} {s:θ}
def nM(prog:ag)(w:av)(h:Ψ)(a:ζ)(xs:List (List Int×ζ)):Prop:=
 ∃o es ep t,nN prog w h a o es ep t xs/\Tab t (es.toList.map (·.1))
theorem A0{h h':Ψ}{a y:ζ}{ks:List Int}{o:aH}{es:Array (Int×ε)}{ep:Nat}{t:bC}(ho:h.get? a=some o)(hd:o.data=.set es ep t)(sb:cQ a h h')(hy:jk prog w h ks y):jk prog w h' ks y:=by
 obtain⟨oy,items,n,hoy,hc,hdy,hi⟩:=hy;have ne:y≠a:=by
  intro e;subst e;rw[ho] at hoy;cases hoy;rw[hd] at hdy;cases hdy
 exact⟨oy,items,n,(sb.2 y ne).trans hoy,hc,hdy,hi⟩
theorem LP{h:Ψ}{a:ζ}{o:aH}{es es':Array (Int×ε)}{ep:Nat}{t t':bC}(ho:h.get? a=some o)(hd:o.data=.set es ep t):
  (h.update a (pN es' t')).get? a=some { o with data:=.set es' (ep+1) t' }:=by
 have q:=ck (pN es' t') ho (by rw[putSet_of es' t' hd];rfl);rw[putSet_of es' t' hd] at q;exact q
theorem Uq:∀n,n<8->5≤n->oi (iM n)=32:=by decide +kernel
theorem Up:∀n,n<32->19≤n->oi (iM n)=128:=by decide +kernel
theorem Uo{t:bC}{hs:List Int}(T:uO t hs)(hf:t.tooFull=true)(h64:hs.length≤64):∃m,oi (iM hs.length)=m+1/\kr m/\hs.length*5<m*3/\m+1≤128:=by
 have hfill:t.fill=hs.length:=by
  unfold bC.fill;rw[T.size,T.pK];rfl
 have h':hs.length*5≥t.mask*3:=by
  unfold bC.tooFull at hf;rw[hfill] at hf;simpa using hf
 have hfit:=T.MU;rcases T.mask with e|e|e
 ·rw[e] at h' hfit;exact⟨31,Uq _ (by lia) (by lia),.inr (.inl rfl),by lia,by lia⟩
 ·rw[e] at h' hfit;exact⟨127,Up _ (by lia) (by lia),.inr (.inr rfl),by lia,by lia⟩
 ·rw[e] at h';lia
theorem Um{α β:Type}(f:α->β)(l:List α)(o:List Nat):(o.filterMap fun k=>(l.map f)[k]?)=(o.filterMap fun k=>l[k]?).map f:=by
 rw[uY];congr 1;funext k;rw[aK]
theorem Ul{a:ζ}{o:aH}{es:Array (Int×ε)}{ep:Nat}{t:bC}{xs:List (List Int×ζ)}(S:nN prog w s.heap a o es ep t xs)(T:uO t (es.toList.map (·.1)))(hf:t.tooFull=true)(h64:es.size≤64)
  {Q:Unit->θ->Prop} (h:∀h' xs',cQ a s.heap h'->nM prog w h' a xs'->xs'.Perm xs->Q () { s with heap:=h' }):
  ρ (model prog w) A (setRelay a (iM es.size)) Q E s:=by
 have hsz:(es.toList.map (·.1)).length=es.size:=zg
 obtain⟨m,hm1,hm2,hm3,hm4⟩:=Uo T hf (by rw[hsz];exact h64)
 rw[hsz] at hm1 hm3
 unfold setRelay
 refine δ (dt S.at_ S.dat (we T) ?_)
 dsimp only
 rw[hm1,if_neg (by rw[cq];lia)]
 obtain⟨t2,order,e2,em,el,ep2,ef,hperm,T2⟩:=Uw (finger:=t.finger) (moves:=t.movedTo m) (led:=t.led) (plain:=t.plain) hm2 (es.map (·.1)) (by simpa using hm3)
 have erel:t.relaid (es.map (·.1)) (iM es.size)=some (t2,order):=by
  unfold bC.relaid
  rw[hm1,oo]
  exact e2
 have hosz:(es.map (·.1)).size=es.size:=by simp
 rw[hosz] at hperm
 have hes2:(order.filterMap (es[·]?)).toList=(order.toList.filterMap fun k=>xs[k]?).map (ent prog w):=by
  rw[rR,←Um,←S.ents]
  congr 1
  funext k
  rw[aZ]
 have hxl:xs.length=es.size:=by
  have:=congrArg e7 S.ents
  simpa using this.symm
 have hxp:(order.toList.filterMap fun k=>xs[k]?).Perm xs:=by
  have:=hperm.filterMap fun k=>xs[k]?
  rw[←hxl,ES] at this
  exact this
 have hsz2:(order.filterMap (es[·]?)).size=es.size:=by
  have:=congrArg e7 hes2
  simp only[π] at this
  rw[hxp.length_eq,hxl] at this
  rw[←fI]
  exact this
 refine δ ?_
 show ρ _ _ (do
  let some (t,order):=t.relaid (es.map (·.1)) (iM es.size)|unsupported "internal:set-table-without-room"
  let es':=order.filterMap (es[·]?)
  if es'.size != es.size then unsupported "internal:set-table-lost-an-element"
  pure (es',t)) _ _ _
 rw[erel]
 dsimp only
 rw[hsz2,if_neg (by simp)]
 refine μ ?_
 dsimp only
 refine wpAny_storeSet_of S.at_ S.dat ?_ (by rw[hsz2,cq];lia)
 have sb:=dm s.heap a (pN (order.filterMap (es[·]?)) t2)
 refine h _ _ sb ⟨_,_,_,_,⟨LP S.at_ S.dat,⟨S.ex.1,S.ex.2.1,S.ex.2.2⟩,rfl,hes2,fun p hp=>A0 S.at_ S.dat sb (S.keys p (hxp.mem_iff.mp hp)),?_,ep2.trans S.plain,el.trans S.led⟩,?_⟩ hxp
 ·exact (hxp.map _).nodup_iff.mpr S.nd
 ·have eT:(order.filterMap (es[·]?)).toList.map (·.1)=order.toList.filterMap fun k=>(es.map (·.1))[k]?:=by
   rw[rR,uY]
   congr 1
   funext k
   simp
  rw[eT]
  exact T2
theorem Uk{a:ζ}{xs:List (List Int×ζ)}(S:nM prog w s.heap a xs)(h64:xs.length<64)(hu:A.units<cLine){ks:List Int}{x:ζ}(hx:jk prog w s.heap ks x)
  {Q:Bool->θ->Prop} (h:∀b h' tk xs',s.toks≤tk->cQ a s.heap h'->nM prog w h' a xs'->(ks∈xs.map (·.1)->xs'.Perm xs)->(ks∉xs.map (·.1)->xs'.Perm ((ks,x)::xs))->Q b { s with heap:=h',toks:=tk }):
  ρ (model prog w) A (setAdd a (.ref x)) Q E s:=by
 obtain⟨o,es,ep,t,S,T⟩:=S;have hxl:xs.length=es.size:=by
  have:=congrArg e7 S.ents;simpa using this.symm
 unfold setAdd;refine bK (δ (wpAny_pyHash_tuple hu hx ?_));unfold setAddHashed;refine bK ?_;have nq:∀b h' xs',cQ a s.heap h'->nM prog w h' a xs'->(ks∈xs.map (·.1)->xs'.Perm xs)->(ks∉xs.map (·.1)->xs'.Perm ((ks,x)::xs))->Q b { s with heap:=h',toks:=s.toks+(ks.length+1)}:=
  fun b h' xs' q1 q2 q3 q4=>h b h' _ xs' (fK _ _) q1 q2 q3 q4
 obtain⟨ke,hke,hemp,hliv⟩:=UA T (hk prog w ks);unfold setAddHashedIn;refine δ (dt (s:={ s with toks:=s.toks+(ks.length+1)}) S.at_ S.dat (we (Tab.r T)) ?_);dsimp only;rw[show byScan (.ref x) es=false from rfl,if_neg ay];refine δ ?_;unfold setSearch;refine LQ (s:={ s with toks:=s.toks+(ks.length+1)}) S T hu hx hke hemp hliv (fun hin=>?_) (fun hout=>?_) 100000 0 none rfl (aI _) (by rcases T.mask with e|e|e<;>rw[e] at hke<;>lia) fun k' i' p hk'=>absurd hk' (Nat.not_lt_zero _)
 ·dsimp only;exact μ (nq false s.heap xs (.refl _ _) ⟨o,es,ep,t,S,T⟩ (fun _=>.refl _) fun z=>absurd hin z)
 ·dsimp only;refine δ (dt (s:={ s with toks:=s.toks+(ks.length+1)}) S.at_ S.dat (we (Tab.r T)) ?_);dsimp only;rw[Uy T.pK];dsimp only;rw[S.plain,if_pos rfl];refine δ (Us (s:={ s with toks:=s.toks+(ks.length+1)}) hx ?_);rw[if_pos rfl];have TR:=T.put hemp hliv;generalize hp:iN t.place (sq t.mask (hk prog w ks) ke).j=p at TR ⊢;have hes1:(bP es p (hk prog w ks,aF x)).toList=(xs.take p++(ks,x)::xs.drop p).map (ent prog w):=by
   rw[wg,S.ents,cO,aC,tX,tY];rfl
  have hhs:(bP es p (hk prog w ks,aF x)).toList.map (·.1)=(es.toList.map (·.1)).take p++hk prog w ks::(es.toList.map (·.1)).drop p:=by
   rw[wg,cO,aC,tX,tY]
  have hsz1:(bP es p (hk prog w ks,aF x)).size=es.size+1:=by
   rw[←fI,wg,(xD p es.toList _).length_eq,az,fI]
  rw[←hhs] at TR;refine δ (wpAny_storeSet_of (s:={ s with toks:=s.toks+(ks.length+1)}) S.at_ S.dat ?_ (by rw[hsz1,cq];lia));have sb:=dm s.heap a (pN (bP es p (hk prog w ks,aF x)) { t with place:=bP t.place p (sq t.mask (hk prog w ks) ke).j,dummies:=#[],plain:=true });have hpx:(xs.take p++(ks,x)::xs.drop p).Perm ((ks,x)::xs):=xD p xs _;have S1:nN prog w (s.heap.update a (pN (bP es p (hk prog w ks,aF x)) { t with place:=bP t.place p (sq t.mask (hk prog w ks) ke).j,dummies:=#[],plain:=true })) a { o with data:=.set (bP es p (hk prog w ks,aF x)) (ep+1) { t with place:=bP t.place p (sq t.mask (hk prog w ks) ke).j,dummies:=#[],plain:=true }} (bP es p (hk prog w ks,aF x)) (ep+1)
    { t with place:=bP t.place p (sq t.mask (hk prog w ks) ke).j,dummies:=#[],plain:=true } (xs.take p++(ks,x)::xs.drop p):=by
   refine⟨LP S.at_ S.dat,⟨S.ex.1,S.ex.2.1,S.ex.2.2⟩,rfl,hes1,fun q hq=>?_,?_,rfl,S.led⟩
   ·rcases Ω.mp (hpx.mem_iff.mp hq) with e|e
    ·rw[e];exact A0 S.at_ S.dat sb hx
    ·exact A0 S.at_ S.dat sb (S.keys q e)
   ·refine (hpx.map _).nodup_iff.mpr ?_;rw[aC,dP];exact⟨hout,S.nd⟩
  have TR':uO { t with place:=bP t.place p (sq t.mask (hk prog w ks) ke).j,dummies:=#[],plain:=true } ((bP es p (hk prog w ks,aF x)).toList.map (·.1)):=
   ⟨TR.mask,TR.size,TR.rise,TR.bound,TR.pK,TR.MU,TR.reach⟩
  by_cases hfull:({ t with place:=bP t.place p (sq t.mask (hk prog w ks) ke).j,dummies:=#[],plain:=true }:bC).tooFull=true
  ·rw[hfull,if_pos (by decide)];refine δ ?_;rw[←hsz1];refine Ul (s:={ s with heap:=s.heap.update a _,toks:=s.toks+(ks.length+1)}) S1 TR' hfull (by rw[hsz1];lia) fun h' xs' sb' S2 pm=>?_;exact μ (nq true h' xs' (sb.trans sb') S2 (fun z=>absurd z hout) fun _=>pm.trans hpx)
  ·have hfull':({ t with place:=bP t.place p (sq t.mask (hk prog w ks) ke).j,dummies:=#[],plain:=true }:bC).tooFull=false:=by simpa using hfull
   rw[hfull',if_neg (by decide)];exact μ (nq true _ _ sb ⟨_,_,_,_,S1,TR'.tab hfull'⟩ (fun z=>absurd z hout) fun _=>hpx)
end
end j0
namespace j0
open PySem qi
theorem hJ:Slot "set_iterator" "__next__" "set_iterator.__next__":=
 .of (owner:="set_iterator") (n:="__next__")
  (by rw[typeLookup_type,builtinLookup_eq_fast];kernel_rfl)
  (by decide +kernel) (by decide +kernel) (by decide +kernel)
  (by first|exact .inl (by decide +kernel)|exact .inr (by decide +kernel))
  (by rw[sg];kernel_rfl)
theorem LO:Slot "set_iterator" "__iter__" "set_iterator.__iter__":=
 .of (owner:="set_iterator") (n:="__iter__")
  (by rw[typeLookup_type,builtinLookup_eq_fast];kernel_rfl)
  (by decide +kernel) (by decide +kernel) (by decide +kernel)
  (by first|exact .inl (by decide +kernel)|exact .inr (by decide +kernel))
  (by rw[sg];kernel_rfl)
theorem LN:entryFor table "set_iterator.__next__" = some di.«set_iterator.__next__»:=entryFor_of_tree (by kernel_rfl)
theorem Uj:entryFor table "set.__iter__" = some di.«frozenset.__iter__»:=
 si (id':="frozenset.__iter__") (by rw[fastTable_eq_tree];kernel_rfl) (by decide +kernel) (by decide +kernel) (by rw[fastTable_eq_tree];kernel_rfl)
theorem K9:Manifest.owners.lookup (String.ofList ['r','o','t','a','r','e','t','i','_','t','e','s'].reverse)=some Manifest.sig_set_iterator:=by kernel_rfl
theorem K8(a:ε):argsOk "set_iterator.__next__" ⟨[a],[]⟩:=by
 unfold argsOk;rw[signature?_of (id:="set_iterator.__next__") (n:=['_','_','t','x','e','n','_','_']) (o:=['r','o','t','a','r','e','t','i','_','t','e','s']) (by kernel_rfl) K9]
 kernel_rfl
theorem K7{α:Type}(next:Nat->Nat):∀(fuel k:Nat) (left:List α) (out:Array α),left.length≤fuel->(pickOrder.go next fuel k left out).toList.Perm (out.toList++left)
 |0,k,left,out,h=>by
  have:left=[]:=fE.mp (by lia);subst this;show out.toList.Perm (out.toList++[]);rw[bV]
 |fuel+1,k,left,out,h=>by
  unfold pickOrder.go;cases hl:left[next k%left.length]? with
  |none=>
   have:left=[]:=by
    cases left with
    |nil=>rfl
    |cons a l=>
     have:=dO (next k) (show 0<(a::l).length by simp)
     rw[aE this] at hl;cases hl
   subst this;show out.toList.Perm (out.toList++[]);rw[bV]
  |some x=>
   have hlt:=(au.mp hl).1;have ih:=K7 next fuel (k+1) (left.eraseIdx (next k%left.length)) (out.push x) (by rw[List.length_eraseIdx];split<;>lia)
   refine ih.trans ?_;rw[Array.toList_push,iD];refine List.Perm.append_left _ ?_;obtain⟨_,e⟩:=au.mp hl;rw[←e,g8];have q:=List.perm_middle (a:=left[next k%left.length]) (l₁:=left.take (next k%left.length)) (l₂:=left.drop (next k%left.length+1))
   rw[rM,iP] at q;exact q.symm
theorem Ui{α:Type}(next:Nat->Nat)(xs:Array α):(pickOrder next xs).toList.Perm xs.toList:=by
 have:=K7 next xs.size 0 xs.toList #[] (by simp)
 unfold pickOrder;simpa using this
def kY(w:av):Bool:=w.params.followText "set-order"
def iV(w:av)(a:ζ)(ep:Nat)(es:Array (Int×ε)):List (Int×ε):=if kY w then (pickOrder (w.params.setOrder a ep) es).toList else es.toList
theorem pI(w:av)(a:ζ)(ep:Nat)(es:Array (Int×ε)):(iV w a ep es).Perm es.toList:=by
 unfold iV;split
 ·exact Ui _ _
 ·exact .refl _
def nO(h:Ψ)(it a:ζ)(slot i n ep:Nat):Prop:=h.get? it=some { cls:=.type "set_iterator",data:=.fields #[rawInt slot,rawInt i,.ref a,rawInt n,rawInt ep]}
def rW(w:av)(t:bC)(slot i:Nat):Prop:=kY w=true∨iN t.place slot=i
section
variable {prog:ag} {w:av} {A:aJ} {E:ε->θ->Prop} {s:θ}
theorem ER{Q:Bool->θ->Prop}(h:Q (kY w) s):ρ (model prog w) A setsByText Q E s:=by
 unfold setsByText;exact δ (ql (μ h))
theorem Uh{a:ζ}{o:aH}{es:Array (Int×ε)}{ep:Nat}{t:bC}(S:mw w s.heap a o es ep t)(T:Tab t (es.toList.map (·.1)))
  {Q:ε->θ->Prop} (h:Q (.ref s.heap.objs.size) { s with heap:=s.heap.push { cls:=.type "set_iterator",data:=.fields #[rawInt (0:Nat),rawInt (0:Nat),.ref a,rawInt es.size,rawInt ep]}}):
  ρ (model prog w) A (pyIter (.ref a)) Q E s:=by
 have hT:s.TypeIs (.ref a) "set":=⟨o,S.at_,S.ex.1⟩;have hfit:=we (Tab.r T);refine kS hT F.slot_set_iter (bU F.slot_set_iter hT Uj ?_ (F.args_set_iter_1 _));unfold di.«frozenset.__iter__»;show ρ _ _ (qL "__iter__" ⟨[.ref a],[]⟩ >>= _) _ _ s;refine δ (m:=qL "__iter__" ⟨[.ref a],[]⟩) (lg (a:=a) rfl ?_);unfold di.Frozenset.sizeOf setEntries;refine δ (δ (δ (dt S.at_ S.dat hfit (μ (μ ?_)))));unfold setDrawn;refine δ (δ (dt S.at_ S.dat hfit ?_));refine δ (ER (μ ?_));have hnd:(!kY w&&(!t.plain&&decide (es.size > 1)))=false:=by rw[S.plain];simp
 show ρ _ _ (if (!kY w&&(!t.plain&&decide (es.size > 1)))=true then _ else _) _ _ s;rw[hnd,if_neg ay];refine δ (μ ?_);refine δ (wpAny_setEpoch_of S.at_ S.dat hfit ?_);refine δ ?_;unfold newFields;refine bz ?_;refine μ ⟨_,rfl,"set_iterator",_,⟨_,ae _ rfl,rfl⟩,hJ.lookup,h⟩
theorem K6{a:ζ}{o:aH}{es:Array (Int×ε)}{ep:Nat}{t:bC}(S:mw w s.heap a o es ep t)(T:Tab t (es.toList.map (·.1))){slot i:Nat}(hsl:rW w t slot i)
  {Q:Option (ε×Nat)->θ->Prop} (h1:∀p slot',(iV w a ep es)[i]?=some p->rW w t slot' (i+1)->Q (some (p.2,slot')) s) (h2:(iV w a ep es)[i]?=none->Q none s):
  ρ (model prog w) A (setNext a slot i ep) Q E s:=by
 have hfit:=we (Tab.r T);have hsz:t.place.size=es.size:=by
  have:=T.size;rw[zg] at this;exact this
 unfold setNext;refine δ (dt S.at_ S.dat hfit ?_);dsimp only;refine δ (ER ?_);unfold iV at h1 h2;cases hbt:kY w with
 |true=>
  rw[hbt] at h1 h2;rw[if_pos rfl];simp only[if_true,aZ] at h1 h2;rw[if_neg (by simp)];unfold setWalk;refine δ (δ (dt S.at_ S.dat hfit ?_));dsimp only;refine δ (ER ?_);rw[hbt,if_pos rfl];refine δ (ql (μ ?_));refine μ ?_;show Q (xp (fun e=>(e.snd,slot)) (pickOrder (w.params.setOrder a ep) es)[i]?) s;cases hp:(pickOrder (w.params.setOrder a ep) es)[i]? with
  |none=>exact h2 hp
  |some p=>exact h1 p slot hp (.inl hbt)
 |false=>
  rw[hbt] at h1 h2;rw[if_neg ay];simp only[dF,if_false,aZ] at h1 h2;have hled:t.led=true:=by
   rw[S.led];show (!kY w)=true;rw[hbt];rfl
  have hb:iN t.place slot=i:=by
   rcases hsl with z|z
   ·rw[hbt] at z;cases z
   ·exact z
  have hnd:(!t.plain&&decide (es.size > 1))=false:=by rw[S.plain];simp
  show ρ _ _ (if (!t.plain&&decide (es.size > 1))=true then _ else _) _ _ s;rw[hnd,if_neg ay];refine δ ?_;show ρ _ _ (if (!t.led && !es.isEmpty)=true then _ else _) _ _ s;rw[hled,if_neg (by simp)];refine μ ?_;rw[hb];cases hp:es[i]? with
  |none=>
   refine μ ?_;have hpl:t.place[i]?=none:=by
    have:=ju.mp hp;exact ju.mpr (by lia)
   exact h2 hp
  |some p=>
   have hil:=(aG.mp hp).1;have hj:t.place[i]?=some (t.place[i]'(by lia)):=by simp[hsz,hil]
   rw[hj];obtain⟨ph,pv⟩:=p;refine μ (h1 (ph,pv) _ hp (.inr ?_))
   -- the next place
   obtain⟨b0,b1,b2⟩:=A2 (j:=t.place[i]'(by lia)+1) T.rise;refine aL fun cK=>?_;by_cases hlt:iN t.place (t.place[i]'(by lia)+1)≤i
   ·have:=b2 i _ hlt hj;lia
   ·have hgt:i+1<iN t.place (t.place[i]'(by lia)+1):=by lia
    have hi1:i+1<t.place.size:=by lia
    have e1:t.place[i+1]?=some (t.place[i+1]):=by simp[hi1]
    have q:=b1 (i+1) _ hgt e1;have pw:=gE.mp T.rise i (i+1) (by simp;lia) (by simpa using hi1) (lM i);simp at pw;lia
theorem EO{it a:ζ}{slot i n ep:Nat}(hit:nO s.heap it a slot i n ep):s.TypeIs (.ref it) "set_iterator":=⟨_,hit,rfl⟩
theorem K5{a it:ζ}{o:aH}{es:Array (Int×ε)}{ep:Nat}{t:bC}(S:mw w s.heap a o es ep t)(T:Tab t (es.toList.map (·.1))){slot i:Nat}(hit:nO s.heap it a slot i es.size ep)
  {P:PySem.Fin->θ->Prop} (h:ρ (model prog w) A (do
   match ←setNext a slot i ep with
   |some (x,next)=>
    setField (.ref it) 0 (rawInt next)
    setField (.ref it) 1 (rawInt ((i:Int)+1))
    ret x
   | none=>setField (.ref it) 2 .none;raiseNew (←newExc (.type "StopIteration") [])) P E s):
  ρ (model prog w) A (di.«set_iterator.__next__» ⟨[.ref it],[]⟩) P E s:=by
 have hfit:=we (Tab.r T);unfold di.«set_iterator.__next__»;refine δ (m:=slotArgs "__next__" 0 ⟨[.ref it],[]⟩) (lg (a:=(.ref it,[])) rfl ?_);refine δ (sf hit rfl ?_);dsimp only[rawInt];unfold setEntries;refine δ (δ (dt S.at_ S.dat hfit (μ ?_)));rw[if_neg (by simp)];exact h
theorem Ug{a it:ζ}{o:aH}{es:Array (Int×ε)}{ep:Nat}{t:bC}(S:mw w s.heap a o es ep t)(T:Tab t (es.toList.map (·.1))){slot i:Nat}(hsl:rW w t slot i)(hit:nO s.heap it a slot i es.size ep)
  {p:Int×ε} (hp:(iV w a ep es)[i]?=some p) {Q:Option ε->θ->Prop}
  (h:∀h' slot',nO h' it a slot' (i+1) es.size ep->rW w t slot' (i+1)->cQ it s.heap h'->Q (some p.2) { s with heap:=h' }):ρ (model prog w) A (pyNext (.ref it)) Q E s:=by
 have hT:=EO hit;unfold pyNext;refine δ (gv (cm (name:=fk "__next__") hT hJ
  (bU hJ hT LN (K5 S T hit (δ (K6 S T hsl (fun q slot' hq hs'=>?_) fun hn=>?_))) (K8 _))))
 ·rw[hp] at hq;cases hq;dsimp only;refine δ (bQ hit (by simp) fun h1 e1 sb1=>?_);refine δ (bQ (s:={ s with heap:=h1 }) e1 (by simp) fun h2 e2 sb2=>?_)
  refine μ ⟨_,rfl,μ (h h2 slot' ?_ hs' (sb1.trans sb2))⟩;unfold nO;rw[e2];rfl
 ·rw[hp] at hn;cases hn
theorem Ue{a it:ζ}{o:aH}{es:Array (Int×ε)}{ep:Nat}{t:bC}(hh:A.handled=none)(S:mw w s.heap a o es ep t)(T:Tab t (es.toList.map (·.1))){slot i:Nat}(hsl:rW w t slot i)(hit:nO s.heap it a slot i es.size ep)
  (hp:(iV w a ep es)[i]?=none) {Q:Option ε->θ->Prop}
  (h:∀h',vY it s.heap h'->Q none { s with heap:=h' }):ρ (model prog w) A (pyNext (.ref it)) Q E s:=by
 have hT:=EO hit;unfold pyNext;refine δ (gv (cm (name:=fk "__next__") hT hJ
  (bU hJ hT LN (K5 S T hit (δ (K6 S T hsl (fun q slot' hq hs'=>?_) fun hn=>?_))) (K8 _))))
 ·rw[hp] at hq;cases hq
 ·dsimp only;refine δ (bQ hit (by simp) fun h1 e1 sb1=>?_);refine δ ?_;simp only[newExc,newTuple];refine δ (bz ?_ (by size_fits));refine δ (m:=firstArgMember _ _) (lg (a:=aX) (by first|rfl|(simp only[firstArgMember];rfl)) ?_)
  refine bz ?_ (by size_fits);simp only[raiseNew];refine δ (tS ?_);rw[show A.in1.handled=none from hh];refine δ (μ (wpAny_throw ?_));refine δ (lK (T:="StopIteration") (b:=true) ⟨_,ae _ rfl,rfl⟩ sh ?_);refine μ (h _ fun b ob hb e=>?_);exact ι _ (ι _ ((sb1.2 b hb).trans e))
end
end j0
namespace j0
open PySem qi
section
variable {prog:ag} {w:av} {A:aJ} {E:ε->θ->Prop} {s:θ}
theorem nN.kept{h h':Ψ}{a:ζ}{o:aH}{es:Array (Int×ε)}{ep:Nat}{t:bC}{xs:List (List Int×ζ)}(S:nN prog w h a o es ep t xs)
  (k:∀b∈a::xs.map (·.2),∀ob,h.get? b=some ob->h'.get? b=some ob):nN prog w h' a o es ep t xs:=by
 refine⟨k a aa _ S.at_,S.ex,S.dat,S.ents,fun p hp=>?_,S.nd,S.plain,S.led⟩;obtain⟨oy,items,n,ho,r⟩:=S.keys p hp;exact⟨oy,items,n,k _ (Γ _ (aT.mpr ⟨p,hp,rfl⟩)) _ ho,r⟩
theorem mw.kept{h h':Ψ}{a:ζ}{o:aH}{es:Array (Int×ε)}{ep:Nat}{t:bC}(S:mw w h a o es ep t)
  (k:∀b∈[a],∀ob,h.get? b=some ob->h'.get? b=some ob):mw w h' a o es ep t:=⟨k a aa _ S.at_,S.ex,S.dat,S.plain,S.led⟩
theorem mw.MF{h:Ψ}{a it:ζ}{o:aH}{es:Array (Int×ε)}{ep ep':Nat}{t:bC}{slot i n:Nat}{b:ζ}(S:mw w h a o es ep t)(hit:nO h it b slot i n ep'):
  ∀c∈[a],c≠it:=fun c hc e=>by
 subst e;unfold nO at hit;rw[cw.mp hc,S.at_] at hit;cases hit;have:=S.dat;cases this
theorem Ud(hh:A.handled=none){a it:ζ}{o:aH}{es:Array (Int×ε)}{ep:Nat}{t:bC}(T:Tab t (es.toList.map (·.1))):
  Walks prog w A it ([it,a]) [it] es.size (fun i v=>∃p,(iV w a ep es)[i]?=some p/\v=p.2)
   (fun i h=>∃slot,nO h it a slot i es.size ep/\rW w t slot i/\mw w h a o es ep t) where
 sub:=fun b hb=>by
  have:b=it:=by simpa using hb
  simp[this]
 frame:=fun i h h' ⟨slot,h1,h2,h3⟩ k=>⟨slot,k it aa _ h1,h2,h3.kept fun b hb ob e=>k b (Γ _ hb) ob e⟩
 item:=fun i s Q E hi ⟨slot,h1,h2,h3⟩ hQ=>by
  have hlen:(iV w a ep es).length=es.size:=by rw[(pI w a ep es).length_eq];simp
  have hp:(iV w a ep es)[i]?=some ((iV w a ep es)[i]'(by lia)):=aE (by lia);refine Ug h3 T h2 h1 hp fun h' slot' q1 q2 sb=>?_;refine hQ _ h' s.toks ⟨_,hp,rfl⟩ ⟨slot',q1,q2,h3.kept fun b hb ob e=>(sb.2 b (h3.MF h1 b hb)).trans e⟩ fun b ob hb e=>?_;exact (sb.2 b (by simpa using hb)).trans e
 done:=fun s Q E ⟨slot,h1,h2,h3⟩ hQ=>by
  have hlen:(iV w a ep es).length=es.size:=by rw[(pI w a ep es).length_eq];simp
  refine Ue hh h3 T h2 h1 (dh.mpr (by lia)) fun h' q=>?_;exact hQ h' s.toks fun b ob hb e=>q b ob (by simpa using hb) e
 self:=fun i s Q E ⟨slot,h1,h2,h3⟩ h=>by
  have hT:=EO h1;refine kS hT LO (bU LO hT (b:=di.«dict_keyiterator.__iter__») ?_ ?_ ?_)
  ·exact si (id':="dict_keyiterator.__iter__") (by kernel_rfl) (by decide +kernel) (by decide +kernel) (by kernel_rfl)
  ·show ρ _ _ (ret (.ref it)) _ _ s;exact μ ⟨_,rfl,"set_iterator",_,hT,hJ.lookup,h⟩
  ·unfold argsOk;rw[signature?_of (id:="set_iterator.__iter__") (n:=['_','_','r','e','t','i','_','_']) (o:=['r','o','t','a','r','e','t','i','_','t','e','s']) (by kernel_rfl) K9]
   kernel_rfl
theorem xu(hh:A.handled=none){a:ζ}{o:aH}{es:Array (Int×ε)}{ep:Nat}{t:bC}(S:mw w s.heap a o es ep t)(T:Tab t (es.toList.map (·.1)))(h64:es.size≤64)
  {Q:List ε->θ->Prop} (h:∀s',Moved [] (fun x y=>y=x) s s'->Q ((iV w a ep es).map (·.2)) s'):ρ (model prog w) A (collect (.ref a)) Q E s:=by
 have hT:s.TypeIs (.ref a) "set":=⟨o,S.at_,S.ex.1⟩;have hal:a<s.heap.objs.size:=Θ S.at_;unfold collect;refine δ (wpAny_runValue (ij F.entry_proto_collect ?_));rw[gI F.plain_proto_collect _];show ρ _ A.in1 (newList [] >>= fun q=>again (.builtin "list.__iadd__" ⟨[q,.ref a],[]⟩)) _ _ s;refine δ (bz ?_);refine μ ⟨oM F.plain_list_iadd _,ij F.entry_list_iadd ?_⟩;rw[gI F.plain_list_iadd _];show ρ _ A.in1 (oB (.ref s.heap.objs.size) (.ref a) (.ref s.heap.objs.size)) _ _ _;unfold oB;have S1:mw w (s.heap.push { cls:=.type "list",data:=.seq ([]:List ε).toArray }) a o es ep t:=S.kept fun b _ ob e=>ι _ e;have hT1:lD { s with heap:=s.heap.push { cls:=.type "list",data:=.seq ([]:List ε).toArray }} (.ref a) "set":=⟨o,S1.at_,S.ex.1⟩;refine δ (j6 hT1 ?_);have ne:s.heap.objs.size≠a:=dS hal;have e1:qE (.ref s.heap.objs.size) (.ref a)=false:=by simp[qE,ne]
 rw[if_neg (by rw[e1];decide)];refine δ (Uh (s:={ s with heap:=s.heap.push { cls:=.type "list",data:=.seq ([]:List ε).toArray }}) S1 T ?_);have S2:=S1.kept (h':=(s.heap.push { cls:=.type "list",data:=.seq ([]:List ε).toArray }).push { cls:=.type "set_iterator",data:=.fields #[rawInt (0:Nat),rawInt (0:Nat),.ref a,rawInt es.size,rawInt ep]}) fun b _ ob e=>ι _ e;have hit:nO ((s.heap.push { cls:=.type "list",data:=.seq ([]:List ε).toArray }).push { cls:=.type "set_iterator",data:=.fields #[rawInt (0:Nat),rawInt (0:Nat),.ref a,rawInt es.size,rawInt ep]})
   (s.heap.push { cls:=.type "list",data:=.seq ([]:List ε).toArray }).objs.size a 0 0 es.size ep:=ae _ rfl
 have hS0:((s.heap.push { cls:=.type "list",data:=.seq ([]:List ε).toArray }).push { cls:=.type "set_iterator",data:=.fields #[rawInt (0:Nat),rawInt (0:Nat),.ref a,rawInt es.size,rawInt ep]}).get? s.heap.objs.size
   = some { cls:=.type "list",data:=.seq ([]:List ε).toArray }:=ι _ (ae _ rfl)
 have keep0:∀b ob,s.heap.get? b=some ob->((s.heap.push { cls:=.type "list",data:=.seq ([]:List ε).toArray }).push { cls:=.type "set_iterator",data:=.fields #[rawInt (0:Nat),rawInt (0:Nat),.ref a,rawInt es.size,rawInt ep]}).get? b=some ob:=
  fun b ob e=>ι _ (ι _ e)
 have hI:(s.heap.push { cls:=.type "list",data:=.seq ([]:List ε).toArray }).objs.size=s.heap.objs.size+1:=dN ..;generalize (s.heap.push { cls:=.type "list",data:=.seq ([]:List ε).toArray }).objs.size=it at hI hit ⊢;generalize ((s.heap.push { cls:=.type "list",data:=.seq ([]:List ε).toArray }).push { cls:=.type "set_iterator",data:=.fields #[rawInt (0:Nat),rawInt (0:Nat),.ref a,rawInt es.size,rawInt ep]})=hp at S2 hit hS0 keep0 ⊢;refine δ (bK ?_);have hT2:lD { s with heap:=hp } (.ref a) "set":=⟨o,S2.at_,S.ex.1⟩;unfold di.List.listLengthHint;refine δ (wpAny_specialOf hT2 F.slot_set_len.lookup ?_);generalize qd:("set.__len__":String)=id0;dsimp only;rw[show splitId id0=some ("set","__len__") from by subst qd;decide +kernel];subst qd;dsimp only;refine δ (lK (b:=true) hT2 (by rw[sg];kernel_rfl) ?_)
 rw[if_neg (by decide)];show ρ _ A.in1 (typeOf (.ref a) >>= _) _ _ _;refine δ (j6 hT2 (μ ?_));show ρ _ A.in1 (rule "list.extend.makes-room" >>= fun _=>di.List.listTouch (.ref s.heap.objs.size) >>= fun _=>again (.builtin "list.extend.loop" ⟨[.ref s.heap.objs.size,.ref it,.ref s.heap.objs.size],[]⟩)) _ _ _;refine δ (mB (δ ?_));show ρ _ A.in1 (updateSeq s.heap.objs.size (·.push .none) >>= fun _=>updateSeq s.heap.objs.size (·.pop)) _ _ _;refine δ (wpAny_updateSeq (s:={ s with heap:=hp }) hS0 rfl ?_);have q1:=ck (bx (·.push aX)) hS0 rfl;refine wpAny_updateSeq (s:={ s with heap:=hp.update s.heap.objs.size (bx (·.push aX))}) q1 rfl ?_;have q2:=ck (bx (·.pop)) q1 rfl;have oth:∀b ob,b≠s.heap.objs.size->hp.get? b=some ob->((hp.update s.heap.objs.size (bx (·.push aX))).update s.heap.objs.size (bx (·.pop))).get? b=some ob:=
  fun b ob hb e=>(bB _ _ (dy hb)).trans ((bB _ _ (dy hb)).trans e)
 have q3:∃c,((hp.update s.heap.objs.size (bx (·.push aX))).update s.heap.objs.size (bx (·.pop))).get? s.heap.objs.size=some { cls:=.type "list",dict:=none,data:=.seq #[] c,slots:=#[]}:=⟨_,q2⟩;clear q2;generalize (hp.update s.heap.objs.size (bx (·.push aX))).update s.heap.objs.size (bx (·.pop))=hp2 at q3 oth ⊢;obtain⟨c0,q2⟩:=q3;have hfp:∀b∈[it,a],b≠s.heap.objs.size:=fun b hb e=>by
  rcases Ω.mp hb with z|z
  ·lia
  ·have hlt:b<s.heap.objs.size:=by
    rw[cw.mp z];exact hal
   lia
 have W:=(Ud (prog:=prog) (w:=w) (A:=A.in1) (by simpa using hh) (it:=it) (a:=a) (o:=o) (ep:=ep) T).toS;refine μ ⟨oM F.plain_extend_loop _,codeAny_extend_loopS W (by rw[cq];lia) _ (fun hm=>hfp _ hm rfl) _ es.size 0 _ _ _ rfl (aI _) ?_ q2 (ItemsOf.nil _) fun s' acc' c' hm hS' hacc=>?_⟩
 ·refine⟨0,oth _ _ (hfp _ aa) hit,?_,S2.kept fun b hb ob e=>oth b ob (hfp b (Γ _ hb)) e⟩;by_cases hb:kY w=true
  ·exact .inl hb
  ·refine .inr ?_;obtain⟨b0,b1,b2⟩:=A2 (j:=0) T.rise;refine aL fun cK=>?_;have hpos:0<iN t.place 0:=by lia
   have h0:0<t.place.size:=by lia
   have:=b1 0 (t.place[0]) hpos (by simp[h0]);lia
 ·show ρ _ A (load s.heap.objs.size >>= _) _ _ s';refine δ (wpAny_load hS' ?_);refine μ ?_;have hlen:(iV w a ep es).length=es.size:=by rw[(pI w a ep es).length_eq];simp
  have eacc:acc'.toList=(iV w a ep es).map (·.2):=by
   refine List.ext_getElem? fun i=>?_;rw[aK,aZ];cases ha:acc'[i]? with
   |none=>
    have h1:=ju.mp ha;rw[hacc.1] at h1;rw[dh.mpr (by lia)];rfl
   |some v=>
    obtain⟨p,e1,e2⟩:=hacc.2 i v ha;rw[e1,e2];rfl
  show Q acc'.toList s';rw[eacc];refine h s' ⟨fun b ob _ e=>?_,hm.gens,hm.drawn,hm.os,?_⟩
  ·have hlt:=Θ e;refine hm.heap b ob ?_ (oth b ob (bf hlt) (keep0 b ob e));intro z;rcases Ω.mp z with z|z
   ·rw[z] at hlt;exact cE _ hlt
   ·have:b=it:=by simpa using z
    rw[this,hI] at hlt;exact cE _ (Nat.lt_of_succ_lt hlt)
  ·exact hm.toks
end
end j0
namespace j0
open PySem qi
section
variable {prog:ag} {w:av} {A:aJ} {E:ε->θ->Prop} {s:θ}
def gO(w:av):aH:={ cls:=.type "set",dict:=none,data:=.set #[] 0 (.fresh 0 0 (!(kY w)))}
theorem Uc(a:ε){Q₁:ε->θ->Prop}(h:Q₁ (.ref s.heap.objs.size) { s with heap:=s.heap.push (gO w)}):
  iL (model prog w) A (.call (.builtin "set.__new__") ⟨[.type "set",a],[]⟩) (wants Q₁ E) s:=by
 refine qQ ?_;show ρ _ A.in1 (checkBuiltinCall "set.__new__" ⟨[.type "set",a],[]⟩ >>= fun _=>again (.builtin "set.__new__" ⟨[.type "set",a],[]⟩)) _ _ s;refine δ (lg (F.newCall_set_1 a) (μ ⟨oM F.plain_set_new _,ij F.entry_set_new ?_⟩));rw[gI F.plain_set_new _];unfold di.«set.__new__» di.Frozenset.newClass;have hsub:=sub_set_self;obtain⟨hp,g,d,tk,os⟩:=s;dsimp only;wp_walk;refine ql (μ ?_);dsimp only;simp only[newObj];refine δ (wpAny_alloc (μ ?_));exact μ h
theorem Ub(led:Bool):Tab (bC.fresh 0 0 led) []:=
 ⟨.inl rfl,rfl,vG,(fun j hj=>(nomatch hj)),rfl,(by show 0*5<7*3;decide),(fun j h hj=>(nomatch hj))⟩
structure xk(ps xs:List (List Int×ζ)):Prop where
 sub:∀p∈xs,p∈ps
 all:∀p∈ps,p.1∈xs.map (·.1)
 len:xs.length≤ps.length
theorem xk.add{ps xs xs':List (List Int×ζ)}{p:List Int×ζ}(d:xk ps xs)(h1:p.1∈xs.map (·.1)->xs'.Perm xs)(h2:p.1∉xs.map (·.1)->xs'.Perm (p::xs)):xk (ps++[p]) xs':=by
 by_cases hm:p.1∈xs.map (·.1)
 ·have pm:=h1 hm;refine⟨fun q hq=>fm _ (d.sub q (pm.mem_iff.mp hq)),fun q hq=>?_,?_⟩
  ·rw[(pm.map _).mem_iff];rcases cA.mp hq with hq|hq
   ·exact d.all q hq
   ·have:q=p:=by simpa using hq
    rw[this];exact hm
  ·rw[pm.length_eq,ah];have:=d.len;lia
 ·have pm:=h2 hm;refine⟨fun q hq=>?_,fun q hq=>?_,?_⟩
  ·rcases Ω.mp (pm.mem_iff.mp hq) with e|e
   ·exact bG _ (by simp[e])
   ·exact fm _ (d.sub q e)
  ·rw[(pm.map _).mem_iff,aC];rcases cA.mp hq with hq|hq
   ·exact Γ _ (d.all q hq)
   ·have:q=p:=by simpa using hq
    rw[this];exact aa
  ·rw[pm.length_eq,ah,az,gk];have:=d.len;lia
theorem UN{I:ζ}{fp:List ζ}{n:Nat}{P:Nat->ε->Prop}{St:Nat->Ψ->Prop}(W:Walks prog w A.in1 I fp [I] n P St)(S:ζ)(hSf:S∉fp)(ps:List (List Int×ζ))(hps:ps.length=n)(hn:n≤60)
  (hu:A.in1.units<cLine) (hval:∀(i:Nat) v,P i v->∃p,ps[i]?=some p/\v=.ref p.2) (hpf:∀p∈ps,p.2≠I/\p.2≠S) {R:Result->θ->Prop}:
  ∀(k i:Nat) (s:θ) (xs:List (List Int×ζ)),n-i=k->i≤n->St i s.heap->nM prog w s.heap S xs->xk (ps.take i) xs->(∀p∈ps,jk prog w s.heap p.1 p.2) ->
   (∀h' tk xs',(∀b ob,b≠S->b≠I->s.heap.get? b=some ob->h'.get? b=some ob)->nM prog w h' S xs'->xk ps xs'->R (.ok (.ret .none)) { s with heap:=h',toks:=tk }) ->
   iL (model prog w) A (.builtin "set.update.loop" ⟨[.ref S,.ref I],[]⟩) R s:=by
 have hSI:S≠I:=fun e=>hSf (W.sub _ (by rw[e];simp));have on_kept:∀{h h':Ψ} {xs:List (List Int×ζ)},nM prog w h S xs->(∀p∈xs,p∈ps)->(∀b ob,b≠I->h.get? b=some ob->h'.get? b=some ob)->nM prog w h' S xs:=fun {h h' xs} ⟨o,es,ep,t,q,T⟩ sub kp=>
  ⟨o,es,ep,t,q.kept fun b hb ob e=>kp b ob (by
   rcases Ω.mp hb with z|z
   ·rw[z];exact hSI
   ·obtain⟨p,hp,rfl⟩:=aT.mp z;exact (hpf p (sub p hp)).1) e,T⟩
 intro k
 induction k with
 |zero=>
  intro i s xs hk hi hst hS hd hkeys hR;have hin:i=n:=by lia
  subst hin;refine ij j9 ?_;rw[gI fX _];show ρ _ A.in1 (pyNext (.ref I) >>= _) _ _ s;refine δ (W.done s _ _ hst fun h' tk kp=>?_);show ρ _ A.in1 (ret aX) _ _ _;have hd':xk ps xs:=by
   rw[←hps,qx] at hd;exact hd
  exact μ (hR h' tk xs (fun b ob _ hb e=>kp b ob (by simpa using hb) e) (on_kept hS hd'.sub fun b ob hb e=>kp b ob (by simpa using hb) e) hd')
 |succ k ih=>
  intro i s xs hk hi hst hS hd hkeys hR;have hlt:i<n:=by lia
  refine ij j9 ?_;rw[gI fX _];show ρ _ A.in1 (pyNext (.ref I) >>= _) _ _ s;refine δ (W.item i s _ _ hlt hst fun v h1 tk1 hP hst1 kp1=>?_);obtain⟨p,hp,rfl⟩:=hval i v hP;have hpm:p∈ps:=bF hp;have kp1':∀b ob,b≠I->s.heap.get? b=some ob->h1.get? b=some ob:=fun b ob hb e=>kp1 b ob (by simpa using hb) e;have key1:∀q∈ps,jk prog w h1 q.1 q.2:=fun q hq=>by
   obtain⟨oy,items,m,ho,r⟩:=hkeys q hq;exact⟨oy,items,m,kp1' _ _ (hpf q hq).1 ho,r⟩
  have sub0:∀q∈xs,q∈ps:=fun q hq=>mI (hd.sub q hq);have hS1:=on_kept hS sub0 kp1';show ρ _ A.in1 (holding [aF p.2] (setAdd S (.ref p.2)) >>= _) _ _ _;have hlen:xs.length<64:=by
   have h1:=hd.len;rw[eP] at h1;lia
  refine δ (bK (Uk (s:={ s with heap:=h1,toks:=tk1 }) hS1 hlen hu (key1 p hpm) fun b h2 tk2 xs2 _ sb hS2 q1 q2=>?_));have hd2:xk (ps.take (i+1)) xs2:=by
   rw[List.take_add_one,hp];exact hd.add q1 q2
  obtain⟨oS,_,_,_,SS,_⟩:=hS1;refine μ ⟨oM fX _,ih (i+1) _ xs2 (by lia) hlt (W.frame _ _ _ hst1 fun c hc ob e=>(sb.2 c (fun z=>hSf (z▸hc))).trans e) hS2 hd2 (fun q hq=>A0 SS.at_ SS.dat sb (key1 q hq)) fun h' tk xs' kp' a1 a2=>?_⟩;exact hR h' tk xs' (fun c ob c1 c2 e=>kp' c ob c1 c2 ((sb.2 c c1).trans (kp1' c ob c2 e))) a1 a2
set_option maxHeartbeats 6400000 in
theorem yn{l:ζ}{vs:List ε}{ps:List (List Int×ζ)}{Q:ε->θ->Prop}(hh:A.handled=none)(hl:s.heap.IsList l vs.toArray)(hv:vs=ps.map fun p=>aF p.2)(hk:∀p∈ps,jk prog w s.heap p.1 p.2)(hn:ps.length≤60)
  (hu:A.units+4<cLine)
  (h:∀h' tk xs,(∀b ob,s.heap.get? b=some ob->h'.get? b=some ob)->nM prog w h' s.heap.objs.size xs->xk ps xs->Q (.ref s.heap.objs.size) { s with heap:=h',toks:=tk }):
  ρ (model prog w) A (call (.type "set") [.ref l]) Q E s:=by
 obtain⟨c,tl,hmro⟩:=F.called_set.mro;have hmade:=F.called_set.made;have hsub:=F.called_set.sub;refine i8 (qQ ?_);show ρ _ _ (callAny (.type "set") _) _ _ _;refine μ ⟨oz _ (by decide +kernel),ij F.entry_type_call ?_⟩;rw[aJ.under_plain (weight_type_call_type "set" [.ref l] []) rfl];have h1:=F.called_set.notType;have h2:=F.called_set.canCreate;have hct:=F.typeCall_set_1 (.ref l)
 repeat (any_goals (first|assumption|wp_step))
 refine fV (Uc (.ref l) (E:=E) (Q₁:=fun obj s₁=>obj=.ref s.heap.objs.size/\s₁={ s with heap:=s.heap.push (gO w)}) ⟨rfl,rfl⟩) fun r s₁ hr=>?_;cases r with
 |error e=>exact hr
 |ok fl=>
  cases fl with
  |ret obj=>
   obtain⟨rfl,rfl⟩:=hr;have hS:(s.heap.push (gO w)).get? s.heap.objs.size=some (gO w):=ae _ rfl;have hT:lD { s with heap:=s.heap.push (gO w)} (.ref s.heap.objs.size) "set":=⟨_,hS,rfl⟩;have hli:=F.called_set.init.lookup;have hbi:=F.called_set.init.bind (.ref s.heap.objs.size)
   repeat (any_goals (first|assumption|wp_step))
   refine fV (mD (R:=wants (fun r s₂=>r=.none/\∃h' tk xs,s₂={ s with heap:=h',toks:=tk }/\(∀b ob,s.heap.get? b=some ob->h'.get? b=some ob)/\nM prog w h' s.heap.objs.size xs/\xk ps xs) E)
    F.called_set.init.plain F.entry_set_init (check_set_init_1 hT ?_)) fun r₂ s₂ hr₂=>?_
   ·obtain⟨ol,hol,hcl,nl,hdl⟩:=hl;obtain⟨ocls,odict,odata,oslots⟩:=ol;simp only at hcl hdl;subst hcl;subst hdl;have hol':(s.heap.push (gO w)).get? l=some { cls:=.type "list",dict:=odict,data:=.seq vs.toArray nl,slots:=oslots }:=ι _ hol;have hsls:=F.sub_list_set;have hslf:=F.sub_list_frozenset;have cK:(tG "list" == tG "dict")=false:=by decide
    have hl1:(s.heap.push (gO w)).IsList l vs.toArray:=⟨_,hol',rfl,nl,rfl⟩;have hS2:(s.heap.push (gO w)).get? s.heap.objs.size=some { cls:=.type "set",dict:=none,data:=.set #[] 0 (.fresh 0 0 (!(kY w)))}:=hS;unfold di.«set.__init__» noKeywords di.Frozenset.updateFrom;generalize hPI:pyIter=PI;wp_walk;subst hPI;refine fw hl1 ?_;refine δ (wpAny_runValue ?_);have hlS:l<s.heap.objs.size:=Θ hol;have hh3:A.in1.in1.in1.handled=none:=by simp[hh]
    have hu3:A.in1.in1.in1.units<cLine:=by
     show A.units+1+1+1<cLine;lia
    have hsz:(s.heap.push (gO w)).objs.size=s.heap.objs.size+1:=dN ..;have hneI:l≠(s.heap.push (gO w)).objs.size:=by
     rw[hsz];exact bf (iC hlS)
    have hSf:s.heap.objs.size∉[(s.heap.push (gO w)).objs.size,l]:=by
     rw[hsz];intro z;rcases Ω.mp z with z|z
     ·exact absurd z (bf (lM _))
     ·have:s.heap.objs.size=l:=by simpa using z
      exact absurd this (dS hlS)
    have hlen:vs.toArray.size=ps.length:=by rw[hv];simp
    refine UN (Walks.list hh3 _ l hneI vs.toArray) s.heap.objs.size hSf ps hlen.symm (by rw[hlen];exact hn) hu3 (fun i v e=>?_) (fun p hp=>?_) (vs.toArray.size-0) 0 _ [] rfl (aI _)
     ⟨⟨_,ae _ rfl,rfl,rfl⟩,hl1.push _⟩ ?hS0 ⟨(fun p hp=>(nomatch hp)),(fun p hp=>by rw[List.take_zero] at hp;cases hp),aI _⟩ (fun p hp=>?_) ?hR
    case hS0=>
     refine⟨_,#[],0,_,⟨ι _ hS2,⟨rfl,rfl,rfl⟩,rfl,rfl,(fun p hp=>(nomatch hp)),kz,rfl,rfl⟩,Ub _⟩
    case hR=>
     intro h' tk xs q1 q2 q3;refine μ ?_;show ρ _ _ (ret aX) _ _ _;refine μ ⟨rfl,h',tk,xs,rfl,fun b ob e=>?_,q2,q3⟩;have hb:=Θ e;refine q1 b ob (bf hb) ?_ (ι _ (ι _ e));rw[hsz];exact bf (iC hb)
    ·rw[hv,List.getElem?_toArray,aK] at e;cases hp:ps[i]? with
     |none=>rw[hp] at e;cases e
     |some p=>rw[hp] at e;exact⟨p,rfl,(aO e).symm⟩
    ·obtain⟨oy,_,_,ho,_⟩:=hk p hp;have hb:=Θ ho;rw[hsz];exact⟨bf (iC hb),bf hb⟩
    ·obtain⟨oy,items,m,ho,r⟩:=hk p hp;exact⟨oy,items,m,ι _ (ι _ ho),r⟩
   ·cases r₂ with
    |error e=>exact hr₂
    |ok fl₂=>
     cases fl₂ with
     |ret r=>
      obtain⟨rfl,h',tk,xs,rfl,q1,q2,q3⟩:=hr₂
      repeat (any_goals (first|assumption|wp_step))
      exact h _ _ _ q1 q2 q3
     |_=>exact hr₂.elim
  |_=>exact hr.elim
end
end j0
namespace tu
open PySem PySem.W PyProof.Rows j0 M9
def lx:List Int->List Int->Bool
 |[],[]=>false
 |[],_::_=>true
 |_::_,[]=>false
 |x::xs,y::ys=>if x=y then lx xs ys else decide (x<y)
theorem K4:∀{x y:List Int},lx x y=true->lx y x=false
 |[],[],h=>by cases h
 |[],_::_,_=>rfl
 |_::_,[],h=>by cases h
 |x::xs,y::ys,h=>by
  unfold lx at h ⊢;by_cases e:x=y
  ·rw[if_pos e] at h;rw[if_pos e.symm];exact K4 h
  ·rw[if_neg e] at h;rw[if_neg (dy e)];have:=of_decide_eq_true h;exact decide_eq_false (by lia)
theorem K3:∀{a b c:List Int},lx b a=false->lx c b=false->lx c a=false
 |[],b,[],_,_=>rfl
 |[],[],c::cs,_,h=>h
 |[],b::bs,c::cs,h,_=>rfl
 |a::as,[],c,h,_=>by cases h
 |a::as,b::bs,[],_,h=>by cases h
 |a::as,b::bs,c::cs,h1,h2=>by
  unfold lx at h1 h2 ⊢;by_cases e1:b=a
  ·rw[if_pos e1] at h1;by_cases e2:c=b
   ·rw[if_pos e2] at h2;rw[if_pos (e2.trans e1)];exact K3 h1 h2
   ·rw[if_neg e2] at h2;have:=of_decide_eq_false h2;by_cases e3:c=a
    ·lia
    ·rw[if_neg e3];exact decide_eq_false (by lia)
  ·rw[if_neg e1] at h1;have:=of_decide_eq_false h1;by_cases e2:c=b
   ·rw[if_neg (by lia)];exact decide_eq_false (by lia)
   ·rw[if_neg e2] at h2;have:=of_decide_eq_false h2;by_cases e3:c=a
    ·lia
    ·rw[if_neg e3];exact decide_eq_false (by lia)
section
variable {prog:ag} {w:av} {A:aJ} {E:ε->θ->Prop} {s:θ}
theorem UM{Q:Bool->θ->Prop}:∀(xs ys:List Int) (us vs:List ε) (i:Nat) (fin:Bool),ItemsAre (intKind prog w) xs us->ItemsAre (intKind prog w) ys vs ->
  (fin=decide (us.length<vs.length)∨∃n m,fin=decide (n+us.length<n+vs.length)/\m=n)->Q (lx xs ys) s->KatLex prog w A true fin Q (us.zip vs) i s:=by
 intro xs
 induction xs with
 |nil=>
  intro ys us vs i fin h1 h2 hf h;cases h1;cases h2 with
  |nil=>
   have:fin=false:=by
    rcases hf with hf|⟨n,m,hf,_⟩<;>simp at hf<;>exact hf
   rw[this];exact kat_nil h
  |cons h3 h4=>
   have:fin=true:=by
    rcases hf with hf|⟨n,m,hf,_⟩<;>rw[hf]<;>simp
   rw[this];exact kat_nil h
 |cons x xs ih=>
  intro ys us vs i fin h1 h2 hf h;cases h1 with
  |cons h1 h1'=>
  cases h2 with
  |nil=>
   have:fin=false:=by
    rcases hf with hf|⟨n,m,hf,_⟩<;>rw[hf]<;>simp
   rw[this];exact kat_nil h
  |cons h3 h4=>
   obtain⟨t,rfl⟩:=iB h1;obtain⟨t',rfl⟩:=iB h3;refine kat_cons (wpAny_eqBool_int ?_);unfold lx at h;rename_i _ y ys _;by_cases e:x=y
   ·rw[if_pos e] at h;have:(x==y)=true:=by simpa using e
    rw[this];refine kat_yes (ih ys _ _ (i+1) fin h1' h4 (.inr ?_) h);rcases hf with hf|⟨n,m,hf,_⟩
    ·exact⟨1,1,by rw[hf];simp[Nat.add_comm],rfl⟩
    ·exact⟨n+1,n+1,by rw[hf];congr 1;simp only[az];apply propext;lia,rfl⟩
   ·rw[if_neg e] at h;have:(x==y)=false:=by simpa using e
    rw[this];refine kat_no ?_;by_cases hi:i=0
    ·subst hi;exact oneLt_int h
    ·have hb:(true&&i==0)=false:=by simp[hi]
     rw[hb];exact kat_one _ _ (lt_int h)
theorem UL{Q:Bool->θ->Prop}{x y:List Int}{a b:ζ}(hx:jk prog w s.heap x a)(hy:jk prog w s.heap y b)(h:Q (lx x y) s):ρ (model prog w) A (keyLt' (tuples' true) (.ref a) (.ref b)) Q E s:=by
 obtain⟨o,its,n,ho,_,hd,hi⟩:=hx;obtain⟨o',its',n',ho',_,hd',hi'⟩:=hy;exact kat_lt ho hd ho' hd' (UM x y its.toList its'.toList 0 _ hi hi' (.inl (by simp)) h)
def wU{α:Type}(lt:α->α->Bool)(d:α)(ps:List α)(i j:Nat):Bool:=lt (ps.getD i d) (ps.getD j d)
structure CI{α:Type}(lt:α->α->Bool):Prop where
 An:∀x y,lt x y=true->lt y x=false
 vL:∀x y z,lt y x=false->lt z y=false->lt z x=false
theorem UK{α:Type}{lt:α->α->Bool}(O:CI lt)(d:α)(ps:List α)(n:Nat):Ord n (wU lt d ps):=⟨fun a b _ _ h=>O.An _ _ h,fun a b c _ _ _ h1 h2=>O.vL _ _ _ h1 h2⟩
abbrev MK(x y:List Int×ζ):Bool:=lx x.1 y.1
abbrev fT(p:List Int×ζ):ε:=.ref p.2
theorem aaB:CI MK:=⟨fun _ _ h=>K4 h,fun _ _ _ h1 h2=>K3 h1 h2⟩
def aa0(n:Nat)(lt:Nat->Nat->Bool)(i j:Nat)(C:Bool->θ->Prop)(s:θ):Prop:=i<n/\j<n/\C (lt i j) s
theorem conv{α:Type}{n:Nat}{lt:Nat->Nat->Bool}{κ:qp}{vs:List ε}{Q:α->θ->Prop}(ha:∀i j,i<n->j<n->∀C:Bool->θ->Prop,C (lt i j) s->nB prog w A κ vs i j C s):
  ∀t:KasT α,t.kasWp (aa0 n lt) Q s->t.kasWp (nB prog w A κ vs) Q s
 |.ret a,h=>h
 |.ask i j k,h=>by
  obtain⟨h1,h2,h3⟩:=h;exact ha i j h1 h2 _ (conv ha (k (lt i j)) h3)
theorem EN{α:Type}{f:α->ε}{d:α}{ps:List α}{i:Nat}(hi:i<ps.length):(ps.map f).getD i aX=f (ps.getD i d):=by
 simp[qT,hi]
theorem getD_mem{ps:List (List Int×ζ)}{i:Nat}(hi:i<ps.length):ps.getD i ([],0)∈ps:=by
 simp[qT,hi]
theorem UJ{ps:List (List Int×ζ)}(hk:∀p∈ps,jk prog w s.heap p.1 p.2):∀i j,i<ps.length->j<ps.length->∀C:Bool->θ->Prop,C (wU MK ([],0) ps i j) s->nB prog w A (tuples' true) (ps.map fT) i j C s:=fun i j hi hj C h=>by
 unfold nB;rw[EN (d:=([],0)) hi,EN (d:=([],0)) hj];exact UL (hk _ (getD_mem hi)) (hk _ (getD_mem hj)) h
theorem K0{h:Ψ}:∀{ps:List (List Int×ζ)},(∀p∈ps,jk prog w h p.1 p.2/\p.1≠[])->∃fs,KatTups h (ps.map fun p=>aF p.2) fs/\fs.length=ps.length/\∀v∈fs,∃i t,v=.int i t
 |[],_=>⟨[],.nil,rfl,fun v hv=>nomatch hv⟩
 |p::ps,hk=>by
  obtain⟨fs,h1,h2,h3⟩:=K0 (ps:=ps) fun q hq=>hk q (Γ _ hq);obtain⟨⟨o,its,n,ho,hc,hd,hi⟩,cK⟩:=hk p aa;obtain⟨ks,a⟩:=p;cases ks with
  |nil=>exact absurd rfl cK
  |cons k ks=>
   obtain⟨its⟩:=its;cases hi with
   |cons h4 h5=>
    rename_i v vs;obtain⟨t,e⟩:=iB h4;refine⟨v::fs,KatTups.cons ho hc hd (by simp) h1,by simp[h2],fun u hu=>?_⟩;rcases Ω.mp hu with q|q
    ·exact⟨k,t,q.trans e⟩
    ·exact h3 u q
theorem UI{ps:List (List Int×ζ)}(cK:ps≠[])(hk:∀p∈ps,jk prog w s.heap p.1 p.2/\p.1≠[]){Q:qp->θ->Prop}(h:Q (tuples' true) s):ρ (model prog w) A (keyKind' (ps.map fT).toArray) Q E s:=by
 obtain⟨fs,h1,h2,h3⟩:=K0 hk;have hl:0<fs.length:=by
  rw[h2];exact uc.mpr cK
 refine kat_kind (T:=.type "int") h1 hl (fun v hv=>?_) rfl h;obtain⟨i,t,rfl⟩:=h3 v hv;exact .now
structure yd{α:Type}(lt:α->α->Bool)(ps qs:List α):Prop where
 perm:qs.Perm ps
 rise:qs.Pairwise fun x y=>lt y x=false
abbrev Ov(ps qs:List (List Int×ζ)):Prop:=yd MK ps qs
theorem UH{α:Type}{lt:α->α->Bool}{d:α}{ps:List α}{p:Array Nat}(v:Va ps.length p)(S:So (wU lt d ps) p ps.length):yd lt ps (p.toList.map fun i=>ps.getD i d):=by
 refine⟨?_,?_⟩
 ·refine (v.perm.map _).trans ?_;have:(ar ps.length).map (fun i=>ps.getD i d)=ps:=by
   refine List.ext_getElem? fun i=>?_;by_cases hi:i<ps.length
   ·simp[aK,m3 hi,qT,hi]
   ·rw[dh.mpr (by simpa using hi),dh.mpr (by lia)]
  rw[this]
 ·rw[gy,gE];intro i j hi hj hij;have hs:=v.size;have h1:i<ps.length:=by rw[←hs];simpa using hi
  have h2:j<ps.length:=by rw[←hs];simpa using hj
  have e1:p.toList[i]=g p i:=by
   have:=v.get h1;simp[g,mR,hs,h1]
  have e2:p.toList[j]=g p j:=by simp[g,mR,hs,h2]
  rw[e1,e2];exact S i j (qu hij) h2
theorem UG{α:Type}{f:α->ε}{d:α}{ps:List α}{p:Array Nat}(v:Va ps.length p):(p.toList.map fun i=>(ps.map f).getD i aX)=(p.toList.map fun i=>ps.getD i d).map f:=by
 rw[cy];refine cT fun i hi=>?_;have:i<ps.length:=by
  have:=v.perm.mem_iff.mp hi;simpa using this
 exact EN this
theorem UE{α:Type}{lt:α->α->Bool}{f:α->ε}{d:α}{κ:qp}(O:CI lt){a:ζ}{n:Nat}{ps:List α}{P:PySem.Fin->θ->Prop}(ho:s.heap.get? a=some (seqObj "list" (ps.map f).toArray n))
  (hk:∀h',(∀b o,b≠a->s.heap.get? b=some o->h'.get? b=some o)->(∀(Q:qp->θ->Prop) (E':ε->θ->Prop),Q κ { s with heap:=h' }->ρ (model prog w) A (keyKind' (ps.map f).toArray) Q E' { s with heap:=h' }) ∧
   ∀i j,i<ps.length->j<ps.length->∀C:Bool->θ->Prop,C (wU lt d ps i j) { s with heap:=h' }->nB prog w A κ (ps.map f) i j C { s with heap:=h' }) (h2:2≤ps.length) (h64:ps.length<64)
  (h:∀qs h' c,yd lt ps qs->h'.get? a=some (seqObj "list" (qs.map f).toArray c)->(∀b o,b≠a->s.heap.get? b=some o->h'.get? b=some o)->P (.done (.ret .none)) { s with heap:=h' }):
  ρ (model prog w) A (di.«list.sort» ⟨[.ref a],[]⟩) P E s:=by
 have ha:a<s.heap.objs.size:=Θ ho;have s1:=dm s.heap a (bx fun _=>(#[]:Array ε));obtain⟨e1,ho1⟩:∃e1,(s.heap.update a (bx fun _=>(#[]:Array ε))).get? a=some (seqObj "list" #[] e1):=⟨_,mC ho fun _=>#[]⟩;generalize hvs:(ps.map f)=vs at ho;have hlen:vs.length=ps.length:=by rw[←hvs,π]
 have hu3:∀b o,b≠a->s.heap.get? b=some o->(((s.heap.update a (bx fun _=>(#[]:Array ε))).push (seqObj "tuple" vs.toArray 0)).push (seqObj "list" #[] 0)).get? b=some o:=fun b o hb e=>
  ι _ (ι _ ((s1.2 b hb).trans e))
 have ho3:(((s.heap.update a (bx fun _=>(#[]:Array ε))).push (seqObj "tuple" vs.toArray 0)).push (seqObj "list" #[] 0)).get? a=some (seqObj "list" #[] e1):=ι _ (ι _ ho1);rw[list_sort_plain];refine δ (listItems_at ho rfl ?_);refine δ (oN ho rfl ?_ (by rw[ψ,cq];lia) (aI _));refine δ (rF ho1 rfl ?_);refine δ (nA ?_ (by show vs.length≤_;rw[cq];lia));refine δ (tR ?_ (aI _));refine bK ?_;show ρ (model prog w) A _ P E { s with heap:=((s.heap.update a (bx fun _=>(#[]:Array ε))).push (seqObj "tuple" vs.toArray 0)).push (seqObj "list" #[] 0)};generalize ((s.heap.update a (bx fun _=>(#[]:Array ε))).push (seqObj "tuple" vs.toArray 0)).push (seqObj "list" #[] 0)=h3 at hu3 ho3 ⊢;obtain⟨hk1,hk2⟩:=hk h3 hu3;dsimp only;have hn2:¬vs.toArray.size<2:=by rw[ψ];lia
 rw[if_neg hn2,if_neg hn2];refine δ ?_;rw[←hvs];refine hk1 _ _ ?_;have hsort:(kas_sort vs.length).kasWp (nB prog w A κ (ps.map f)) (fun p s'=>s'={ s with heap:=h3 }/\Va ps.length p/\So (wU lt d ps) p ps.length) { s with heap:=h3 }:=by
  refine conv (lt:=wU lt d ps) (n:=ps.length) hk2 _ ?_
  rw[hlen];exact Vi (UK O d ps ps.length) (fun i j hi hj C s' hC=>⟨hi,hj,hC⟩) (by lia) fun p v S=>⟨rfl,v,S⟩
 have hsort:(kas_sort (ps.map f).length).kasWp (nB prog w A κ (ps.map f)) (fun p s'=>s'={ s with heap:=h3 }/\Va ps.length p/\So (wU lt d ps) p ps.length) { s with heap:=h3 }:=by
  rw[hlen] at hsort;rw[π];exact hsort
 refine δ (cS (kat_run (Q:=fun st' s'=>∃p:Array Nat,p.size=(ps.map f).length/\arrOf st'=p.map (kas_item ((ps.map f).toArray.zip (ps.map f).toArray))/\failedOf st'=none/\s'={ s with heap:=h3 }/\Va ps.length p/\So (wU lt d ps) p ps.length)
  rfl (by rw[π];exact h2) (by rw[π];exact h64) (fun p' st' s' a1 a2 a3 a4=>⟨p',a1,a2,a3,a4⟩) hsort) ?_ fun _ _ e=>e)
 rintro⟨⟨⟩,st'⟩ s' ⟨p,hp,har,hf,rfl,va,so⟩;dsimp only;have hout:=kat_snds rfl har;rw[UG va] at hout;have hS:=UH va so;generalize (p.toList.map fun i=>ps.getD i d)=qs at hout hS;have hsz:(kg (qs.map f)).size=ps.length:=by rw[ψ,π,hS.perm.length_eq]
 rw[hout];have s2:=dm h3 a (bx fun _=>kg (qs.map f));obtain⟨c2,hc2⟩:∃c2,(h3.update a (bx fun _=>kg (qs.map f))).get? a=some (seqObj "list" (kg (qs.map f)) c2):=⟨_,mC ho3 fun _=>kg (qs.map f)⟩;refine δ (rF ho3 rfl ?_);refine δ (oN ho3 rfl ?_ (aI _) (aD (Nat.le_of_eq hsz) (by rw[cq];lia)));rw[hf];simp only[bne_self_eq_false,dF,if_false];exact μ (h qs _ c2 hS hc2 fun b o hb e=>(s2.2 b hb).trans (hu3 b o hb e))
theorem UD{a:ζ}{n:Nat}{vs:List ε}{P:PySem.Fin->θ->Prop}(ho:s.heap.get? a=some (seqObj "list" vs.toArray n))(h2:vs.length<2)
  (h:∀h' c,h'.get? a=some (seqObj "list" vs.toArray c)->(∀b o,b≠a->s.heap.get? b=some o->h'.get? b=some o)->P (.done (.ret .none)) { s with heap:=h' }):
  ρ (model prog w) A (di.«list.sort» ⟨[.ref a],[]⟩) P E s:=by
 have s1:=dm s.heap a (bx fun _=>(#[]:Array ε));obtain⟨e1,ho1⟩:∃e1,(s.heap.update a (bx fun _=>(#[]:Array ε))).get? a=some (seqObj "list" #[] e1):=⟨_,mC ho fun _=>#[]⟩;have hu3:∀b o,b≠a->s.heap.get? b=some o->(((s.heap.update a (bx fun _=>(#[]:Array ε))).push (seqObj "tuple" vs.toArray 0)).push (seqObj "list" #[] 0)).get? b=some o:=fun b o hb e=>
  ι _ (ι _ ((s1.2 b hb).trans e))
 have ho3:(((s.heap.update a (bx fun _=>(#[]:Array ε))).push (seqObj "tuple" vs.toArray 0)).push (seqObj "list" #[] 0)).get? a=some (seqObj "list" #[] e1):=ι _ (ι _ ho1);rw[list_sort_plain];refine δ (listItems_at ho rfl ?_);refine δ (oN ho rfl ?_ (by rw[ψ,cq];lia) (aI _));refine δ (rF ho1 rfl ?_);refine δ (nA ?_ (by show vs.length≤_;rw[cq];lia));refine δ (tR ?_ (aI _));refine bK ?_;show ρ (model prog w) A _ P E { s with heap:=((s.heap.update a (bx fun _=>(#[]:Array ε))).push (seqObj "tuple" vs.toArray 0)).push (seqObj "list" #[] 0)};generalize ((s.heap.update a (bx fun _=>(#[]:Array ε))).push (seqObj "tuple" vs.toArray 0)).push (seqObj "list" #[] 0)=h3 at hu3 ho3 ⊢;dsimp only;have hn2:vs.toArray.size<2:=by rw[ψ];lia
 rw[if_pos hn2,if_pos hn2];refine δ (μ ?_);rw[StateT.run_pure];refine δ (μ ?_);dsimp only;have hout:(arrOf (SortSt.mk' general' (vs.toArray.zip vs.toArray) #[] 7 none)).map (·.2)=vs.toArray:=by
  show (vs.toArray.zip vs.toArray).map (·.2)=vs.toArray;refine Array.ext (by simp) fun i h1 h2=>?_;simp
 rw[hout];have s2:=dm h3 a (bx fun _=>vs.toArray);obtain⟨c2,hc2⟩:∃c2,(h3.update a (bx fun _=>vs.toArray)).get? a=some (seqObj "list" vs.toArray c2):=⟨_,mC ho3 fun _=>vs.toArray⟩;refine δ (rF ho3 rfl ?_);refine δ (oN ho3 rfl ?_ (aI _) (by rw[ψ,cq];lia));simp only[bne_self_eq_false,dF,if_false];exact μ (h _ c2 hc2 fun b o hb e=>(s2.2 b hb).trans (hu3 b o hb e))
theorem TV{h h':Ψ}{ks:List Int}{a:ζ}(keep:∀c o,h.get? c=some o->h'.get? c=some o)(hk:jk prog w h ks a):jk prog w h' ks a:=by
 obtain⟨o,it,m,ho,r⟩:=hk;exact⟨o,it,m,keep a o ho,r⟩
theorem TU{α:Type}{lt:α->α->Bool}{f:α->ε}{d:α}{κ:qp}(O:CI lt){l:ζ}{ps:List α}{Q:ε->θ->Prop}
  (hk:∀s':θ,2≤ps.length->(∀b o,s.heap.get? b=some o->s'.heap.get? b=some o)->(∀(Q:qp->θ->Prop) (E':ε->θ->Prop),Q κ s'->ρ (model prog w) A.in1.in1 (keyKind' (ps.map f).toArray) Q E' s') ∧
   ∀i j,i<ps.length->j<ps.length->∀C:Bool->θ->Prop,C (wU lt d ps i j) s'->nB prog w A.in1.in1 κ (ps.map f) i j C s') (h64:ps.length<64)
  (FE:∀(R:List ε->θ->Prop),(∀s',Moved [] (fun x y=>y=x) s s'->R (ps.map f) s')->ρ (model prog w) A.in1 (collect (.ref l)) R E s)
  (h:∀qs s' c D,yd lt ps qs->s.heap.get? D=none->s'.heap.get? D=some (seqObj "list" (qs.map f).toArray c)->Moved [] (fun x y=>y=x) s s'->Q (.ref D) s'):
  ρ (model prog w) A (call (.builtin "sorted") [.ref l]) Q E s:=by
 refine Calls.call_function_entry kind_sorted plain_sorted entry_sorted (args_sorted1 _) ?_;unfold di.«sorted»;refine δ (m:=checkCount "sorted" 1 1 _) (μ ?_);refine δ (FE _ fun s1 hm=>?_);refine δ (tR ?_ (by rw[π,cq];lia));have hoL:(s1.heap.push (seqObj "list" (ps.map f).toArray 0)).get? s1.heap.objs.size=some (seqObj "list" (ps.map f).toArray 0):=ae _ rfl;have keep0:∀b o,s.heap.get? b=some o->s1.heap.get? b=some o:=fun b o e=>hm.heap b o (fun z=>nomatch z) e;have mj:s.heap.get? s1.heap.objs.size=none:=by
  cases hz:s.heap.get? s1.heap.objs.size with
  |none=>rfl
  |some o=>exact absurd (Θ (keep0 _ _ hz)) (cE _)
 have keep:∀b o,s.heap.get? b=some o->(s1.heap.push (seqObj "list" (ps.map f).toArray 0)).get? b=some o:=fun b o e=>ι _ (keep0 b o e);show ρ _ _ _ _ _ { s1 with heap:=s1.heap.push (seqObj "list" (ps.map f).toArray 0)};refine δ (bK (bU slot_list_sort ⟨_,hoL,rfl⟩ entry_list_sort ?body (args_list_sort _)));have fin:∀qs h' c,yd lt ps qs->h'.get? s1.heap.objs.size=some (seqObj "list" (qs.map f).toArray c)->(∀b o,b≠s1.heap.objs.size->(s1.heap.push (seqObj "list" (ps.map f).toArray 0)).get? b=some o->h'.get? b=some o)->Q (.ref s1.heap.objs.size) { s1 with heap:=h' }:=fun qs h' c hS e kk=>
  h qs _ c _ hS mj e ⟨fun b o _ e1=>kk b o (bf (Θ (keep0 b o e1))) (keep b o e1),hm.gens,hm.drawn,hm.os,hm.toks⟩
 case body=>
  by_cases h2:2≤ps.length
  ·refine UE O (s:={ s1 with heap:=s1.heap.push (seqObj "list" (ps.map f).toArray 0)}) hoL (fun h' kk=>hk { s1 with heap:=h' } h2 fun b o e=>kk b o (bf (Θ (keep0 b o e))) (keep b o e)) h2 h64 fun qs h' c hS e kk=>?_;exact⟨_,rfl,μ ⟨_,rfl,fin qs h' c hS e kk⟩⟩
  ·refine UD (s:={ s1 with heap:=s1.heap.push (seqObj "list" (ps.map f).toArray 0)}) hoL (by rw[π];lia) fun h' c e kk=>?_;have hS:yd lt ps ps:=⟨.refl _,by
    rcases ps with _|⟨x,_|⟨y,r⟩⟩
    ·exact .nil
    ·exact List.pairwise_singleton _ _
    ·simp at h2⟩
   exact⟨_,rfl,μ ⟨_,rfl,fin ps h' c hS e kk⟩⟩
theorem yg{l:ζ}{ps:List (List Int×ζ)}{Q:ε->θ->Prop}(hk:∀p∈ps,jk prog w s.heap p.1 p.2/\p.1≠[])(h64:ps.length<64)
  (FE:∀(R:List ε->θ->Prop),(∀s',Moved [] (fun x y=>y=x) s s'->R (ps.map fT) s')->ρ (model prog w) A.in1 (collect (.ref l)) R E s)
  (h:∀qs s' c D,Ov ps qs->s.heap.get? D=none->s'.heap.get? D=some (seqObj "list" (qs.map fT).toArray c)->Moved [] (fun x y=>y=x) s s'->Q (.ref D) s'):
  ρ (model prog w) A (call (.builtin "sorted") [.ref l]) Q E s:=by
 refine TU (κ:=tuples' true) (d:=([],0)) aaB (fun s' h2 kk=>?_) h64 FE h;have hk':∀p∈ps,jk prog w s'.heap p.1 p.2/\p.1≠[]:=fun p hp=>⟨TV kk (hk p hp).1,(hk p hp).2⟩;exact⟨fun Q E q=>UI (fun z=>by rw[z] at h2;simp at h2) hk' q,UJ fun p hp=>(hk' p hp).1⟩
end
end tu
namespace L3
open PySem PySem.Spec PyProof.Rows L2
structure Dz(T:String):Prop where
 aB:∀K,ω K (.type "NoneType") (.type T)=some false
 bl:∀K,ω K (.type "bool") (.type T)=some (T=="bool" || T=="int")
 int:∀K,ω K (.type "int") (.type T)=some (T=="int")
 str:∀K,ω K (.type "str") (.type T)=some (T=="str")
 tup:∀K,ω K (.type "tuple") (.type T)=some (T=="tuple")
 lst:∀K,ω K (.type "list") (.type T)=some (T=="list")
 ji:∀K,ω K (.type "dict") (.type T)=some (T=="dict")
theorem KZ:Dz "int":=⟨fun _=>rfl,fun _=>rfl,fun _=>rfl,fun _=>rfl,fun _=>rfl,fun _=>rfl,fun _=>rfl⟩
theorem KY:Dz "bool":=⟨fun _=>rfl,fun _=>rfl,fun _=>rfl,fun _=>rfl,fun _=>rfl,fun _=>rfl,fun _=>rfl⟩
section
variable {X:Cx} {a e:υ} {es:List υ} {ta:aQ} {t:dB} {pos p p2:aN}
theorem TQ{T:String}(k:Dz T):ku X (.builtin "isinstance") (fun vs H Q=>∃d v G b,vs=[v,.ty T]/\Hv X.K H d v/\aV X.K G H/\qN T G d=some b/\Q (.bl b) H):=by
 intro pins s σ H vs us Q I r h;obtain⟨d,v,G,b,rfl,hd,RG,hb,q⟩:=h;obtain⟨u,c,rfl,ru,rc⟩:=vals2 r;cases (show c=tG T from rc);have fin:∀tk,EP X pins σ Q (.bool b) { s with toks:=tk }:=fun tk=>⟨.bl b,H,I.tok tk,rfl,q⟩
 cases d with
 |aB=>
  unfold Hv at hd;subst hd;cases (show u=aX from ru);cases hb;exact dD PySem.W.kitx_none I.hZ mE (k.aB _) (fun z=>nomatch z) fin
 |bl y=>
  rw[wm hd] at ru;cases (show u=fj y from ru);cases hb;exact dD PySem.W.kitx_bool I.hZ mE (k.bl _) (fun z=>nomatch z) fin
 |int y=>
  rw[kE hd] at ru;obtain⟨t,rfl⟩:=(show ∃t,u=oh y t from ru);cases hb;exact dD PySem.W.kitx_int I.hZ mE (k.int _) (fun z=>nomatch z) fin
 |str y=>
  unfold Hv at hd;subst hd;obtain⟨t,rfl⟩:=(show ∃t,u=ε.str y t from ru);cases hb;exact dD PySem.W.kitx_str I.hZ mE (k.str _) (fun z=>nomatch z) fin
 |tup ds=>
  obtain⟨x,xs,rfl,e1,_⟩:=lJ hd;cases (show u=aF x from ru);cases hb;obtain⟨its,_,⟨o,h1,h2,_⟩,_⟩:=I.tuple e1;exact dD PySem.W.kitx_tuple I.hZ ⟨o,h1,h2⟩ (k.tup _) (fun z=>nomatch z) fin
 |fy ds=>
  obtain⟨x,xs,rfl,e1,_⟩:=uA hd;cases (show u=aF x from ru);cases hb;obtain⟨its,_,p1,_⟩:=I.list e1.l;obtain⟨o,h1,h2,_⟩:=p1.isList;exact dD pA I.hZ ⟨o,h1,h2⟩ (k.lst _) (fun z=>nomatch z) fin
 |dc x=>
  unfold Hv at hd;obtain⟨rfl,ob,φ,e1,c⟩:=hd;cases (show u=aF x from ru);cases hb;obtain⟨h1,_⟩:=I.bJ x _ e1;exact dD vF I.hZ ⟨ob,h1,c⟩ (k.ji _) (fun z=>nomatch z) fin
 |obj x=>
  rw[iH hd] at ru;cases (show u=aF x from ru);unfold qN at hb;cases hG:G x with
  |none=>simp[hG] at hb
  |some o=>
   have hl:∀xs,H x=some (.lst xs)->∃o,s.heap.get? x=some o/\o.cls=.type "list":=fun xs e=>by
    obtain⟨_,_,n,_,h1⟩:=(show cM X.prog X.w H s.heap x (.lst xs) from I.bJ x _ e);exact⟨_,h1,rfl⟩
   cases o with
   |lst ds=>
    simp only[hG] at hb;cases hb;obtain⟨vs,e1,_⟩:=RG x _ hG;obtain⟨o,h1,h2⟩:=hl _ e1;exact dD pA I.hZ ⟨o,h1,h2⟩ (k.lst _) (fun z=>nomatch z) fin
   |mW=>
    simp only[hG] at hb;cases hb;obtain⟨_,_,_,e1,_⟩:=RG x _ hG;obtain⟨o,h1,h2⟩:=hl _ e1;exact dD pA I.hZ ⟨o,h1,h2⟩ (k.lst _) (fun z=>nomatch z) fin
   |gen R=>simp[hG] at hb
   |ji=>
    simp only[hG] at hb;cases hb;have e1:H x=some (.ext fun h=>∃o,h.get? x=some o/\o.cls=.type "dict"):=RG x _ hG;obtain⟨⟨o,h1,h2⟩,_⟩:=(show cM X.prog X.w H s.heap x _ from I.bJ x _ e1);exact dD vF I.hZ ⟨o,h1,h2⟩ (k.ji _) (fun z=>nomatch z) fin
theorem TN{T:String}{TS:ν}(k:Dz T)(hv:gS TS=some (.type T))(ha:bN X a ta)(hm:X.mg "isinstance" = none)(hm2:X.mg TS=none)(hgT:Gl X TS)(hnT:TS≠"__name__")(hdT:(TS==("__debug__":ν))=false)(hg:Gl X "isinstance":=by rfl)
  (he:notStar a=true:=by rfl):
  bN X (.Call (.Name "isinstance" p) [a,.Name TS p2] [] pos) (yv T ta):=
 jJ (sI (TQ k) hg hm rfl (sJ ha (sJ (Mi (v:=.ty T) hgT hm2 hv rfl hnT hdT) xH (fP rfl)) (fP he)) (he:=fP he) (hpl:=mi rfl)) fun σ H Q ⟨τ,G,Q3,RS,RG,h,k⟩=>by
  refine⟨τ,G,_,RS,RG,h,fun v H1 d G1 h1 S1 R1 q1=>?_⟩;cases hb:qN T G1 d with
  |none=>rw[hb] at q1;exact q1.elim
  |some b=>
   rw[hb] at q1;exact⟨d,v,G1,b,rfl,h1,R1,hb,k _ H1 (.bl b) G1 oH S1 R1 q1⟩
end
def tupI(ns:List Int):D:=.tup (ns.map D.int)
section
variable {P:ag} {w:av} {H:Hp} {h:Ψ} {a:ζ} {o:HO}
theorem TM(x:cM P w H h a o):∃o,h.get? a=some o:=by
 cases o with
 |lst xs=>obtain⟨_,_,_,_,e⟩:=x;exact⟨_,e⟩
 |tup xs=>obtain⟨_,_,_,o,e,_⟩:=x;exact⟨_,e⟩
 |dK kvs=>obtain⟨_,_,_,_,o,_,_,e,_⟩:=x;exact⟨_,e⟩
 |dT kvs=>obtain⟨_,_,_,_,o,_,_,e,_⟩:=x;exact⟨_,e⟩
 |set S n=>obtain⟨o,_,_,_,e,_⟩:=x;exact⟨_,e⟩
 |ins C dx fs=>obtain⟨_,_,_,e,_⟩:=x;exact⟨_,e⟩
 |own y=>obtain⟨_,e⟩:=x;exact⟨_,e⟩
 |xd fs=>obtain⟨_,⟨_,_,_,e,_⟩,_⟩:=x;exact⟨_,e⟩
 |De lo hi=>obtain⟨_,_,_,e⟩:=x;exact⟨_,e⟩
 |dZ ob u=>obtain⟨e,_⟩:=x;exact⟨_,e⟩
 |wO ps=>exact⟨_,(show h.get? a=some _ from x)⟩
 |met f y=>exact⟨_,(show h.get? a=some _ from x)⟩
 |ext φ=>obtain⟨_,⟨_,e⟩,_⟩:=x;exact⟨_,e⟩
end
section
variable {X:Cx} {pins:List (ζ×aH)} {σ:L2.St} {H:Hp} {s:θ}
theorem Inv.GP(I:Inv X pins σ H s){a:ζ}(hn:s.heap.get? a=none):H a=none:=by
 cases e:H a with
 |none=>rfl
 |some o=>
  obtain⟨ob,h⟩:=TM (I.bJ a o e);rw[hn] at h;cases h
theorem Inv.NP{a:ζ}{o:HO}{t':Nat}{h':Ψ}(I:Inv X pins σ H s)(k:∀b u,s.heap.get? b=some u->h'.get? b=some u)(hn:s.heap.get? a=none)(new:cM X.prog X.w (upd H a o) h' a o):
  Inv X pins σ (upd H a o) { s with heap:=h',toks:=t' }:=by
 have hH:=Inv.GP I hn;have ne:∀b u,s.heap.get? b=some u->b≠a:=fun b u e z=>by rw[z,hn] at e;cases e
 refine I.un ⟨fun b u q _ _ _=>k b u q,fun b u q _ _ _=>⟨u.slots,k b u q⟩,fun b u q n _=>by rw[dA (ne b u q)];exact n,fun b u q _=>⟨u,k b u q⟩,fun b xs q=>by rw[dA (nh q hH)];exact q,
  fun b u xs q=>by rw[dA (nh q hH)];exact q,fun b ps q=>⟨#[],by rw[dA (nh q hH),q];simp⟩⟩ fun b u e=>?_
 by_cases hb:b=a
 ·subst hb;rw[g6] at e;cases e;exact new
 ·rw[dA hb] at e;exact (I.bJ b u e).m8 (fun c v _ q=>k c v q) (fun c q=>by rw[dA (nh q hH)];exact q) fun c xs q=>by rw[dA (nh q hH)];exact q
theorem EM{ns:List Int}:∀{us:List ε},bh (ns.map V.int) us->ItemsAre (intKind X.prog X.w) ns us:=by
 induction ns with
 |nil=>intro us r;cases r;exact .nil
 |cons n ns ih=>
  intro us r;cases r with
  |cons r1 r2=>
   obtain⟨t,rfl⟩:=(show ∃t,_=oh n t from r1);exact .cons (by show vS n (.int n t)=true;simp[vS]) (ih r2)
theorem EK(I:Inv X pins σ H s):∀{nss:List (List Int)} {vs:List V} {us:List ε},aR X.K H (nss.map tupI) vs->bh vs us ->
  ∃ps:List (List Int×ζ),ps.map (·.1)=nss/\vs=ps.map (fun p=>.ref p.2)/\us=ps.map (fun p=>aF p.2)/\∀p∈ps,cL X.K H p.2 (p.1.map V.int)/\j0.jk X.prog X.w s.heap p.1 p.2
 |[],vs,us,h,r=>by
  cases h.i5;cases r;exact⟨[],rfl,rfl,rfl,fun p hp=>nomatch hp⟩
 |ns::nss,vs,us,h,r=>by
  obtain⟨v,vr,rfl,q1,q2⟩:=h.inv;cases r with
  |cons r1 r2=>
   obtain⟨ps,e1,e2,e3,e4⟩:=EK I q2 r2;obtain⟨a,ws,rfl,z1,z2⟩:=lJ q1;have hw:ws=ns.map V.int:=by
    refine uz z2 ?_;clear z2 z1 q1 h e1 e2 e3 e4 q2 r2 r1
    induction ns with
    |nil=>rfl
    |cons n ns ih=>simp[intsOf,ih]
   subst hw;cases (show _=aF a from r1);obtain⟨its,rv,⟨o,h1,h2,n,h3⟩,_⟩:=I.tuple z1;refine⟨(ns,a)::ps,by simp[e1],by simp[e2],by simp[e3],fun p hp=>?_⟩;rcases Ω.mp hp with rfl|hp
   ·exact⟨z1,o,its.toArray,n,h1,h2,h3,EM rv⟩
   ·exact e4 p hp
theorem EJ{K:η}{H:Hp}:∀{qs:List (List Int×ζ)},(∀p∈qs,cL K H p.2 (p.1.map V.int))->aR K H ((qs.map (·.1)).map tupI) (qs.map fun p=>.ref p.2)
 |[],_=>.nil
 |q::qs,h=>.cons (sO (h q aa) (aR.ints _)) (EJ fun p hp=>h p (Γ _ hp))
theorem KW:∀(qs:List (List Int×ζ)),bh (qs.map fun p=>V.ref p.2) (qs.map fun p=>aF p.2)
 |[]=>.nil
 |q::qs=>.cons rfl (KW qs)
def tw(nss:List (List Int)):Prop:=nss.Pairwise fun x y=>tu.lx y x=false
theorem KU{Q:VK}(I:Inv X pins σ H s){ps qs:List (List Int×ζ)}{s':θ}{c:Nat}{D':ζ}(hz:ps.length<64)(hS:tu.Ov ps qs)(hn:s.heap.get? D'=none)(hD:s'.heap.get? D'=some (seqObj "list" (qs.map fun p=>aF p.2).toArray c))
  (hm:Moved [] (fun x y=>y=x) s s') (q:H D'=none->Q (.ref D') (upd H D' (.lst (qs.map fun p=>.ref p.2)))):EP X pins σ Q (.ref D') s':=by
 have e:s'={ s with heap:=s'.heap,toks:=s'.toks }:=by
  cases s';cases s;have h1:=hm.gens;have h2:=hm.drawn;have h3:=hm.os;simp only at h1 h2 h3;subst h1 h2 h3;rfl
 rw[e];refine⟨.ref D',_,Inv.NP I (o:=.lst (qs.map fun p=>.ref p.2)) (fun b u z=>hm.heap b u (fun y=>nomatch y) z) hn ?_,rfl,q (Inv.GP I hn)⟩;refine⟨?_,_,c,KW qs,hD⟩;rw[π,hS.perm.length_eq,cq];lia
theorem TL(hc:X.calm=true)(hu:X.A.units+64<cLine):ku X (.builtin "sorted") (fun vs H Q=>∃(a:ζ) (xs:List V) (nss:List (List Int)),vs=[.ref a]/\fg X.K H a xs/\aR X.K H (nss.map tupI) xs/\nss.length<64/\(∀ns∈nss,ns≠[]) ∧
  ∀(p:ζ) (mss:List (List Int)) (ys:List V),H p=none->mss.Perm nss->tw mss->aR X.K H (mss.map tupI) ys->Q (.ref p) (upd H p (.lst ys))):=by
 intro pins s σ H vs us Q I r h;obtain⟨a,xs,nss,rfl,hl,hv,hz,cK,q⟩:=h;obtain⟨u,rfl,ru⟩:=vals1 r;cases ru;obtain⟨its,rv,pl,_⟩:=I.list hl;obtain⟨ps,e1,e2,e3,e4⟩:=EK I hv rv;subst e3;have hlen:ps.length=nss.length:=by rw[←e1,π]
 refine tu.yg (ps:=ps) (fun p hp=>⟨(e4 p hp).2,cK _ (by rw[←e1];exact aT.mpr ⟨p,hp,rfl⟩)⟩) (by lia) (fun R hR=>?_) fun qs s' c D' hS hn hD hm=>?_
 ·refine collect_list pl.isList (hR _ ⟨fun b o _ e=>?_,rfl,rfl,rfl,Φ _⟩) (by rw[π,cq];lia);have hlt:=Θ e;show ((s.heap.push (seqObj "list" #[] 0)).update s.heap.objs.size _).get? b=some o;rw[bB _ _ (dS hlt)];exact ι _ e
 ·refine KU I (by lia) hS hn hD hm fun hf=>?_;refine q _ (qs.map (·.1)) _ hf (by rw[←e1];exact hS.perm.map _) ?_ (EJ fun p hp=>(e4 p (hS.perm.mem_iff.mp hp)).1);exact gy.mpr hS.rise
end
end L3
namespace L3
open PySem PySem.Spec PyProof.Rows L2
def yH(P:ag)(w:av)(b:ζ)(zs:List (List Int×ζ)):Ψ->Prop:=fun h=>∃o es ep t,h.get? b=some o/\o.ExactSet/\o.data=.set es ep t/\es.toList=zs.map (j0.ent P w)/\(zs.map (·.1)).Nodup/\t.plain=true ∧
 t.led=(!(w.params.followText "set-order"))/\qi.Tab t (es.toList.map (·.1))
theorem TK{α β:Type}{f:α->β}{l l':List β}(h:l.Perm l'):∀{zs:List α},l'=zs.map f->∃zs':List α,zs'.Perm zs/\l=zs'.map f:=by
 induction h with
 |nil=>
  intro zs e;have:zs=[]:=by simpa using e.symm
  subst this;exact⟨[],.nil,rfl⟩
 |cons x _ ih=>
  intro zs e;cases zs with
  |nil=>cases e
  |cons z zs=>
   simp only[aC,xt] at e;obtain⟨zs',h1,h2⟩:=ih e.2;exact⟨z::zs',h1.cons z,by simp[e.1,h2]⟩
 |swap x y l=>
  intro zs e;rcases zs with _|⟨z,_|⟨z2,zs⟩⟩
  ·cases e
  ·simp at e
  ·simp only[aC,xt] at e;exact⟨z2::z::zs,.swap _ _ _,by simp[e.1,e.2.1,e.2.2]⟩
 |trans _ _ ih1 ih2=>
  intro zs e;obtain⟨z2,h1,h2⟩:=ih2 e;obtain⟨z1,h3,h4⟩:=ih1 h2;exact⟨z1,h3.trans h1,h4⟩
section
variable {X:Cx}
theorem TJ(hc:X.calm=true)(hu:X.A.units+64<cLine):ku X (.type "set") (fun vs H Q=>∃(a:ζ) (xs:List V) (nss:List (List Int)),vs=[.ref a]/\fg X.K H a xs/\aR X.K H (nss.map tupI) xs/\nss.length≤60 ∧
  ∀(b:ζ) (zs:List (List Int×ζ)),H b=none->(∀p∈zs,cL X.K H p.2 (p.1.map V.int))->(∀ns,ns∈zs.map (·.1)↔ns∈nss)->(zs.map (·.1)).Nodup->zs.length≤nss.length->Q (.ref b) (upd H b (.ext (yH X.prog X.w b zs)))):=by
 intro pins s σ H vs us Q I r h;obtain⟨a,xs,nss,rfl,hl,hv,hz,q⟩:=h;obtain⟨u,rfl,ru⟩:=vals1 r;cases ru;obtain⟨its,rv,pl,_⟩:=I.list hl;obtain⟨ps,e1,e2,e3,e4⟩:=EK I hv rv;subst e3;have hlen:ps.length=nss.length:=by rw[←e1,π]
 refine j0.yn (ps:=ps) (I.ok.hd hc) pl.isList rfl (fun p hp=>(e4 p hp).2) (by lia) (by lia) fun h' tk zs kk hS hD=>?_;obtain⟨o,es,ep,t,S,T⟩:=hS;refine⟨.ref s.heap.objs.size,_,I.laid (o:=.ext (yH X.prog X.w s.heap.objs.size zs)) kk (Φ _) ?_,rfl,q _ zs (I.bJ.fresh (Φ _)) (fun p hp=>(e4 p (hD.sub p hp)).1) (fun ns=>?_) S.nd ?_⟩
 ·refine⟨⟨o,es,ep,t,S.at_,S.ex,S.dat,S.ents,S.nd,S.plain,S.led,T⟩,⟨o,S.at_⟩,fun h1 h2 ⟨o',es',ep',t',y1,y⟩ kk2=>⟨o',es',ep',t',kk2 _ y1,y⟩⟩
 ·rw[←e1];constructor
  ·intro hm;obtain⟨p,hp,rfl⟩:=aT.mp hm;exact aT.mpr ⟨p,hD.sub p hp,rfl⟩
  ·intro hm;obtain⟨p,hp,rfl⟩:=aT.mp hm;exact hD.all p hp
 ·rw[←hlen];exact hD.len
theorem TH(hc:X.calm=true)(hu:X.A.units+64<cLine):ku X (.builtin "sorted") (fun vs H Q=>∃(b:ζ) (zs:List (List Int×ζ)),vs=[.ref b]/\H b=some (.ext (yH X.prog X.w b zs))/\(∀p∈zs,cL X.K H p.2 (p.1.map V.int))/\zs.length≤60/\(∀p∈zs,p.1≠[]) ∧
  ∀(p:ζ) (mss:List (List Int)) (ys:List V),H p=none->mss.Perm (zs.map (·.1))->tw mss->aR X.K H (mss.map tupI) ys->Q (.ref p) (upd H p (.lst ys))):=by
 intro pins s σ H vs us Q I r h;obtain⟨b,zs,rfl,hb,hk,hz,cK,q⟩:=h;obtain⟨u,rfl,ru⟩:=vals1 r;cases ru;obtain⟨⟨o,es,ep,t,y1,y2,y3,y4,y5,y6,y7,T⟩,_⟩:=(show cM X.prog X.w H s.heap b _ from I.bJ b _ hb);have hK:∀p∈zs,j0.jk X.prog X.w s.heap p.1 p.2:=fun p hp=>by
  obtain⟨its,rv,⟨o,h1,h2,n,h3⟩,_⟩:=I.tuple (hk p hp);exact⟨o,its.toArray,n,h1,h2,h3,EM rv⟩
 have S:j0.nN X.prog X.w s.heap b o es ep t zs:=⟨y1,y2,y3,y4,hK,y5,y6,y7⟩;obtain⟨zs',p1,p2⟩:=TK (j0.pI X.w b ep es) y4;have hsz:es.size=zs.length:=by
  have:es.toList.length=zs.length:=by rw[y4,π]
  simpa using this
 refine tu.yg (ps:=zs') (fun p hp=>⟨hK p (p1.mem_iff.mp hp),cK p (p1.mem_iff.mp hp)⟩) (by rw[p1.length_eq];lia) (fun R hR=>?_) fun qs s' c D' hS hn hD hm=>?_
 ·refine j0.xu (by have:=I.ok.hd hc;simpa using this) S.wk T (by lia) fun s' hm=>?_;have:=hR s' hm;rw[p2,cy];exact this
 ·refine KU I (by rw[p1.length_eq];lia) hS hn hD hm fun hf=>?_;refine q _ (qs.map (·.1)) _ hf ((hS.perm.map _).trans (p1.map _)) ?_ (EJ fun p hp=>hk p (p1.mem_iff.mp (hS.perm.mem_iff.mp hp)));exact gy.mpr hS.rise
end
section
variable {X:Cx} {K:η} {e:υ} {es:List υ} {t:dB} {ta:aQ} {pos p p' pos':aN}
def zf:C3:=fun ds G Q=>match ds with
 |[.obj a]=>∃nss:List (List Int),G a=some (.lst (nss.map tupI))/\nss.length<64/\(∀ns∈nss,ns≠[])/\∀(p:ζ) (mss:List (List Int)) (G':Gp),eF G p (.lst (mss.map tupI)) G'->mss.Perm nss->tw mss->Q (.obj p) G'
 |_=>False
theorem TF:uR K zf (fun vs H Q=>∃(a:ζ) (xs:List V) (nss:List (List Int)),vs=[.ref a]/\fg K H a xs/\aR K H (nss.map tupI) xs/\nss.length<64/\(∀ns∈nss,ns≠[]) ∧
  ∀(p:ζ) (mss:List (List Int)) (ys:List V),H p=none->mss.Perm nss->tw mss->aR K H (mss.map tupI) ys->Q (.ref p) (upd H p (.lst ys))):=fun ds vs G H Q3 Q h RG q k=>by
 rcases ds with _|⟨d,_|⟨d2,ds⟩⟩
 ·exact q.elim
 ·obtain⟨v,rfl,hv⟩:=uG h;cases d with
  |obj a=>
   obtain⟨nss,e1,hz,cK,q⟩:=q;obtain⟨xs,e2,e3⟩:=RG a _ e1;rw[iH hv];exact⟨a,xs,nss,rfl,.of e2,e3,hz,cK,fun p mss ys hp h1 h2 h3=>k _ _ (.obj p) _ rp (.hX hp) (RG.wx hp h3) (q p mss _ (.mk' (RG.free hp)) h1 h2)⟩
  |_=>exact q.elim
 ·cases d<;>exact q.elim
theorem TC(hu:X.A.units+64<cLine)(hm:X.mg "sorted" = none)(ha:kG X (e::es) t)(hc:X.calm=true:=by rfl)(hg:Gl X "sorted":=by rfl)(he:notStar e=true:=by rfl)(hpl:es.all notStar=true:=by rfl):
  bN X (.Call (.Name "sorted" p) (e::es) [] pos) (eN zf t):=wH TF (sI (TL hc hu) hg hm rfl ha (he:=fP he) (hpl:=mi hpl))
def wI(ta:aQ):aQ:=fun τ G Q=>ta τ G fun x G1=>match x with
 |.obj a=>∃nss:List (List Int),G1 a=some (.lst (nss.map tupI))/\nss.length≤60/\(∀ns∈nss,ns≠[])/\∀(p:ζ) (mss:List (List Int)) (G':Gp),eF G1 p (.lst (mss.map tupI)) G'->(∀ns,ns∈mss↔ns∈nss)->mss.Nodup->tw mss->mss.length≤nss.length->Q (.obj p) G'
 |_=>False
theorem TB(hu:X.A.units+64<cLine)(ha:bN X e ta)(hm:X.mg "sorted" = none)(hm2:X.mg "set" = none)(hc:X.calm=true:=by rfl)(hg:Gl X "sorted":=by rfl)(hg2:Gl X "set":=by rfl)(he2:notStar e=true:=by rfl):
  bN X (.Call (.Name "sorted" p) [.Call (.Name "set" p') [e] [] pos'] [] pos) (wI ta):=
 jJ (sI (TH hc hu) hg hm rfl (sJ (Fj (TJ hc hu) hg2 hm2 rfl (sJ ha xH (fP he2)) (he:=fP he2) (hpl:=mi rfl)) xH (fP rfl)) (he:=fP rfl) (hpl:=mi rfl)) fun σ H Q ⟨τ,G,Q3,RS,RG,h,k⟩=>by
  refine⟨τ,G,_,RS,RG,h,fun v H1 d G1 h1 S1 R1 q1=>?_⟩;cases d with
  |obj a=>
   obtain⟨nss,e1,hz,cK,q⟩:=q1;obtain⟨xs,e2,e3⟩:=R1 a _ e1;rw[iH h1];refine⟨a,xs,nss,rfl,.of e2,e3,hz,fun b zs hb hk hmem hnd hlen=>?_⟩;have E2:Ext H1 (upd H1 b (.ext (yH X.prog X.w b zs))):=.laid hb;refine⟨b,zs,rfl,g6,fun p hp=>cL.ext E2 (hk p hp),by lia,fun p hp=>cK _ ((hmem _).mp (aT.mpr ⟨p,hp,rfl⟩)),fun p mss ys hp hpm hr hv=>?_⟩;have R2:aV X.K G1 (upd H1 b (.ext (yH X.prog X.w b zs))):=R1.laid hb;refine k _ _ (.obj p) _ rp ((S1.trans (.laid hb)).trans (.hX hp)) (R2.wx hp hv) (q p mss _ (.mk' (R2.free hp)) (fun ns=>?_) ?_ hr ?_)
   ·rw[hpm.mem_iff];exact hmem ns
   ·exact hpm.nodup_iff.mpr hnd
   ·rw[hpm.length_eq,π];exact hlen
  |_=>exact q1.elim
def vp:List D->Option (List Bool)
 |[]=>some []
 |.bl b::r=>(vp r).map (b::·)
 |_::_=>none
theorem EI{H:Hp}:∀{ds:List D} {vs:List V} {bs:List Bool},aR K H ds vs->vp ds=some bs->vs=bs.map V.bl
 |[],vs,ns,h,e=>by
  cases e;exact h.i5
 |d::ds,vs,ns,h,e=>by
  cases d with
  |bl i=>
   obtain⟨v,r,rfl,z1,z2⟩:=h.inv;unfold vp at e;cases hm:vp ds with
   |none=>rw[hm] at e;cases e
   |some ms=>
    rw[hm] at e;cases e;rw[wm z1,EI z2 hm];rfl
  |_=>cases e
theorem Tz(hc:X.calm=true){pins:List (ζ×aH)}{s:θ}{σ:L2.St}{H:Hp}{a:ζ}{xs:List V}{E:ε->θ->Prop}(I:Inv X pins σ H s)(hl:fg X.K H a xs){Q:ε->θ->Prop}
  (q:∀(its:List ε) (I':ζ),bh xs its->WalksS X.prog X.w X.A.in1 I' [I',a] [I'] (fun x y=>y=x) its.length (fun i v=>its[i]?=some v) (fun i s=>s.heap.IsListIter I' a i/\s.heap.IsList a its.toArray) ->
   (s.heap.push { cls:=.type "list_iterator",data:=.fields #[.ref a,.int 0 0]}).IsListIter I' a 0->(s.heap.push { cls:=.type "list_iterator",data:=.fields #[.ref a,.int 0 0]}).IsList a its.toArray ->
   (∀b∈[I',a],b<(s.heap.push { cls:=.type "list_iterator",data:=.fields #[.ref a,.int 0 0]}).objs.size) ->
   (∀s',Moved [I'] (fun x y=>y=x) { s with heap:=s.heap.push { cls:=.type "list_iterator",data:=.fields #[.ref a,.int 0 0]}} s'->Inv X pins σ H s')->Q (.ref I') { s with heap:=s.heap.push { cls:=.type "list_iterator",data:=.fields #[.ref a,.int 0 0]}}):
  ρ (model X.prog X.w) X.A.in1 (pyIter (.ref a)) Q E s:=by
 obtain⟨its,rv,pl,_⟩:=I.list hl;have hla:a<s.heap.objs.size:=by
  obtain⟨o,h1,_⟩:=pl.isList;exact Θ h1
 refine fw pl.isList ?_;have hW:=(Walks.list (prog:=X.prog) (w:=X.w) (A:=X.A.in1) (by have:=I.ok.hd hc;simpa using this) s.heap.objs.size a (bf hla) its.toArray).toS;refine q its s.heap.objs.size rv (by simpa using hW) ⟨_,ae _ rfl,rfl,rfl⟩ ?_ ?_ fun s' hm=>?_
 ·obtain⟨o,h1,h2⟩:=pl.isList;exact⟨o,ι _ h1,h2⟩
 ·intro b hb;rw[size_push'];rcases Ω.mp hb with e|e
  ·rw[e];exact lM _
  ·have:b=a:=by simpa using e
   rw[this];exact iC hla
 ·have e:s'={ s with heap:=s'.heap,toks:=s'.toks }:=by
   cases s';cases s;have h1:=hm.gens;have h2:=hm.drawn;have h3:=hm.os;simp only at h1 h2 h3;subst h1 h2 h3;rfl
  rw[e];exact I.kept fun b u z=>hm.heap b u (fun y=>by
   have:b=s.heap.objs.size:=by simpa using y
   exact absurd (this▸Θ z) (cE _)) (ι _ z)
theorem KS(ns:List Int):∀k,k≤ns.length->preSum (fun i=>ns.getD i 0) k=(ns.take k).sum
 |0,_=>by simp[preSum]
 |k+1,hk=>by
  rw[preSum,KS ns k (by lia),List.take_succ,mH];have:k<ns.length:=by lia
  simp[qT,this]
theorem Tx(hc:X.calm=true):ku X (.builtin "sum") (fun vs H Q=>∃(a:ζ) (ns:List Int),vs=[.ref a]/\fg X.K H a (ns.map V.int)/\Q (.int ns.sum) H):=by
 intro pins s σ H vs us Q I r h;obtain⟨a,ns,rfl,hl,q⟩:=h;obtain⟨u,rfl,ru⟩:=vals1 r;cases ru;refine call_sum_walkAnyS (Tz hc I hl fun its I' rv W h1 h2 h3 back=>⟨I',_,_,_,_,_,_,fun i=>ns.getD i 0,rfl,W,⟨h1,h2⟩,h3,?_,fun s' t' hm=>?_⟩)
 ·intro i v hv;have hi:i<ns.length:=by
   have h4:its.length=ns.length:=by rw[←rv.length,π]
   have:=(au.mp hv).1;lia
  obtain⟨u',e1,e2⟩:=rv.get (i:=i) (x:=.int ns[i]) (by rw[aK,aE hi];rfl);rw[hv] at e1;cases e1;obtain⟨t,rfl⟩:=(show ∃t,v=oh ns[i] t from e2);exact⟨t,by simp[qT,hi]⟩
 ·have h4:its.length=ns.length:=by rw[←rv.length,π]
  rw[h4,KS ns ns.length (Φ _),qx];exact⟨.int ns.sum,H,back s' hm,⟨t',rfl⟩,q⟩
def AZ:C3:=fun ds G Q=>match ds with
 |[.obj a]=>∃xs ns,G a=some (.lst xs)/\intsOf xs=some ns/\Q (.int ns.sum) G
 |_=>False
theorem Tw:uR K AZ (fun vs H Q=>∃(a:ζ) (ns:List Int),vs=[.ref a]/\fg K H a (ns.map V.int)/\Q (.int ns.sum) H):=fun ds vs G H Q3 Q h RG q k=>by
 rcases ds with _|⟨d,_|⟨d2,ds⟩⟩
 ·exact q.elim
 ·obtain⟨v,rfl,hv⟩:=uG h;cases d with
  |obj a=>
   obtain⟨xs,bs,e1,e2,q⟩:=q;obtain⟨ys,e3,e4⟩:=RG a _ e1;rw[iH hv];rw[uz e4 e2] at e3;exact⟨a,bs,rfl,.of e3,k _ H _ G nW (.refl H G) RG q⟩
  |_=>exact q.elim
 ·cases d<;>exact q.elim
theorem Tv(hu:X.A.units+64<cLine)(hm:X.mg "sum" = none)(ha:kG X (e::es) t)(hc:X.calm=true:=by rfl)(hg:Gl X "sum":=by rfl)(he:notStar e=true:=by rfl)(hpl:es.all notStar=true:=by rfl):
  bN X (.Call (.Name "sum" p) (e::es) [] pos) (eN AZ t):=wH Tw (sI (Tx hc) hg hm rfl ha (he:=fP he) (hpl:=mi hpl))
end
end L3
namespace L3
open PySem PySem.Spec PyProof.Rows L2
open Sem (wp)
def Ik(k:Bool)(h:Ψ)(jt a:ζ)(i:Nat):Prop:=match k with
 |true=>h.IsListIter jt a i
 |false=>h.IsTupleIter jt a i
def Sk(k:Bool)(h:Ψ)(a:ζ)(xs:Array ε):Prop:=match k with
 |true=>h.IsList a xs
 |false=>h.IsTuple a xs
theorem Ik.of{k:Bool}{h h':Ψ}{jt a:ζ}{i:Nat}(x:Ik k h jt a i)(f:∀o,h.get? jt=some o->h'.get? jt=some o):Ik k h' jt a i:=by
 cases k<;>(obtain⟨o,e,r⟩:=x;exact⟨o,f o e,r⟩)
theorem Sk.of{k:Bool}{h h':Ψ}{a:ζ}{xs:Array ε}(x:Sk k h a xs)(f:∀o,h.get? a=some o->h'.get? a=some o):Sk k h' a xs:=by
 cases k<;>(obtain⟨o,e,r⟩:=x;exact⟨o,f o e,r⟩)
theorem Ik.obj{k:Bool}{h:Ψ}{jt a:ζ}{i:Nat}(x:Ik k h jt a i):∃o,h.get? jt=some o/\∀v,o.data≠.cell v:=by
 cases k<;>(obtain⟨o,e,c,d⟩:=x;exact⟨o,e,fun v z=>by rw[d] at z;cases z⟩)
section
variable {P:ag} {w:av} {A:aJ} {E:ε->θ->Prop} {s:θ}
theorem nextK{k:Bool}{jt a:ζ}{i:Nat}{xs:Array ε}{u:ε}{Q:ε->θ->Prop}(hi:Ik k s.heap jt a i)(ha:Sk k s.heap a xs)(hx:xs[i]?=some u)
  (q:∀h',Ik k h' jt a (i+1)->cQ jt s.heap h'->Q u { s with heap:=h' }):ρ (model P w) A (cJ (.ref jt)) Q E s:=by
 cases k with
 |true=>exact wpAny_nextOf_list_item hi ha hx q
 |false=>
  have hi:s.heap.IsTupleIter jt a i:=hi;obtain⟨o,e1,c1,d1⟩:=id hi;obtain⟨oa,e2,c2,n2,d2⟩:=(show s.heap.IsTuple a xs from ha);unfold cJ;refine δ (cm (name:=fk "__next__") hi.typeIs F.slot_tuple_iterator_next (bU F.slot_tuple_iterator_next hi.typeIs F.entry_tuple_iterator_next ?_ (F.args_tuple_iterator_next_1 _)));show ρ _ _ (field (.ref jt) 0 >>= _) _ _ s;refine δ (bA e1 d1 (x:=.ref a) rfl ?_);show ρ _ _ (if (aF a==aX)=true then _ else _) _ _ s;rw[if_neg (show ¬((aF a==aX)=true) from ay)];show ρ _ _ (field (.ref jt) 1 >>= _) _ _ s;refine δ (bA e1 d1 (x:=.int i 0) rfl ?_);show ρ _ _ (seqItems? (.ref a) >>= _) _ _ s;refine δ (dX e2 d2 ?_);simp only[hx,bY];refine δ (fJ e1 d1 (by simp) (μ ⟨u,rfl,μ (q _ ?_ (dm ..))⟩));exact⟨_,ck _ e1 (eS (dE d1 _)),(aH.cls_mapFields ..).trans c1,by rw[dE d1];simp[rawInt]⟩
theorem KR{k:Bool}{jt a:ζ}{i:Nat}{xs:Array ε}{Q:ε->θ->Prop}(hh:A.handled=none)(hi:Ik k s.heap jt a i)(ha:Sk k s.heap a xs)(hx:xs[i]?=none)
  (q:∀h' e,vY jt s.heap h'->(∃o,h'.get? e=some o/\o.cls=.type "StopIteration")->E (.ref e) { s with heap:=h' }):ρ (model P w) A (cJ (.ref jt)) Q E s:=by
 cases k with
 |true=>exact wpAny_nextOf_list_end hh hi ha hx q
 |false=>
  have hi:s.heap.IsTupleIter jt a i:=hi;obtain⟨o,e1,c1,d1⟩:=id hi;obtain⟨oa,e2,c2,n2,d2⟩:=(show s.heap.IsTuple a xs from ha);unfold cJ;refine δ (cm (name:=fk "__next__") hi.typeIs F.slot_tuple_iterator_next (bU F.slot_tuple_iterator_next hi.typeIs F.entry_tuple_iterator_next ?_ (F.args_tuple_iterator_next_1 _)));show ρ _ _ (field (.ref jt) 0 >>= _) _ _ s;refine δ (bA e1 d1 (x:=.ref a) rfl ?_);show ρ _ _ (if (aF a==aX)=true then _ else _) _ _ s;rw[if_neg (show ¬((aF a==aX)=true) from ay)];show ρ _ _ (field (.ref jt) 1 >>= _) _ _ s;refine δ (bA e1 d1 (x:=.int i 0) rfl ?_);show ρ _ _ (seqItems? (.ref a) >>= _) _ _ s;refine δ (dX e2 d2 ?_);simp only[hx,bY];refine δ (mB (δ (fJ e1 d1 (by simp) ?_)));show ρ _ _ (newExc (.type "StopIteration") [] >>= _) _ _ ({ s with heap:=_ }:θ);refine δ ?_;simp only[newTuple,newExc];refine δ (bz ?_ (by size_fits));refine δ (m:=firstArgMember _ _) (lg (a:=aX) (by first|(simp only[firstArgMember];rfl)|rfl) ?_)
  refine bz ?_ (by size_fits);simp only[raiseNew];refine δ (tS ?_)
  first|rw[hh]|rw[show A.in1.handled=none from hh]
  refine δ (μ (wpAny_throw ?_));exact q _ _ (((dm ..).extBut.push _).push _) ⟨_,ae _ rfl,rfl⟩
theorem OC{k1 k2:Bool}{zz ti ot j1 j2 a1 a2:ζ}{m n:Nat}{xs ys:Array ε}{u v c d:ε}{Q:ε->θ->Prop}(D:ZipApart zz ti ot j1 j2 a1 a2)
  (Z:lF s.heap zz ti ot .none) (Ti:gV s.heap ti (.ref j1) (.ref j2)) (To:gV s.heap ot c d) (g1:Ik k1 s.heap j1 a1 m) (g2:Ik k2 s.heap j2 a2 n) (s1:Sk k1 s.heap a1 xs) (s2:Sk k2 s.heap a2 ys) (hu:xs[m]?=some u) (hv:ys[n]?=some v)
  (q:∀h',lF h' zz ti ot (rawInt s.heap.objs.size)->gV h' ot u v->Ik k1 h' j1 a1 (m+1)->Ik k2 h' j2 a2 (n+1)->gV h' s.heap.objs.size u v ->
   (∀b o,b≠zz->b≠ot->b≠j1->b≠j2->s.heap.get? b=some o->h'.get? b=some o)->Q (.ref s.heap.objs.size) { s with heap:=h' }):
  ρ (model P w) A (di.«zip.__next__» ⟨[.ref zz],[]⟩) (fun fin s'=>∃r,fin=.done (.ret r)/\Q r s') E s:=by
 show ρ _ _ (field (.ref zz) 2 >>= _) _ _ _;refine δ (bA Z rfl (x:=.bool false) rfl ?_);show ρ _ _ (field (.ref zz) 3 >>= _) _ _ _;refine δ (bA Z rfl (x:=.ref ti) rfl ?_);refine δ (dX Ti rfl ?_);show ρ _ _ (dY (.ref zz) >>= _) _ _ _;refine δ ?_;unfold dY;refine δ (bA Z rfl (x:=.none) rfl (μ ?_));simp only[if_true];refine δ (mB ?_);refine δ (bA Z rfl (x:=.ref ot) rfl ?_);refine δ (bQ Z (by simp) fun w1 Z1 b1=>?_)
 replace Z1:lF w1 zz ti ot .ellipsis:=Z1
 refine δ ?_
 (simp only[List.zipIdx_nil,List.zipIdx_cons,sy,mL])
 have k1_:∀b o,b≠zz->s.heap.get? b=some o->w1.get? b=some o:=fun b o h e=>b1.extBut b o h e;refine δ (δ (oK ?_));show ρ _ _ (cJ (.ref j1) >>= _) _ _ _;refine δ (nextK (g1.of fun o e=>k1_ _ o D.i1z e) (s1.of fun o e=>k1_ _ o D.l1z e) hu fun w2 J1 b2=>μ ?_);have k2_:∀b o,b≠zz->b≠j1->s.heap.get? b=some o->w2.get? b=some o:=fun b o h h2 e=>b2.extBut b o h2 (k1_ b o h e);have To2:gV w2 ot c d:=k2_ _ _ D.TOz D.TOi1 To;refine δ (dX To2 rfl ?_);refine δ (mz To2 fun w3 To3 b3=>?_)
 replace To3:gV w3 ot u d:=To3
 have k3_:∀b o,b≠zz->b≠j1->b≠ot->s.heap.get? b=some o->w3.get? b=some o:=fun b o h h2 h3 e=>b3.extBut b o h3 (k2_ b o h h2 e);refine δ (rE (μ ?_));refine δ (δ (oK ?_));show ρ _ _ (cJ (.ref j2) >>= _) _ _ _;refine δ (nextK (g2.of fun o e=>k3_ _ o D.i2z D.i12.symm D.TOi2.symm e) (s2.of fun o e=>k3_ _ o D.l2z D.l2i1 D.l2TO e) hv fun w4 J2 b4=>μ ?_);have To4:gV w4 ot u d:=b4.extBut _ _ D.TOi2 To3;refine δ (dX To4 rfl ?_);refine δ (mz To4 fun w5 To5 b5=>?_)
 replace To5:gV w5 ot u v:=To5
 refine δ (rE (μ (μ ?_)));refine δ (dX To5 rfl ?_);refine δ (nA ?_);have sz:w5.objs.size=s.heap.objs.size:=by rw[b5.1,b4.1,b3.1,b2.1,b1.1]
 have Z5:lF w5 zz ti ot .ellipsis:=b5.extBut _ _ D.TOz.symm (b4.extBut _ _ D.i2z.symm (b3.extBut _ _ D.TOz.symm (b2.extBut _ _ D.i1z.symm Z1)));have k5_:∀b o,b≠zz->b≠ot->b≠j1->b≠j2->s.heap.get? b=some o->w5.get? b=some o:=fun b o c1 c2 c3 c4 e=>b5.extBut _ _ c2 (b4.extBut _ _ c4 (k3_ b o c1 c3 c2 e));have L1:Ik k1 w5 j1 a1 (m+1):=J1.of fun o e=>b5.extBut _ _ D.TOi1.symm (b4.extBut _ _ D.i12 (b3.extBut _ _ D.TOi1.symm e));have L2:Ik k2 w5 j2 a2 (n+1):=J2.of fun o e=>b5.extBut _ _ D.TOi2.symm e;have lz:zz<w5.objs.size:=Θ Z5;show ρ _ _ (km (.ref zz) (.ref w5.objs.size) >>= _) _ _ _;refine δ ?_;unfold km;have Z6:lF (w5.push { cls:=.type "tuple",data:=.seq #[u,v]}) zz ti ot .ellipsis:=ι _ Z5;refine δ (bQ Z6 (by simp) fun w7 Z7 b7=>?_)
 replace Z7:lF w7 zz ti ot (rawInt w5.objs.size):=Z7
 refine bQ Z7 (by simp) fun w8 Z8 b8=>?_
 replace Z8:lF w8 zz ti ot (rawInt w5.objs.size):=Z8
 have up:∀b o,b≠zz->w5.get? b=some o->w8.get? b=some o:=fun b o c1 e=>b8.extBut _ _ c1 (b7.extBut _ _ c1 (ι _ e));have T8:gV w8 w5.objs.size u v:=b8.extBut _ _ (dS lz) (b7.extBut _ _ (dS lz) (ae _ rfl));rw[sz] at Z8 T8;refine μ ⟨_,rfl,?_⟩;show Q (.ref w5.objs.size) _;rw[sz];exact q w8 Z8 (up _ _ D.TOz To5) (L1.of fun o e=>up _ o D.i1z e) (L2.of fun o e=>up _ o D.i2z e) T8 fun b o c1 c2 c3 c4 e=>up b o c1 (k5_ b o c1 c2 c3 c4 e)
theorem Tu{k1 k2:Bool}{zz ti ot j1 j2 a1 a2:ζ}{m n:Nat}{xs ys:Array ε}{c d:ε}{Q:Fin->θ->Prop}(hh:A.handled=none)(D:ZipApart zz ti ot j1 j2 a1 a2)
  (Z:lF s.heap zz ti ot .none) (Ti:gV s.heap ti (.ref j1) (.ref j2)) (To:gV s.heap ot c d) (g1:Ik k1 s.heap j1 a1 m) (g2:Ik k2 s.heap j2 a2 n) (s1:Sk k1 s.heap a1 xs) (s2:Sk k2 s.heap a2 ys) (he:xs[m]?=none∨ys[n]?=none)
  (q:∀h' e,(∀b o,b≠zz->b≠ot->b≠j1->b≠j2->s.heap.get? b=some o->h'.get? b=some o)->(∃o,h'.get? e=some o/\o.cls=.type "StopIteration")->E (.ref e) { s with heap:=h' }):
  ρ (model P w) A (di.«zip.__next__» ⟨[.ref zz],[]⟩) Q E s:=by
 show ρ _ _ (field (.ref zz) 2 >>= _) _ _ _;refine δ (bA Z rfl (x:=.bool false) rfl ?_);show ρ _ _ (field (.ref zz) 3 >>= _) _ _ _;refine δ (bA Z rfl (x:=.ref ti) rfl ?_);refine δ (dX Ti rfl ?_);show ρ _ _ (dY (.ref zz) >>= _) _ _ _;refine δ ?_;unfold dY;refine δ (bA Z rfl (x:=.none) rfl (μ ?_));simp only[if_true];refine δ (mB ?_);refine δ (bA Z rfl (x:=.ref ot) rfl ?_);refine δ (bQ Z (by simp) fun w1 Z1 b1=>?_)
 replace Z1:lF w1 zz ti ot .ellipsis:=Z1
 refine δ ?_
 (simp only[List.zipIdx_nil,List.zipIdx_cons,sy,mL])
 have k1_:∀b o,b≠zz->s.heap.get? b=some o->w1.get? b=some o:=fun b o h e=>b1.extBut b o h e;refine δ (δ (oK ?_));show ρ _ _ (cJ (.ref j1) >>= _) _ _ _;cases hx:xs[m]? with
 |none=>
  refine δ (KR hh (g1.of fun o e=>k1_ _ o D.i1z e) (s1.of fun o e=>k1_ _ o D.l1z e) hx fun w2 e b2 hs=>?_);obtain⟨oe,e1,e2⟩:=hs;have Z2:lF w2 zz ti ot .ellipsis:=b2 _ _ D.i1z.symm Z1;have ez:e≠zz:=fun x=>by
   subst x;rw[Z2] at e1;cases e1;simp at e2
  exact bQ Z2 (by simp) fun w3 _ b3=>q w3 e (fun b o c1 _ c3 _ x=>b3.extBut _ _ c1 (b2 _ _ c3 (k1_ b o c1 x))) ⟨oe,b3.extBut _ _ ez e1,e2⟩
 |some u=>
  have hy:ys[n]?=none:=by
   rcases he with h|h
   ·rw[hx] at h;cases h
   ·exact h
  refine δ (nextK (g1.of fun o e=>k1_ _ o D.i1z e) (s1.of fun o e=>k1_ _ o D.l1z e) hx fun w2 J1 b2=>μ ?_);have k2_:∀b o,b≠zz->b≠j1->s.heap.get? b=some o->w2.get? b=some o:=fun b o h h2 e=>b2.extBut b o h2 (k1_ b o h e);have To2:gV w2 ot c d:=k2_ _ _ D.TOz D.TOi1 To;refine δ (dX To2 rfl ?_);refine δ (mz To2 fun w3 To3 b3=>?_);have k3_:∀b o,b≠zz->b≠j1->b≠ot->s.heap.get? b=some o->w3.get? b=some o:=fun b o h h2 h3 e=>b3.extBut b o h3 (k2_ b o h h2 e);refine δ (rE (μ ?_));refine δ (δ (oK ?_));show ρ _ _ (cJ (.ref j2) >>= _) _ _ _;refine δ (KR hh (g2.of fun o e=>k3_ _ o D.i2z D.i12.symm D.TOi2.symm e) (s2.of fun o e=>k3_ _ o D.l2z D.l2i1 D.l2TO e) hy fun w4 e b4 hs=>?_);obtain⟨oe,e1,e2⟩:=hs;have Z4:lF w4 zz ti ot .ellipsis:=b4 _ _ D.i2z.symm (b3.extBut _ _ D.TOz.symm (b2.extBut _ _ D.i1z.symm Z1));have ez:e≠zz:=fun x=>by
   subst x;rw[Z4] at e1;cases e1;simp at e2
  exact bQ Z4 (by simp) fun w5 _ b5=>q w5 e (fun b o c1 c2 c3 c4 x=>b5.extBut _ _ c1 (b4 _ _ c4 (k3_ b o c1 c3 c2 x))) ⟨oe,b5.extBut _ _ ez e1,e2⟩
end
end L3
namespace L3
open PySem PySem.Spec PyProof.Rows L2
open Sem (wp)
section
variable {X:Cx} {pins:List (ζ×aH)} {σ:L2.St} {H:Hp} {s:θ}
theorem ve{h':Ψ}{t':Nat}{fp:List ζ}(I:L2.Inv X pins σ H s)(k:∀b o,b∉fp->s.heap.get? b=some o->h'.get? b=some o)(hf:∀b∈fp,j4 X pins H b):L2.Inv X pins σ H { s with heap:=h',toks:=t' }:=by
 have nit:∀b u,H b=some u->b∉fp:=fun b u e z=>by rw[(hf b z).1] at e;cases e
 refine I.step (g':=s.gens) (d':=s.drawn) (ch:=fp) (fun b hb=>?_) (fun b o _ _ hc e _=>k b o hc e) (fun b o _ _ hc e _=>⟨o.slots,k b o hc e⟩) (fun _ _ _ _ n=>n) (fun b o hc e=>⟨o,k b o hc e⟩) (fun _ _ e=>e) (fun _ _ _ e=>e) (fun b ps e=>⟨#[],by rw[e];simp⟩) (fun m hm=>?_) (fun b u e=>?_) I.bare
 ·obtain⟨f0,f1,f2,f3,f4,f5⟩:=hf b hb;exact⟨f3,f1,f4,f5⟩
 ·obtain⟨o,es,ep,ho,r⟩:=hm;exact⟨o,es,ep,k _ o (fun z=>(hf _ z).2.1 rfl) ho,r⟩
 ·refine (I.bJ b u e).m8 (fun c v hc q=>k c v ?_ q) (fun _ q=>q) fun _ _ q=>q;rcases hc with z|z
  ·rw[z];exact nit b u e
  ·exact nit c _ z
def pf(K:η)(k:Bool)(H:Hp)(a:ζ)(xs:List V):Prop:=match k with
 |true=>fg K H a xs
 |false=>cL K H a xs
theorem pf.heap{k:Bool}{a:ζ}{xs:List V}(I:L2.Inv X pins σ H s)(h:pf X.K k H a xs):∃its,bh xs its/\Sk k s.heap a its.toArray:=by
 cases k with
 |true=>
  obtain⟨its,rv,p,hz⟩:=I.list (show fg X.K H a xs from h);exact⟨its,rv,p.isList⟩
 |false=>
  obtain⟨its,rv,p,hz⟩:=I.tuple (show cL X.K H a xs from h);exact⟨its,rv,p⟩
theorem pf.inj{k:Bool}{a:ζ}{xs ys:List V}(I:L2.Inv X pins σ H s)(h:pf X.K k H a xs)(h':pf X.K k H a ys):xs=ys:=by
 cases k with
 |true=>exact I.zG (show fg X.K H a xs from h) (show fg X.K H a ys from h')
 |false=>exact I.yf (show cL X.K H a xs from h) (show cL X.K H a ys from h')
theorem pf.apart{k:Bool}{a b:ζ}{xs:List V}(I:L2.Inv X pins σ H s)(h:pf X.K k H a xs)(f:j4 X pins H b):a≠b:=by
 intro z;subst z;have hb:(∃u,H a=some u)∨∃o,X.K.lookup a=some o:=by
  cases k <;>
  ·rcases h with (h|⟨o,h⟩)|⟨o,_,_,h,_⟩
   ·exact .inl ⟨_,h⟩
   ·exact .inl ⟨_,h⟩
   ·exact .inr ⟨_,h⟩
 rcases hb with⟨u,e⟩|⟨o,e⟩
 ·rw[f.1] at e;cases e
 ·have e2:=I.mod.uD a o e;rcases f.2.2.2.1 with q|q
  ·exact I.ok.wu a o e2 q
  ·exact absurd (bu (Θ (I.ok.bs a o e2).1) q) (cE _)
end
def Oy(K:η)(k1 k2:Bool)(a1 a2:ζ):It:=
 ⟨fun i H=>∃xs ys x y,(pf K k1 H a1 xs/\xs[i]?=some x)/\pf K k2 H a2 ys/\ys[i]?=some y,
  fun i H x H'=>∃T u v,x=.ref T/\H T=none/\H'=upd H T (.tup [u,v])/\(∀xs,pf K k1 H a1 xs->xs[i]?=some u)/\∀ys,pf K k2 H a2 ys->ys[i]?=some v,
  fun i H=>∃xs ys,pf K k1 H a1 xs/\pf K k2 H a2 ys/\(xs.length≤i∨ys.length≤i)⟩
theorem Og{zz ti ot j1 j2 a1 a2:ζ}(h:[zz,ti,ot,j1,j2].Nodup)(h1:∀b∈[zz,ti,ot,j1,j2],a1≠b)(h2:∀b∈[zz,ti,ot,j1,j2],a2≠b):ZipApart zz ti ot j1 j2 a1 a2:=by
 simp only[dP,Ω,not_or,ba,not_false_eq_true,kz,and_true] at h;obtain⟨⟨n1,n2,n3,n4⟩,⟨n5,n6,n7⟩,⟨n8,n9⟩,n10⟩:=h;exact⟨dy n1,dy n2,dy n3,dy n4,n5,n6,n7,n8,n9,n10,h1 _ (by simp),h1 _ (by simp),h1 _ (by simp),h1 _ (by simp),h2 _ (by simp),h2 _ (by simp),h2 _ (by simp),h2 _ (by simp)⟩
theorem Tt{P:ag}{w:av}{K:η}{es:List υ}{n0:Nat}{ps:aN}(k1 k2:Bool)(a1 a2 zz ti ot j1 j2:ζ)(hd:[zz,ti,ot,j1,j2].Nodup):
  Turn P w K (.Tuple es n0 ps) (Oy K k1 k2 a1 a2) [zz,ti,ot,j1,j2] zz (fun i h=>lF h zz ti ot .none/\gV h ti (.ref j1) (.ref j2)/\(∃c d,gV h ot c d)/\Ik k1 h j1 a1 i/\Ik k2 h j2 a2 i) where
 mem:=by simp
 obj:=fun i h st b hb=>by
  obtain⟨Z,Ti,⟨c,d,To⟩,g1,g2⟩:=st;simp only[Ω,ba,or_false] at hb;rcases hb with rfl|rfl|rfl|rfl|rfl
  ·exact⟨_,Z,fun v z=>by cases (show nS _=lW v from z)⟩
  ·exact⟨_,Ti,fun v z=>by cases (show Data.seq _ _=lW v from z)⟩
  ·exact⟨_,To,fun v z=>by cases (show Data.seq _ _=lW v from z)⟩
  ·exact g1.obj
  ·exact g2.obj
 keep:=fun i h h' st k=>by
  obtain⟨Z,Ti,⟨c,d,To⟩,g1,g2⟩:=st;exact⟨k _ (by simp) _ Z,k _ (by simp) _ Ti,⟨c,d,k _ (by simp) _ To⟩,g1.of fun o e=>k _ (by simp) _ e,g2.of fun o e=>k _ (by simp) _ e⟩
 item:=by
  intro X hP hw hK hc i pins s σ H E I hf st hg;subst hP hw hK;obtain⟨Z,Ti,⟨c,d,To⟩,g1,g2⟩:=st;obtain⟨xs,ys,x,y,⟨q1,hx⟩,q2,hy⟩:=hg;obtain⟨its1,rv1,p1⟩:=q1.heap I;obtain⟨its2,rv2,p2⟩:=q2.heap I;obtain⟨u,hu,ru⟩:=rv1.get hx;obtain⟨v,hv,rv⟩:=rv2.get hy;have D:=Og hd (fun b hb=>q1.apart I (hf b hb)) (fun b hb=>q2.apart I (hf b hb));have hT:s.TypeIs (.ref zz) "zip":=⟨_,Z,rfl⟩;unfold pyNext;refine δ (gv (cm (name:=fk "__next__") hT F.slot_zip_next (bU F.slot_zip_next hT F.entry_zip_next (OC D Z Ti To g1 g2 p1 p2 (u:=u) (v:=v) (by simpa using hu) (by simpa using hv) fun h' Z' To' g1' g2' T' kp=>?_) (F.args_zip_next_1 _))));refine μ ⟨_,rfl,?_⟩;refine wpAny_letOwnedTupleGo_zip Z' fun h2 Z2 b2=>?_;have hn:H s.heap.objs.size=none:=I.bJ.fresh (Φ _);have I1:L2.Inv X pins σ (upd H s.heap.objs.size (.tup [x,y])) { s with heap:=s.heap.push { cls:=.type "tuple",data:=.seq #[u,v]}}:=I.laid (t':=s.toks) (fun b o e=>ι _ e) (Φ _) ⟨by show 2≤aw;decide,[u,v],.cons ru (.cons rv .nil),⟨_,ae _ rfl,rfl,⟨_,rfl⟩,rfl⟩⟩;have lt:∀b∈[zz,ti,ot,j1,j2],b<s.heap.objs.size:=fun b hb=>by
   simp only[Ω,ba,or_false] at hb;rcases hb with rfl|rfl|rfl|rfl|rfl
   ·exact Θ Z
   ·exact Θ Ti
   ·exact Θ To
   ·obtain⟨o,e,_⟩:=g1.obj;exact Θ e
   ·obtain⟨o,e,_⟩:=g2.obj;exact Θ e
  have hf':∀b∈[zz,ti,ot,j1,j2],j4 X pins (upd H s.heap.objs.size (.tup [x,y])) b:=fun b hb=>⟨by rw[dA (bf (lt b hb))];exact (hf b hb).1,(hf b hb).2⟩;have I2:L2.Inv X pins σ (upd H s.heap.objs.size (.tup [x,y])) { s with heap:=h2 }:=ve (s:={ s with heap:=s.heap.push { cls:=.type "tuple",data:=.seq #[u,v]}}) (t':=s.toks) I1 (fun b o hb e=>by
   simp only[Ω,ba,or_false,not_or] at hb;refine b2.extBut b o hb.1 ?_;rcases tM e with⟨rfl,rfl⟩|e
   ·exact T'
   ·exact kp b o hb.1 hb.2.2.1 hb.2.2.2.1 hb.2.2.2.2 e) hf'
  refine⟨.ref s.heap.objs.size,_,I2,rfl,⟨_,x,y,rfl,hn,rfl,fun zs hz=>by rw[hz.inj I q1];exact hx,fun zs hz=>by rw[hz.inj I q2];exact hy⟩,⟨Z2,?_,⟨u,v,?_⟩,g1'.of fun o e=>b2.extBut _ _ D.i1z e,g2'.of fun o e=>b2.extBut _ _ D.i2z e⟩,fun b hb=>(hf' b hb).1⟩
  ·exact b2.extBut _ _ D.TIz (kp _ _ D.TIz D.TITO D.TIi1 D.TIi2 Ti)
  ·exact b2.extBut _ _ D.TOz To'
 done:=by
  intro X hP hw hK hc i pins s σ H E I hf st hg;subst hP hw hK;obtain⟨Z,Ti,⟨c,d,To⟩,g1,g2⟩:=st;obtain⟨xs,ys,q1,q2,hl⟩:=hg;obtain⟨its1,rv1,p1⟩:=q1.heap I;obtain⟨its2,rv2,p2⟩:=q2.heap I;have D:=Og hd (fun b hb=>q1.apart I (hf b hb)) (fun b hb=>q2.apart I (hf b hb));have hT:s.TypeIs (.ref zz) "zip":=⟨_,Z,rfl⟩;have l1:=rv1.length;have l2:=rv2.length;unfold pyNext;refine δ (gv (cm (name:=fk "__next__") hT F.slot_zip_next (bU F.slot_zip_next hT F.entry_zip_next (Tu (I.ok.hd hc) D Z Ti To g1 g2 p1 p2 (by
   rcases hl with h|h
   ·exact .inl (by simp;lia)
   ·exact .inr (by simp;lia)) fun h' e kp hs=>?_) (F.args_zip_next_1 _))))
  obtain⟨o,ho,hcl⟩:=hs;refine δ (lK (T:="StopIteration") (b:=true) ⟨o,ho,hcl⟩ sh ?_);refine μ ⟨rfl,ve (t':=s.toks) I (fun b o hb e=>?_) hf⟩;simp only[Ω,ba,or_false,not_or] at hb;exact kp b o hb.1 hb.2.2.1 hb.2.2.2.1 hb.2.2.2.2 e
 self:=fun _ _ _ _ _ st h=>wpAny_pyIter_zip st.1 h
def Al(k:Bool)(a:ζ):aH:=match k with
 |true=>{ cls:=.type "list_iterator",data:=.fields #[.ref a,.int 0 0]}
 |false=>{ cls:=.type "tuple_iterator",data:=.fields #[.ref a,.int 0 0]}
def CZ(k1:Bool)(h:Ψ)(a1:ζ):Ψ:=h.push (Al k1 a1)
def CY(k1 k2:Bool)(h:Ψ)(a1 a2:ζ):Ψ:=(CZ k1 h a1).push (Al k2 a2)
def CW(k1 k2:Bool)(h:Ψ)(a1 a2:ζ):Ψ:=(CY k1 k2 h a1 a2).push { cls:=.type "tuple",data:=.seq #[.ref h.objs.size,.ref (CZ k1 h a1).objs.size]}
def Ab(k1 k2:Bool)(h:Ψ)(a1 a2:ζ):Ψ:=(CW k1 k2 h a1 a2).push { cls:=.type "tuple",data:=.seq #[.none,.none]}
def lY(k1 k2:Bool)(h:Ψ)(a1 a2:ζ):Ψ:=(Ab k1 k2 h a1 a2).push { cls:=.type "zip",data:=.fields #[.none,.bool false,.bool false,.ref (CY k1 k2 h a1 a2).objs.size,.ref (CW k1 k2 h a1 a2).objs.size]}
theorem Ol{k:Bool}{h:Ψ}{jt a:ζ}(e:h.get? jt=some (Al k a)):Ik k h jt a 0:=by
 cases k<;>exact⟨_,e,rfl,rfl⟩
theorem KQ{k:Bool}{a:ζ}:(Al k a).isFreed=false:=by cases k<;>rfl
theorem Ts(k1 k2:Bool)(a1 a2:ζ)(xs ys:Array ε):Meets (di.«zip.__new__» ⟨[.type "zip",.ref a1,.ref a2],[]⟩) (fun _ R s=>Sk k1 s.heap a1 xs/\Sk k2 s.heap a2 ys ∧
   R (.ok (.ret (.ref (Ab k1 k2 s.heap a1 a2).objs.size))) { s with heap:=lY k1 k2 s.heap a1 a2 }):=
 .of_wp fun prog w A R s h=>by
  obtain⟨hp,g,d,tk,os⟩:=s;obtain⟨h1,h2,h⟩:=h;have hsub:=sub_zip;cases k1<;>cases k2
  ·have q1:qD (iu ⟨hp,g,d,tk,os⟩) a1 xs:=h1;have q2:qD (iu ⟨hp.push { cls:=.type "tuple_iterator",data:=.fields #[.ref a1,.int 0 0]},g,d,tk,os⟩) a2 ys:=vI h2 _;wp_walk using ig q1,ig q2;exact⟨_,rfl,h⟩
  ·have q1:qD (iu ⟨hp,g,d,tk,os⟩) a1 xs:=h1;have q2:rQ (iu ⟨hp.push { cls:=.type "tuple_iterator",data:=.fields #[.ref a1,.int 0 0]},g,d,tk,os⟩) a2 ys:=wN h2 _;wp_walk using ig q1,fw q2;exact⟨_,rfl,h⟩
  ·have q1:rQ (iu ⟨hp,g,d,tk,os⟩) a1 xs:=h1;have q2:qD (iu ⟨hp.push { cls:=.type "list_iterator",data:=.fields #[.ref a1,.int 0 0]},g,d,tk,os⟩) a2 ys:=vI h2 _;wp_walk using fw q1,ig q2;exact⟨_,rfl,h⟩
  ·have q1:rQ (iu ⟨hp,g,d,tk,os⟩) a1 xs:=h1;have q2:rQ (iu ⟨hp.push { cls:=.type "list_iterator",data:=.fields #[.ref a1,.int 0 0]},g,d,tk,os⟩) a2 ys:=wN h2 _;wp_walk using fw q1,fw q2;exact⟨_,rfl,h⟩
theorem KP{k1 k2:Bool}{h:Ψ}{a1 a2:ζ}:lF (lY k1 k2 h a1 a2) (h.objs.size+4) (h.objs.size+2) (h.objs.size+3) .none/\gV (lY k1 k2 h a1 a2) (h.objs.size+2) (.ref h.objs.size) (.ref (h.objs.size+1))/\gV (lY k1 k2 h a1 a2) (h.objs.size+3) .none .none ∧
  Ik k1 (lY k1 k2 h a1 a2) h.objs.size a1 0/\Ik k2 (lY k1 k2 h a1 a2) (h.objs.size+1) a2 0/\(Ab k1 k2 h a1 a2).objs.size=h.objs.size+4/\∀c o,h.get? c=some o->(lY k1 k2 h a1 a2).get? c=some o:=by
 have e1:(CZ k1 h a1).objs.size=h.objs.size+1:=dN ..;have e2:(CY k1 k2 h a1 a2).objs.size=h.objs.size+2:=(dN ..).trans (by rw[e1]);have e3:(CW k1 k2 h a1 a2).objs.size=h.objs.size+3:=(dN ..).trans (by rw[e2]);have e4:(Ab k1 k2 h a1 a2).objs.size=h.objs.size+4:=(dN ..).trans (by rw[e3]);have u5:∀c o,(Ab k1 k2 h a1 a2).get? c=some o->(lY k1 k2 h a1 a2).get? c=some o:=fun c o e=>ι _ e;have u4:∀c o,(CW k1 k2 h a1 a2).get? c=some o->(lY k1 k2 h a1 a2).get? c=some o:=fun c o e=>u5 c o (ι _ e);have u3:∀c o,(CY k1 k2 h a1 a2).get? c=some o->(lY k1 k2 h a1 a2).get? c=some o:=fun c o e=>u4 c o (ι _ e);have u2:∀c o,(CZ k1 h a1).get? c=some o->(lY k1 k2 h a1 a2).get? c=some o:=fun c o e=>u3 c o (ι _ e);have u1:∀c o,h.get? c=some o->(lY k1 k2 h a1 a2).get? c=some o:=fun c o e=>u2 c o (ι _ e);have g5:(lY k1 k2 h a1 a2).get? (Ab k1 k2 h a1 a2).objs.size=some _:=ae _ rfl;have g4:(lY k1 k2 h a1 a2).get? (CW k1 k2 h a1 a2).objs.size=some _:=u5 _ _ (ae _ rfl);have g3:(lY k1 k2 h a1 a2).get? (CY k1 k2 h a1 a2).objs.size=some _:=u4 _ _ (ae _ rfl);have g2:(lY k1 k2 h a1 a2).get? (CZ k1 h a1).objs.size=some (Al k2 a2):=u3 _ _ (ae _ KQ);have g1:(lY k1 k2 h a1 a2).get? h.objs.size=some (Al k1 a1):=u2 _ _ (ae _ KQ);rw[e2,e3,e4] at g5;rw[e1,e2] at g3;rw[e3] at g4;rw[e1] at g2;exact⟨g5,g3,g4,Ol g1,Ol g2,e4,u1⟩
theorem Tr{P:ag}{w:av}{A:aJ}{E:ε->θ->Prop}{s:θ}{k1 k2:Bool}{a1 a2:ζ}{xs ys:Array ε}{Q:ε->θ->Prop}(h1:Sk k1 s.heap a1 xs)(h2:Sk k2 s.heap a2 ys)
  (q:Q (.ref (s.heap.objs.size+4)) { s with heap:=lY k1 k2 s.heap a1 a2 }):ρ (model P w) A (call (.type "zip") [.ref a1,.ref a2]) Q E s:=by
 refine callType_new F.called_zip (by decide) (F.typeCall_zip_2 _ _) (F.newCall_zip_2 _ _) (fun obj=>F.args_object_init_3 obj _ _) F.entry_zip_new (Ts k1 k2 a1 a2 xs ys) ⟨h1,h2,?_⟩;obtain⟨z1,_,_,_,_,z2,_⟩:=KP (k1:=k1) (k2:=k2) (h:=s.heap) (a1:=a1) (a2:=a2);show _/\_;rw[z2];exact⟨⟨_,z1,rfl⟩,q⟩
section
variable {X:Cx} {es:List υ} {n0:Nat} {ps p pos:aN}
def aaP(K:η)(ta:TA):TI:=fun σ H R=>ta σ H fun vs H1=>∃k1 k2 a1 a2,vs=[.ref a1,.ref a2]/\(∃xs,pf K k1 H1 a1 xs)/\(∃ys,pf K k2 H1 a2 ys)/\R (Oy K k1 k2 a1 a2) H1
theorem Tq{a b:υ}{ta:TA}(hg:Gl X "zip")(hm:X.mg "zip" = none)(ha:PA X [a,b] ta)(hs:bI [a,b] X.env=[(false,eval a X.env),(false,eval b X.env)]:=by rfl)(hs2:bI [b] X.env=[(false,eval b X.env)]:=by rfl):
  PI X (.Tuple es n0 ps) (.Call (.Name "zip" p) [a,b] [] pos) (aaP X.K ta):=by
 intro pins s σ H R I h;refine Call_ (xJ I hg hm boot_zip (fW (bO (ha pos pins s σ H _ I h) fun us s1 ⟨vs,H1,I1,r1,q1⟩=>?_) (by rw[hs,hs2]) (by rw[hs2];rfl)));obtain⟨k1,k2,a1,a2,e,⟨xs,q1⟩,⟨ys,q2⟩,q⟩:=q1;subst e;cases r1 with
 |cons r rr=>
  cases rr with
  |cons r' rr=>
   cases rr;cases r;cases r';obtain⟨its1,rv1,p1⟩:=q1.heap I1;obtain⟨its2,rv2,p2⟩:=q2.heap I1;refine Tr p1 p2 ?_;obtain⟨z1,z2,z3,z4,z5,z6,z7⟩:=KP (k1:=k1) (k2:=k2) (h:=s1.heap) (a1:=a1) (a2:=a2);refine wpAny_pyIter_zip (s:={ s1 with heap:=lY k1 k2 s1.heap a1 a2 }) z1 ?_
   refine⟨s1.heap.objs.size+4,[s1.heap.objs.size+4,s1.heap.objs.size+2,s1.heap.objs.size+3,s1.heap.objs.size,s1.heap.objs.size+1],_,_,H1,rfl,I1.kept (t':=s1.toks) z7,Tt k1 k2 a1 a2 _ _ _ _ _ (by simp),⟨z1,z2,⟨_,_,z3⟩,z4,z5⟩,fun b hb=>?_,q⟩;have hb:s1.heap.objs.size≤b:=by
    simp only[Ω,ba,or_false] at hb;rcases hb with rfl|rfl|rfl|rfl|rfl
    ·exact fK _ _
    ·exact fK _ _
    ·exact fK _ _
    ·exact Φ _
    ·exact fK _ _
   exact I1.tj hb (I1.bJ.fresh hb)
def ra(G:Gp):D->List D->Prop
 |.obj p,ds=>G p=some (.lst ds)
 |.tup es,ds=>ds=es
 |.fy es,ds=>ds=es
 |_,_=>False
def vZ(xs ys:List D):List D:=uW (fun x y=>.tup [x,y]) xs ys
def BF(ta:dB):pd:=fun τ G R=>ta τ G fun ds G1=>match ds with
 |[x,y]=>∃xs ys,ra G1 x xs/\ra G1 y ys/\R ⟨vZ xs ys,fun G=>ra G x xs/\ra G y ys⟩ G1
 |_=>False
theorem KO{K:η}{H:Hp}{x:D}{v:V}(hv:Hv K H x v):∃k,∀H' G' xs,Ext H H'->aV K G' H'->ra G' x xs->∃a vs,v=.ref a/\pf K k H' a vs/\aR K H' xs vs:=by
 cases x with
 |obj p=>
  unfold Hv at hv;subst hv;refine⟨true,fun H' G' xs E RG h=>?_⟩;obtain⟨vs,e2,e3⟩:=RG p _ h;exact⟨p,vs,rfl,fg.of e2,e3⟩
 |tup es=>
  unfold Hv at hv;obtain⟨a,vs,rfl,e2,e3⟩:=hv;refine⟨false,fun H' G' xs E RG h=>?_⟩;cases (show xs=es from h);exact⟨a,vs,rfl,cL.ext E e2,e3.ext E⟩
 |fy es=>
  unfold Hv at hv;obtain⟨a,vs,rfl,e2,e3⟩:=hv;refine⟨true,fun H' G' xs E RG h=>?_⟩;cases (show xs=es from h);exact⟨a,vs,rfl,(pj.ext E e2).l,e3.ext E⟩
 |aB=>exact⟨true,fun _ _ _ _ _ h=>h.elim⟩
 |bl _=>exact⟨true,fun _ _ _ _ _ h=>h.elim⟩
 |int _=>exact⟨true,fun _ _ _ _ _ h=>h.elim⟩
 |str _=>exact⟨true,fun _ _ _ _ _ h=>h.elim⟩
 |dc _=>exact⟨true,fun _ _ _ _ _ h=>h.elim⟩
theorem Tp{xs ys:List D}{i:Nat}{d:D}(h:(vZ xs ys)[i]?=some d):∃x y,xs[i]?=some x/\ys[i]?=some y/\d=.tup [x,y]:=by
 unfold vZ at h;rw[lV] at h;cases hx:xs[i]? with
 |none=>rw[hx] at h;cases h
 |some x=>
  cases hy:ys[i]? with
  |none=>rw[hx,hy] at h;cases h
  |some y=>
   rw[hx,hy] at h;cases h;exact⟨x,y,rfl,rfl,rfl⟩
theorem Tn{a b:υ}{ta:dB}(hm:X.mg "zip" = none)(ha:kG X [a,b] ta)(hg:Gl X "zip":=by rfl)(hs:notStar a=true:=by rfl)(hs2:notStar b=true:=by rfl):
  xc X (.Tuple es n0 ps) (.Call (.Name "zip" p) [a,b] [] pos) (BF ta):=
 Bb (Tq hg hm ha (by rw[fP hs,fP hs2];rfl) (fP hs2)) fun σ H R ⟨τ,G,R3,RS,RG,h,k⟩=>⟨τ,G,_,RS,RG,h,fun vs H1 ds G1 h1 S1 R1 q1=>by
  rcases ds with _|⟨d,_|⟨d2,_|⟨d3,ds⟩⟩⟩
  ·exact q1.elim
  ·exact q1.elim
  ·obtain⟨xs,ys,s1,s2,q⟩:=q1;obtain⟨v,r,rfl,z1,z2⟩:=h1.inv;obtain⟨v',r',rfl,z3,z4⟩:=z2.inv;cases z4.i5;obtain⟨k1,f1⟩:=KO z1;obtain⟨k2,f2⟩:=KO z3;obtain⟨a1,vs1,rfl,y1,w1⟩:=f1 _ _ _ (Ext.refl _) R1 s1;obtain⟨a2,vs2,rfl,y2,w2⟩:=f2 _ _ _ (Ext.refl _) R1 s2;refine⟨k1,k2,a1,a2,rfl,⟨_,y1⟩,⟨_,y2⟩,k _ _ _ _ ⟨?_,?_⟩ S1 R1 q⟩
   ·intro i d H' G' E' RG' hg hi;obtain⟨x,y,e1,e2,rfl⟩:=Tp hi;obtain⟨b1,us1,c1,m1,n1⟩:=f1 _ _ _ E' RG' hg.1;obtain⟨b2,us2,c2,m2,n2⟩:=f2 _ _ _ E' RG' hg.2;cases c1;cases c2;obtain⟨u1,o1,o2⟩:=n1.get e1;obtain⟨u2,o3,o4⟩:=n2.get e2;refine⟨⟨_,_,_,_,⟨m1,o1⟩,m2,o3⟩,fun x' H'' hy=>?_⟩;obtain⟨T,u,v,rfl,hn,rfl,t1,t2⟩:=hy;have:=t1 _ m1;rw[o1] at this;cases this;have:=t2 _ m2;rw[o3] at this;cases this;refine⟨?_,.laid hn,RG'.laid hn⟩;unfold Hv;exact⟨T,_,rfl,.of g6,.cons (o2.ext (.laid hn)) (.cons (o4.ext (.laid hn)) .nil)⟩
   ·intro i H' G' E' RG' hg hi;obtain⟨b1,us1,c1,m1,n1⟩:=f1 _ _ _ E' RG' hg.1;obtain⟨b2,us2,c2,m2,n2⟩:=f2 _ _ _ E' RG' hg.2;cases c1;cases c2;refine⟨_,_,m1,m2,?_⟩;have hi:(vZ xs ys).length≤i:=hi;unfold vZ at hi;rw[mZ] at hi;rw[←n1.length,←n2.length];lia
  ·exact q1.elim⟩
end
end L3
namespace L2
open PySem PySem.Spec PyProof.Rows
def zS(lo c:Int)(n:Nat):It:=⟨fun i _=>i<n,fun i H x H'=>H'=H/\x=.int (lo+i*c),fun i _=>n≤i⟩
theorem Tj{P:ag}{w:av}{K:η}{tg:υ}(it:ζ)(lo c:Int)(n:Nat):Turn P w K tg (zS lo c n) [it] it (fun i h=>rP h it (lo+(i:Nat)*c) ((n:Int)-(i:Nat)) c) where
 mem:=by simp
 obj:=fun i h st b hb=>by
  have e:b=it:=by simpa using hb
  subst e;exact⟨_,st,fun v z=>by
   have z':nS _=lW v:=z;cases z'⟩
 keep:=fun i h h' st k=>k it (by simp) _ st
 item:=by
  intro X hP hw hK hc i pins s σ H E I hf st hg;subst hP hw hK;obtain⟨f0,f1,f2,f3,f4,f5⟩:=hf it (by simp);have W:=Walks.range (prog:=X.prog) (w:=X.w) (I.ok.hd hc) it lo c n;refine W.item i s _ _ hg st fun v h' tk hv st' kk=>?_;obtain⟨t,rfl⟩:=hv;have I1:Inv X pins σ H { s with heap:=h',toks:=tk }:=I.turned (fun b o hb e=>kk b o (by simpa using hb) e) f0 f1 f3 f4 f5;refine⟨_,rfl,zo (s:={ s with heap:=h',toks:=tk }) (n:="range_iterator") st' rfl rfl (by decide) ⟨.int (lo+i*c),H,I1,⟨t,rfl⟩,⟨rfl,rfl⟩,st',fun b hb=>(hf b hb).1⟩⟩
 done:=by
  intro X hP hw hK hc i pins s σ H E I hf st hg;subst hP hw hK;obtain⟨f0,f1,f2,f3,f4,f5⟩:=hf it (by simp);exact wpAny_pyNext_range_end (I.ok.hd hc) st (by have:n≤i:=hg;lia) fun h' eb=>⟨rfl,I.turned (t':=s.toks) (fun b o hb e=>eb b o hb e) f0 f1 f3 f4 f5⟩
 self:=fun _ _ _ _ _ st h=>wpAny_pyIter_rangeiter st h
end L2
namespace L3
open PySem PySem.Spec PyProof.Rows L2
section
variable {X:Cx} {tg:υ} {p pos:aN}
def sG(lo c:Int)(n:Nat):List D:=(ar n).map fun i:Nat=>.int (lo+(i:Int)*c)
theorem Th{lo c:Int}{n i:Nat}{d:D}(h:(sG lo c n)[i]?=some d):i<n/\d=.int (lo+(i:Int)*c):=by
 unfold sG at h;rw[aK] at h;by_cases hi:i<n
 ·rw[m3 hi] at h;simp at h;exact⟨hi,h.symm⟩
 ·rw[dh.mpr (by simpa using hi)] at h;cases h
theorem Tg(lo c:Int)(n:Nat):(sG lo c n).length=n:=by simp[sG]
theorem Ua{K:η}{H:Hp}(lo c:Int)(n:Nat):CH K H (zS lo c n) ⟨sG lo c n,fun _=>True⟩:=⟨by
 intro i d H' G' _ RG _ hi;obtain⟨h1,h2⟩:=Th hi;refine⟨h1,fun x H'' hy=>?_⟩;obtain⟨rfl,rfl⟩:=hy;exact⟨by rw[h2];simp[Hv],.refl _ _,RG⟩,by
 intro i H' G' _ RG _ hi;rw[Tg] at hi;exact hi⟩
abbrev Dg:R3:=Af fun i j=>.int (i+j)
theorem T9{K:η}:fh K Dg (Om fun i j=>i+j):=low_ints fun _ _ _=>nW
end
end L3
namespace L3
open PySem PySem.Spec PyProof.Rows L2
structure QE(X:Cx)(e:υ)(t:aQ):Prop where
 of:bN X e t
structure QT(X:Cx)(e:υ)(t:cU):Prop where
 of:rY X e t
structure QW(X:Cx)(e:υ)(t:cU):Prop where
 of:yl X e t
structure QA(X:Cx)(es:List υ)(t:dB):Prop where
 of:kG X es t
structure QS(X:Cx)(st:aM)(t:ao):Prop where
 of:pk X st t
structure qO(X:Cx)(st:List aM)(t:ao):Prop where
 of:jC X st t
structure QG(X:Cx)(tg:υ)(t:iT):Prop where
 of:xf X tg t
structure Hf(X:Cx)(tgs:List υ)(t:qg):Prop where
 of:zQ X tgs t
structure QI(X:Cx)(tg iter:υ)(t:pd):Prop where
 of:xc X tg iter t
structure QO(X:Cx)(e:Option υ)(t:yj):Prop where
 of:Dw X e t
structure QC(X:Cx)(ifs:List υ)(t:cU):Prop where
 of:vP X ifs (sS X.K t)
section
variable {X:Cx} {a b e c:υ} {ta tb te:aQ} {tA tB:cU} {pos:aN} {es rest:List υ}
theorem χ{i:Nat}{x:ν}(h:PE X (.Name x pos) (Av i)):QE X (.Name x pos) (ο i):=⟨Wy (h:=h)⟩
end
section
variable {X:Cx} {a b e c:υ} {ta tb te:aQ} {tA tB:cU} {pos:aN} {es rest:List υ}
theorem aU{i:Int}{j}:QE X (.Constant (.int i) j pos) (eC (.int i)):=⟨Wx ⟩
end
section
variable {X:Cx} {a b e c:υ} {ta tb te:aQ} {tA tB:cU} {pos:aN} {es rest:List υ}
theorem sN{i:Bool}{j}:QE X (.Constant (.bool i) j pos) (eC (.bl i)):=⟨aaY ⟩
end
section
variable {X:Cx} {a b e c:υ} {ta tb te:aQ} {tA tB:cU} {pos:aN} {es rest:List υ}
theorem xC{j}:QE X (.Constant .none j pos) (eC .aB):=⟨Ww ⟩
end
section
variable {X:Cx} {a b e c:υ} {ta tb te:aQ} {tA tB:cU} {pos:aN} {es rest:List υ}
theorem kO{x:ν}{j}:QE X (.Constant (.str x) j pos) (eC (.str x)):=⟨Wv ⟩
end
section
variable {X:Cx} {a b e c:υ} {ta tb te:aQ} {tA tB:cU} {pos:aN} {es rest:List υ}
theorem KN{x:ν}{i:Int}{u:Tok}(hm:X.mg x=some (.int i u))(hg:Gl X x:=by rfl)(hd:(x==("__debug__":ν))=false:=by decide):QE X (.Name x pos) (eC (.int i)):=⟨Wu (hm:=hm) (hg:=hg) (hd:=hd)⟩
end
section
variable {X:Cx} {a b e c:υ} {ta tb te:aQ} {tA tB:cU} {pos:aN} {es rest:List υ}
theorem bM{op:nE}{r:R3}{r2:R2}(L:fh X.K r r2)(ho:eZ X (binaryOp op) r2)(ha:QE X a ta)(hb:QE X b tb):QE X (.BinOp a op b pos) (ax r ta tb):=⟨aaW (L:=L) (ho:=ho) (ha:=ha.of) (hb:=hb.of)⟩
end
section
variable {X:Cx} {a b e c:υ} {ta tb te:aQ} {tA tB:cU} {pos:aN} {es rest:List υ}
theorem ze{op:CmpOp}{r:R3}{r2:R2}(L:fh X.K r r2)(ho:eZ X (compareOp op) r2)(ha:QE X a ta)(hb:QE X b tb)(hm:behindInMarks op b=false):QE X (.Compare a [op] [b] pos) (ax r ta tb):=⟨Wt (L:=L) (ho:=ho) (ha:=ha.of) (hb:=hb.of) (hm:=hm)⟩
end
section
variable {X:Cx} {a b e c:υ} {ta tb te:aQ} {tA tB:cU} {pos:aN} {es rest:List υ}
theorem gx{op:CmpOp}{r:R3}{r2:R2}(L:fh X.K r r2)(ho:eZ X (compareOp op) r2)(ha:QE X a ta)(hb:QE X b tb)(hm:behindInMarks op b=false):QT X (.Compare a [op] [b] pos) (bT (ax r ta tb)):=⟨Ws (L:=L) (ho:=ho) (ha:=ha.of) (hb:=hb.of) (hm:=hm)⟩
end
section
variable {X:Cx} {a b e c:υ} {ta tb te:aQ} {tA tB:cU} {pos:aN} {es rest:List υ}
theorem xB(h:QE X a ta)(he:∀whole,isTrue a X.env whole=(do let v ←whole;standAt a.pos;holding [v] (truthy v)):=by intro _;rfl):QT X a (bT ta):=⟨VQ (h:=h.of) (he:=he)⟩
end
section
variable {X:Cx} {a b e c:υ} {ta tb te:aQ} {tA tB:cU} {pos:aN} {es rest:List υ}
theorem KL(ha:QE X a ta):QE X (.UnaryOp .USub a pos) (GR yp ta):=⟨VP (ha:=ha.of)⟩
end
section
variable {X:Cx} {a b e c:υ} {ta tb te:aQ} {tA tB:cU} {pos:aN} {es rest:List υ}
theorem KJ(ha:QT X a tA):QW X (.BoolOp .And [a] pos) tA:=⟨VO (ha:=ha.of)⟩
end
section
variable {X:Cx} {a b e c:υ} {ta tb te:aQ} {tA tB:cU} {pos:aN} {es rest:List υ}
theorem zd(ha:QT X a tA):QW X (.BoolOp .Or [a] pos) tA:=⟨VN (ha:=ha.of)⟩
end
section
variable {X:Cx} {a b e c:υ} {ta tb te:aQ} {tA tB:cU} {pos:aN} {es rest:List υ}
theorem KI(ha:QT X a tA)(hb:QW X (.BoolOp .And (b::rest) pos) tB):QW X (.BoolOp .And (a::b::rest) pos) (Cb tA tB):=⟨VM (ha:=ha.of) (hb:=hb.of)⟩
end
section
variable {X:Cx} {a b e c:υ} {ta tb te:aQ} {tA tB:cU} {pos:aN} {es rest:List υ}
theorem zc(ha:QT X a tA)(hb:QW X (.BoolOp .Or (b::rest) pos) tB):QW X (.BoolOp .Or (a::b::rest) pos) (zN tA tB):=⟨VL (ha:=ha.of) (hb:=hb.of)⟩
end
section
variable {X:Cx} {a b e c:υ} {ta tb te:aQ} {tA tB:cU} {pos:aN} {es rest:List υ}
theorem wd(h:QW X a tA):QT X a tA:=⟨OD (h:=h.of)⟩
end
section
variable {X:Cx} {a b e c:υ} {ta tb te:aQ} {tA tB:cU} {pos:aN} {es rest:List υ}
theorem AY(ha:QT X a tA):QT X (.UnaryOp .Not a pos) (yc tA):=⟨VJ (ha:=ha.of)⟩
end
section
variable {X:Cx} {a b e c:υ} {ta tb te:aQ} {tA tB:cU} {pos:aN} {es rest:List υ}
theorem Bt{op}(h:QE X a ta):QE X (.BoolOp op [a] pos) ta:=⟨VI (h:=h.of)⟩
end
section
variable {X:Cx} {a b e c:υ} {ta tb te:aQ} {tA tB:cU} {pos:aN} {es rest:List υ}
theorem Bs(ha:QE X a ta)(hb:QE X (.BoolOp .And (b::rest) pos) tb):QE X (.BoolOp .And (a::b::rest) pos) (w9 ta tb):=⟨VH (ha:=ha.of) (hb:=hb.of)⟩
end
section
variable {X:Cx} {a b e c:υ} {ta tb te:aQ} {tA tB:cU} {pos:aN} {es rest:List υ}
theorem KH(ha:QE X a ta):QE X (.UnaryOp .Not a pos) (B7 ta):=⟨VG (ha:=ha.of)⟩
end
section
variable {X:Cx} {a b e c:υ} {ta tb te:aQ} {tA tB:cU} {pos:aN} {es rest:List υ}
theorem aP  : QA X [] ai:=⟨VF ⟩
end
section
variable {X:Cx} {a b e c:υ} {ta tb te:aQ} {tA tB:cU} {pos:aN} {es rest:List υ}
theorem Δ{tr:dB}(ha:QE X a ta)(hr:QA X es tr)(hs:notStar a=true:=by rfl):QA X (a::es) (ξ ta tr):=⟨VE (ha:=ha.of) (hr:=hr.of) (hs:=hs)⟩
end
section
variable {X:Cx} {a b e c:υ} {ta tb te:aQ} {tA tB:cU} {pos:aN} {es rest:List υ}
theorem p8{t:dB}{x1}(h:QA X es t):QE X (.Tuple es x1 pos) (nv t):=⟨VD (h:=h.of)⟩
end
section
variable {X:Cx} {a b e c:υ} {ta tb te:aQ} {tA tB:cU} {pos:aN} {es rest:List υ}
theorem lR{t:dB}(h:QA X es t):QE X (.List es pos) (gP t):=⟨VC (h:=h.of)⟩
end
section
variable {X:Cx} {st:aM} {rest:List aM} {t u:ao} {e c:υ} {te:aQ} {tc:cU} {pos:aN}
theorem lS  : qO X [] fb:=⟨Vv ⟩
end
section
variable {X:Cx} {st:aM} {rest:List aM} {t u:ao} {e c:υ} {te:aQ} {tc:cU} {pos:aN}
theorem bR(h1:QS X st t)(h2:qO X rest u):qO X (st::rest) (aY t u):=⟨Vu (h1:=h1.of) (h2:=h2.of)⟩
end
section
variable {X:Cx} {st:aM} {rest:List aM} {t u:ao} {e c:υ} {te:aQ} {tc:cU} {pos:aN}
theorem bZ(h1:QS X st t):qO X [st] t:=⟨Vt (h1:=h1.of)⟩
end
section
variable {X:Cx} {st:aM} {rest:List aM} {t u:ao} {e c:υ} {te:aQ} {tc:cU} {pos:aN}
theorem xU(he:QE X e te)(hs:swapsWith e none pos.line X.env=pure false:=by rfl):QS X (.Expr e pos) (qM te):=⟨Vs (he:=he.of) (hs:=hs)⟩
end
section
variable {X:Cx} {st:aM} {rest:List aM} {t u:ao} {e c:υ} {te:aQ} {tc:cU} {pos:aN}
theorem eE(he:QE X e te):QS X (.Return (some e) pos) (cP te):=⟨Vr (he:=he.of)⟩
end
section
variable {X:Cx} {st:aM} {rest:List aM} {t u:ao} {e c:υ} {te:aQ} {tc:cU} {pos:aN}
theorem jI{a b:List aM}(hc:QT X c tc)(ha:qO X a t)(hb:qO X b u):QS X (.If c a b pos) (ix tc t u):=⟨OO (hc:=hc.of) (ha:=ha.of) (hb:=hb.of)⟩
end
section
variable {X:Cx} {pos:aN} {e:υ} {es:List υ}
theorem iG{i:Nat}{x:ν}(hN:X.N.Nodup)(hi:X.N[i]?=some x:=by rfl)(hx:Loc X.env.scope x:=by first|exact ka rfl|exact ip rfl)(hf:X.fn x=true∨X.env.scope.names.lookup x=some .local:=by first|exact .inl rfl|exact .inr rfl|assumption):QG X (.Name x pos) (hName i):=⟨Vq (hN:=hN) (hi:=hi) (hx:=hx) (hf:=hf)⟩
end
section
variable {X:Cx} {pos:aN} {e:υ} {es:List υ}
theorem xT  : Hf X [] uJ:=⟨V0 ⟩
end
section
variable {X:Cx} {pos:aN} {e:υ} {es:List υ}
theorem oF{t:iT}{u:qg}(h1:QG X e t)(h2:Hf X es u)(hs:(assignEach (e::es) X.env).map (·.2)=assign e X.env::(assignEach es X.env).map (·.2):=by rfl):Hf X (e::es) (jK t u):=⟨VZ (h1:=h1.of) (h2:=h2.of) (hs:=hs)⟩
end
section
variable {X:Cx} {pos:aN} {e:υ} {es:List υ}
theorem xS{k:Nat}{t:qg}{n:Nat}(hc:X.calm=true)(h:Hf X es t)(hn:(assignEach es X.env).length=n:=by rfl)(hst:(assignEach es X.env).findIdx? (·.1)=none:=by rfl):QG X (.Tuple es k pos) (uI n t):=⟨VY (hc:=hc) (h:=h.of) (hn:=hn) (hst:=hst)⟩
end
section
variable {X:Cx} {pos:aN} {e:υ} {es:List υ}
theorem EH{tg:υ}{te:aQ}{g:iT}(he:QE X e te)(hg:QG X tg g)(hs:swapsWithSole [tg] e pos.line X.env=pure false:=by rfl)(hw:swappedStores [tg] e X.env=pure none:=by rfl)(h1:(assignEach [tg] X.env).map (·.2)=[assign tg X.env]:=by rfl):QS X (.Assign [tg] e pos) (bt te g):=⟨VX (he:=he.of) (hg:=hg.of) (hs:=hs) (hw:=hw) (h1:=h1)⟩
end
section
variable {X:Cx} {pos:aN} {e:υ} {es:List υ}
theorem da{i:Nat}{x:ν}{te:aQ}{pos':aN}(hN:X.N.Nodup)(he:QE X e te)(hi:X.N[i]?=some x:=by rfl)(hx:Loc X.env.scope x:=by first|exact ka rfl|exact ip rfl)(hs:swapsWith e (some (.Name x pos')) pos.line X.env=pure false:=by rfl)(hf:X.fn x=true∨X.env.scope.names.lookup x=some .local:=by first|exact .inl rfl|exact .inr rfl|assumption):QS X (.Assign [.Name x pos'] e pos) (bt te (hName i)):=⟨VW (hN:=hN) (he:=he.of) (hi:=hi) (hx:=hx) (hs:=hs) (hf:=hf)⟩
end
section
variable {X:Cx} {pos:aN} {e:υ} {es:List υ}
theorem T6{i:Nat}{x:ν}{te:aQ}{op:nE}{r:R3}{r2:Aq}{pos':aN}(L:fh X.K r r2)(hN:X.N.Nodup)(he:QE X e te)(ho:Hg X op r2)(hi:X.N[i]?=some x:=by rfl)(hx:Loc X.env.scope x:=by first|exact ka rfl|exact ip rfl)(hf:X.fn x=true∨X.env.scope.names.lookup x=some .local:=by first|exact .inl rfl|exact .inr rfl|assumption):QS X (.AugAssign (.Name x pos') op e pos) (Az i te r):=⟨VU (L:=L) (hN:=hN) (he:=he.of) (ho:=ho) (hi:=hi) (hx:=hx) (hf:=hf)⟩
end
section
variable {X:Cx} {pos:aN} {e:υ} {es:List υ}
theorem KG{o i:υ}{to ti:aQ}(ho:QE X o to)(hi:QE X i ti) (ha:∀v,assign (.Subscript o i pos) X.env v=(do
   let ov ←holding [v] (eval o X.env)
   let iv ←holding [v,ov] (eval i X.env)
   standAt pos
   holding [v,ov,iv] (setItem ov iv v)
   release [v,ov,iv] []):=by intro _;rfl):QG X (.Subscript o i pos) (hSub to ti):=⟨VS (ho:=ho.of) (hi:=hi.of) (ha:=ha)⟩
end
section
variable {X:Cx} {pos:aN} {e:υ} {es:List υ}
theorem zb{c:υ}{body:List aM}{tc:cU}{tb:ao}(hp:lU (model X.prog X.w) X.A X.env X.xe)(hc:QT X c tc)(hb:qO X body tb):QS X (.While c body [] pos) (nV tc tb):=⟨VR (hp:=hp) (hc:=hc.of) (hb:=hb.of)⟩
end
section
variable {X:Cx} {k:Nat} {f:ζ} {fd:aq} {ps:List ν} {sp:eO} {x:ν} {p pos:aN} {e:υ} {es:List υ} {t:dB}
theorem dw(F:dC X.prog X.w X.K X.mg X.base k f fd ps sp)(hr:dW k X.A)(hm:X.mg x=some (.ref f))(hk:bW X.K (.ref f)=true)(hb:Binds X.K fd ps [])(ha:QA X (e::es) t)(hg:Gl X x:=by rfl)(hdb:(x==("__debug__":ν))=false:=by decide)(he:notStar e=true:=by rfl)(hpl:es.all notStar=true:=by rfl):QE X (.Call (.Name x p) (e::es) [] pos) (bo sp t):=⟨Vf (F:=F) (hr:=hr) (hm:=hm) (hk:=hk) (hb:=hb) (ha:=ha.of) (hg:=hg) (hdb:=hdb) (he:=he) (hpl:=hpl)⟩
end
section
variable {X:Cx} {tg iter:υ} {pos p:aN}
theorem sM{l:υ}{te:aQ}(hl:QE X l te):QI X tg l (qc te):=⟨Ve (hl:=hl.of)⟩
end
section
variable {X:Cx} {tg iter:υ} {pos p:aN}
theorem xR{a:υ}{ta:dB}(hm:X.mg "range" = none)(ha:QA X [a] ta)(hg:Gl X "range":=by rfl)(hs:notStar a=true:=by rfl):QI X tg (.Call (.Name "range" p) [a] [] pos) (nJ ta):=⟨Vb (hm:=hm) (ha:=ha.of) (hg:=hg) (hs:=hs)⟩
end
section
variable {X:Cx} {tg iter:υ} {pos p:aN}
theorem rj{body:List aM}{ti:pd}{g:iT}{tb:ao}(hp:lU (model X.prog X.w) X.A X.env X.xe)(hc:X.calm=true)(hi:QI X tg iter ti)(hg:QG X tg g)(hb:qO X body tb)(hs:∀x,foldedSetIterable iter X.env x=pure x:=by intro _;rfl):QS X (.For tg iter body [] pos) (oE ti g tb):=⟨U9 (hp:=hp) (hc:=hc) (hi:=hi.of) (hg:=hg.of) (hb:=hb.of) (hs:=hs)⟩
end
section
variable {X:Cx} {tg iter:υ} {pos p:aN}
theorem wc  : QC X [] (iW):=⟨U8 ⟩
end
section
variable {X:Cx} {tg iter:υ} {pos p:aN}
theorem EG{c:υ}{t:cU}(h:QT X c t):QC X [c] (t):=⟨U7 (h:=h.of)⟩
end
section
variable {X:Cx} {K:η}
theorem iR{a b:υ}{ta tb:aQ}{pos:aN}(ha:QE X a ta)(hb:QE X b tb)(hs:rX b:=by intro _ _;rfl):QE X (.Subscript a b pos) (ax fc ta tb):=⟨aaX (ha:=ha.of) (hb:=hb.of) (hs:=hs)⟩
end
section
variable {X:Cx} {K:η}
theorem KE{es:List υ}{b:υ}{ta:dB}{tb:aQ}{pos pos':aN}(ha:QA X es ta)(hb:QE X b tb)(hs:rX b:=by intro _ _;rfl):QE X (.Subscript (.List es pos') b pos) (w6 ta tb):=⟨UZ (ha:=ha.of) (hb:=hb.of) (hs:=hs)⟩
end
section
variable {X:Cx} {a b e:υ} {ta tb:aQ} {pos:aN}
theorem KC  : QO X none yq:=⟨UY ⟩
end
section
variable {X:Cx} {a b e:υ} {ta tb:aQ} {pos:aN}
theorem Bq(h:QE X e ta):QO X (some e) (vj ta):=⟨UX (h:=h.of)⟩
end
section
variable {X:Cx} {a b e:υ} {ta tb:aQ} {pos:aN}
theorem EF{lo hi:Option υ}{tl th:yj}{p2:aN}(ha:QE X a ta)(hl:QO X lo tl)(hh:QO X hi th):QE X (.Subscript a (.Slice lo hi none p2) pos) (Ds ta tl th):=⟨aaV (ha:=ha.of) (hl:=hl.of) (hh:=hh.of)⟩
end
section
variable {X:Cx} {K:η} {e:υ} {es:List υ} {t:dB} {ta:aQ} {pos p:aN}
theorem lI(hu:X.A.units+64<cLine)(hm:X.mg "len" = none)(ha:QA X (e::es) t)(hg:Gl X "len":=by rfl)(he:notStar e=true:=by rfl)(hpl:es.all notStar=true:=by rfl):QE X (.Call (.Name "len" p) (e::es) [] pos) (eN mU t):=⟨US (hu:=hu) (hm:=hm) (ha:=ha.of) (hg:=hg) (he:=he) (hpl:=hpl)⟩
end
section
variable {X:Cx} {K:η} {e:υ} {es:List υ} {t:dB} {ta:aQ} {pos p:aN}
theorem T5(hu:X.A.units+64<cLine)(hm:X.mg "int" = none)(ha:QA X (e::es) t)(hg:Gl X "int":=by rfl)(he:notStar e=true:=by rfl)(hpl:es.all notStar=true:=by rfl):QE X (.Call (.Name "int" p) (e::es) [] pos) (eN A6 t):=⟨UQ (hu:=hu) (hm:=hm) (ha:=ha.of) (hg:=hg) (he:=he) (hpl:=hpl)⟩
end
section
variable {X:Cx} {K:η} {e:υ} {es:List υ} {t:dB} {ta:aQ} {pos p:aN}
theorem Bp(hu:X.A.units+64<cLine)(hm:X.mg "max" = none)(ha:QA X (e::es) t)(hc:X.calm=true:=by rfl)(hg:Gl X "max":=by rfl)(he:notStar e=true:=by rfl)(hpl:es.all notStar=true:=by rfl):QE X (.Call (.Name "max" p) (e::es) [] pos) (eN xE t):=⟨UP (hu:=hu) (hm:=hm) (ha:=ha.of) (hc:=hc) (hg:=hg) (he:=he) (hpl:=hpl)⟩
end
section
variable {X:Cx} {K:η} {e:υ} {es:List υ} {t:dB} {ta:aQ} {pos p:aN}
theorem T4(hu:X.A.units+64<cLine)(hm:X.mg "min" = none)(ha:QA X (e::es) t)(hc:X.calm=true:=by rfl)(hg:Gl X "min":=by rfl)(he:notStar e=true:=by rfl)(hpl:es.all notStar=true:=by rfl):QE X (.Call (.Name "min" p) (e::es) [] pos) (eN Ft t):=⟨UO (hu:=hu) (hm:=hm) (ha:=ha.of) (hc:=hc) (hg:=hg) (he:=he) (hpl:=hpl)⟩
end
section
variable {X:Cx} {K:η} {e:υ} {es:List υ} {t:dB} {ta:aQ} {pos p:aN}
theorem KA(hu:X.A.units+64<cLine)(hm:X.mg "tuple" = none)(ha:QA X (e::es) t)(hg:Gl X "tuple":=by rfl)(he:notStar e=true:=by rfl)(hpl:es.all notStar=true:=by rfl):QE X (.Call (.Name "tuple" p) (e::es) [] pos) (eN zi t):=⟨Vo (hu:=hu) (hm:=hm) (ha:=ha.of) (hg:=hg) (he:=he) (hpl:=hpl)⟩
end
section
variable {X:Cx} {a e:υ} {es:List υ} {ta:aQ} {t:dB} {pos p p2:aN}
theorem Bo{T:String}{TS:ν}(k:Dz T)(hv:gS TS=some (.type T))(ha:QE X a ta)(hm:X.mg "isinstance" = none)(hm2:X.mg TS=none)(hgT:Gl X TS)(hnT:TS≠"__name__")(hdT:(TS==("__debug__":ν))=false)(hg:Gl X "isinstance":=by rfl)(he:notStar a=true:=by rfl):QE X (.Call (.Name "isinstance" p) [a,.Name TS p2] [] pos) (yv T ta):=⟨TN (k:=k) (hv:=hv) (ha:=ha.of) (hm:=hm) (hm2:=hm2) (hgT:=hgT) (hnT:=hnT) (hdT:=hdT) (hg:=hg) (he:=he)⟩
end
section
variable {X:Cx} {K:η} {e:υ} {es:List υ} {t:dB} {ta:aQ} {pos p p' pos':aN}
theorem Lj(hu:X.A.units+64<cLine)(hm:X.mg "sorted" = none)(ha:QA X (e::es) t)(hc:X.calm=true:=by rfl)(hg:Gl X "sorted":=by rfl)(he:notStar e=true:=by rfl)(hpl:es.all notStar=true:=by rfl):QE X (.Call (.Name "sorted" p) (e::es) [] pos) (eN zf t):=⟨TC (hu:=hu) (hm:=hm) (ha:=ha.of) (hc:=hc) (hg:=hg) (he:=he) (hpl:=hpl)⟩
end
section
variable {X:Cx} {K:η} {e:υ} {es:List υ} {t:dB} {ta:aQ} {pos p p' pos':aN}
theorem T3(hu:X.A.units+64<cLine)(ha:QE X e ta)(hm:X.mg "sorted" = none)(hm2:X.mg "set" = none)(hc:X.calm=true:=by rfl)(hg:Gl X "sorted":=by rfl)(hg2:Gl X "set":=by rfl)(he2:notStar e=true:=by rfl):QE X (.Call (.Name "sorted" p) [.Call (.Name "set" p') [e] [] pos'] [] pos) (wI ta):=⟨TB (hu:=hu) (ha:=ha.of) (hm:=hm) (hm2:=hm2) (hc:=hc) (hg:=hg) (hg2:=hg2) (he2:=he2)⟩
end
section
variable {X:Cx} {K:η} {e:υ} {es:List υ} {t:dB} {ta:aQ} {pos p p' pos':aN}
theorem T1(hu:X.A.units+64<cLine)(hm:X.mg "sum" = none)(ha:QA X (e::es) t)(hc:X.calm=true:=by rfl)(hg:Gl X "sum":=by rfl)(he:notStar e=true:=by rfl)(hpl:es.all notStar=true:=by rfl):QE X (.Call (.Name "sum" p) (e::es) [] pos) (eN AZ t):=⟨Tv (hu:=hu) (hm:=hm) (ha:=ha.of) (hc:=hc) (hg:=hg) (he:=he) (hpl:=hpl)⟩
end
section
variable {X:Cx} {es:List υ} {n0:Nat} {ps p pos:aN}
theorem Li{a b:υ}{ta:dB}(hm:X.mg "zip" = none)(ha:QA X [a,b] ta)(hg:Gl X "zip":=by rfl)(hs:notStar a=true:=by rfl)(hs2:notStar b=true:=by rfl):QI X (.Tuple es n0 ps) (.Call (.Name "zip" p) [a,b] [] pos) (BF ta):=⟨Tn (hm:=hm) (ha:=ha.of) (hg:=hg) (hs:=hs) (hs2:=hs2)⟩
end
section
variable {X:Cx} {a b c e o:υ} {es:List υ} {ta tb tc te to:aQ} {t:dB} {pos apos cpos p:aN}
theorem za{name:ν}{id:String}{r:D->List D->Gp->V3->Prop}{r2:V->List V->Hp->VK->Prop}(L:wK X.K r r2)(slot:Slot "list" name id)(hty:typeOf (.builtin id)=pure (.type "method_descriptor"))(hm:Dy X id r2)(ho:QE X o to)(ha:QA X (e::es) t)
  (kn:attributeBase o name X.env (eval o X.env)=eval o X.env:=by rfl)
  (FD:((backTo cpos (bI (e::es) X.env)).all (fun x=>!x.1)&&(backToKw cpos (keywordEach [] X.env)).all (fun x=>x.1.isSome)
   && decide ((e::es).length+([]:List sC).length+(if ([]:List sC).isEmpty then 0 else 1)<30))=true:=by rfl)
  (pL:(apos.endLine==cpos.line)=true:=by rfl) (he:notStar e=true:=by rfl) (hpl:es.all notStar=true:=by rfl):
  QE X (.Call (.Attribute o name apos) (e::es) [] cpos) (eM r to t):=⟨Vl L (V8 PySem.F.plainAttrs_list slot hty hm ho.of ha.of kn FD pL (fP he) (mi hpl))⟩
theorem TZ{i j:Nat}{x y:ν}{px py pt:aN}{kt k2 pt2}(hc:X.calm=true)(hN:X.N.Nodup)(hi:X.N[i]?=some x)(hj:X.N[j]?=some y)(hij:i≠j)(hx:X.env.scope.names.lookup x=some .local)(hy:X.env.scope.names.lookup y=some .local)(ha:QA X [a,b] t)
  (hw:swappedStores [.Tuple [.Name x px,.Name y py] kt pt] (.Tuple [a,b] k2 pt2) X.env=pure (some [x,y])) (hs:swapsWithSole [.Tuple [.Name x px,.Name y py] kt pt] (.Tuple [a,b] k2 pt2) pos.line X.env=pure false:=by rfl):
  QS X (.Assign [.Tuple [.Name x px,.Name y py] kt pt] (.Tuple [a,b] k2 pt2) pos) (DF i j t):=⟨VV (W4 hc hN hi hj hij hx hy ha.of hw hs)⟩
end
section
variable {X:Cx} {tg iter elt:υ} {ifs:List υ} {scope:eV} {own:List ν} {js:List Nat} {ti:pd} {g:iT} {tc:cU} {te:aQ} {pos:aN}
theorem ux(hc:X.calm=true)(C:eK X.N X.env.scope scope own js)(hi:QI X tg iter ti)
  (hb:∀s H fp,QG (X.cmp scope own js s H fp) tg g/\QC (X.cmp scope own js s H fp) ifs tc/\QE (X.cmp scope own js s H fp) elt te)
  (hs:∀x,foldedSetIterable iter X.env x=pure x:=by intro _;rfl):QE X (.ListComp elt [⟨tg,iter,ifs,0⟩] scope pos) (i6 own js ti g tc te):=
 ⟨U6 hc C hi.of (fun s H fp=>⟨(hb s H fp).1.of,(hb s H fp).2.1.of,(hb s H fp).2.2.of⟩) hs⟩
theorem Lh{i:Nat}{y:ν}{py spos:aN}(hc:X.calm=true)(hN:X.N.Nodup)(C:eK X.N X.env.scope scope own js)(hi:QI X tg iter ti)
  (hb:∀s H fp,QG (X.cmp scope own js s H fp) tg g/\QC (X.cmp scope own js s H fp) ifs tc/\QE (X.cmp scope own js s H fp) elt te) (hy:X.N[i]?=some y:=by rfl) (hyl:X.env.scope.names.lookup y=some .local:=by rfl)
  (Dq:swapsWith (.ListComp elt [⟨tg,iter,ifs,0⟩] scope pos) (some (.Name y py)) spos.line X.env=pure true:=by rfl)
  (hs:∀x,foldedSetIterable iter X.env x=pure x:=by intro _;rfl):QS X (.Assign [.Name y py] (.ListComp elt [⟨tg,iter,ifs,0⟩] scope pos) spos) (bt (i6 own js ti g tc te) (hName i)):=
 ⟨U5 hc hN C hi.of (fun s H fp=>⟨(hb s H fp).1.of,(hb s H fp).2.1.of,(hb s H fp).2.2.of⟩) hy hyl Dq hs⟩
end
theorem fB{P:ag}{w:av}{K:η}{mg:ν->Option ε}{base:Ψ}{x qual:ν}{st:aM}{f:ζ}{fd:aq}{N ps:List ν}{k:Nat}{sp:eO}(F:dR K x qual st f fd)(S:bp N ps (Ξ st))(hN:ps.length≤N.length)(len:∀ds G Q,sp ds G Q->ds.length=ps.length)(tb:ao)
  (ia:∀(cdv:ε) (A:aJ) (outer:List dq) (s:θ) (H:Hp) (E:XK),dW k (A.deeper (envOfC qual (Ξ st) s.heap.objs.size f cdv)) ->
   qO (iJ se P w K mg base N qual (Ξ st) f cdv A outer s H E).mX (fu st) tb)
  (tQ:∀ds G Q,sp ds G Q->tb (bj Q) (br N ds) G):dC P w K mg base (k+1) f fd ps sp:=fn3 F S hN len tb (fun cdv A outer s H E hr=>(ia cdv A outer s H E hr).of) tQ
end L3
namespace My
open PySem L2 L3
def Known(G:Gp):D->Prop
 |.obj a=>∃o,G a=some o/\o.plain
 |_=>True
def HU:D->Bool
 |.int _=>true
 |_=>false
theorem fN{Q:V3}{d:D}{G:Gp}(h:Q d G):(bj Q).rt d G:=⟨G,Sub.refl G,h⟩
theorem rh{Q:V3}{d:D}{G G':Gp}(s:Sub G G')(h:Q d G):(bj Q).rt d G':=⟨G,s,h⟩
theorem eJ{i:Int}(h1:-(10^80)<i)(h2:i<10^80):ie i:=by
 have:i.natAbs<10^80:=by lia
 exact mG this (by decide)
theorem Sub.yA{G G':Gp}{a:ζ}{o:GO}(s:Sub G G')(h:G a=none):Sub G (du G' a o):=fun b u e=>by
 rw[oZ (fun z=>by rw[z,h] at e;cases e)];exact s b u e
def xQ:eO:=fun ds G Q=>match ds with
 |[d]=>Known G d/\Q (.bl (HU d)) G
 |_=>False
def EE:ao:=cP (w9 (yv "int" (ο 0)) (B7 (yv "bool" (ο 0))))
theorem Lg{nm:ν}:∀ds G Q,xQ ds G Q->EE (bj Q) (br [nm] ds) G:=by
 intro ds G Q h;rcases ds with _|⟨d,_|⟨d2,ds⟩⟩
 ·exact h.elim
 ·cases d with
  |int i=>exact⟨fun _=>fN h.2,nofun⟩
  |bl b=>exact⟨fun _=>fN h.2,nofun⟩
  |aB=>exact⟨nofun,fun _=>fN h.2⟩
  |str _=>exact⟨nofun,fun _=>fN h.2⟩
  |tup _=>exact⟨nofun,fun _=>fN h.2⟩
  |fy _=>exact⟨nofun,fun _=>fN h.2⟩
  |dc _=>exact⟨nofun,fun _=>fN h.2⟩
  |obj a=>
   obtain⟨o1,h1,hp⟩:∃o,G a=some o/\o.plain:=h.1;show match qN "int" G (.obj a) with
    |some b=>_
    |none=>_
   cases hG:G a with
   |none=>rw[h1] at hG;cases hG
   |some o=>
    cases o with
    |lst _=>simp only[qN,hG];exact⟨nofun,fun _=>fN h.2⟩
    |mW=>simp only[qN,hG];exact⟨nofun,fun _=>fN h.2⟩
    |ji=>simp only[qN,hG];exact⟨nofun,fun _=>fN h.2⟩
    |gen R=>
     rw[h1] at hG;cases hG;exact hp.elim
 ·exact h.elim
abbrev TY:=@Lg "thing"
abbrev yZ:=xQ
abbrev TX:=EE
abbrev SY:=@Lg "found"
def yY:eO:=fun ds G Q=>∃(ns:List Int) (k:Nat),ds=[.fy (ns.map .int),.int k]/\∀i:Int,Q (.int i) G
def Lf:ao:=aY (ix (bT (ax sH (ο 1) (eN mU (ξ (ο 0) (ai))))) (cP (ax fc (ο 0) (ο 1))) (fb)) (cP (eC (.int 0)))
theorem SX:∀ds G Q,yY ds G Q->Lf (bj Q) (br ["script","k"] ds) G:=by
 rintro ds G Q ⟨ns,k,rfl,q⟩;refine⟨fun h=>?_,fun h=>fN (q 0)⟩;have h':(k:Int)<((ns.map D.int).length:Nat):=of_decide_eq_true h;rw[π] at h';have hk:k<ns.length:=by lia
 exact⟨.int ns[k],Bf (by rw[aK,aE hk];rfl),fN (q _)⟩
def xP:eO:=fun ds G Q=>∃n:Int,ds=[.int n]/\0≤n/\∀r:Int,0≤r->r<2147483629->Q (.int r) G
def Le:ao:=aY (bt (ax iY (ax dI (ο 0) (eC (.int 7919))) (eC (.int 2147483647))) (hName 0)) (cP (ax iY (ax dI (ax dI (ax gZ (ο 0) (ο 0)) (ax gZ (eC (.int 48271)) (ο 0))) (eC (.int 12345))) (eC (.int 2147483629))))
theorem SW:∀ds G Q,xP ds G Q->Le (bj Q) (br ["seed"] ds) G:=by
 rintro ds G Q ⟨n,rfl,hn,q⟩;have h1:=cC (n+7919) (show (2147483647:Int)≠0 by decide);have h2:=cg (n+7919) (show (0:Int)<2147483647 by decide);have hb:ie ((n+7919)%2147483647):=eJ (by lia) (by lia);refine⟨(by decide:(0:Int)<2147483647),⟨hb,hb⟩,⟨eJ (by decide) (by decide),hb⟩,(by decide:(0:Int)<2147483629),fN (q _ ?_ ?_)⟩
 ·exact cC _ (by decide)
 ·exact cg _ (by decide)
def Bm:eO:=fun ds G Q=>∃(p:ζ) (m i j k:Int),ds=[.obj p,.int m]/\G p=some (.lst [.int i,.int j,.int k])/\vt i j k/\0<m/\ie m ∧
 ∀r i' j' k':Int,vt i' j' k'->0≤r->r<m->Q (.int r) (du G p (.lst [.int i',.int j',.int k']))
def mT:eO:=fun ds G Q=>∃(p:ζ) (m:Int),ds=[.obj p,.int m]/\G p=some .mW/\(0<m/\ie m)/\∀r:Int,0≤r->r<m->Q (.int r) G
def Ld:ao:=aY (ix (bT (ax (eI false) (ax fc (ο 0) (eC (.int 1))) (eC (.int 1)))) (aY (bt (ax iY (ax fc (ο 0) (eC (.int 0))) (ο 1)) (hName 2)) (aY (bt (ax lA (ax fc (ο 0) (eC (.int 0))) (ο 1)) (hSub (ο 0) (eC (.int 0)))) (cP (ο 2)))) (fb)) (aY (bt (bo xP (ξ (ax dI (bo xP (ξ (ax fc (ο 0) (eC (.int 2))) (ai))) (eC (.int 7))) (ai))) (hSub (ο 0) (eC (.int 2)))) (cP (ax iY (ax lA (ax fc (ο 0) (eC (.int 2))) (eC (.int 64))) (ο 1))))
theorem SV:∀ds G Q,Bm ds G Q->Ld (bj Q) (br ["pen","many","found"] ds) G:=by
 rintro ds G Q ⟨p,m,i,j,k,rfl,hp,ok,hm,hb,q⟩;obtain⟨o1,o2,o3⟩:=ok;refine⟨_,_,hp,rfl,_,_,rfl,rfl,aI _,fun _=>?_,fun _=>?_⟩
 ·refine⟨_,_,hp,rfl,hm,_,_,hp,rfl,⟨hm,hb⟩,_,0,hp,rfl,?_⟩;refine fN (q (i%m) (i / m) j k ⟨?_,o2,o3⟩ ?_ ?_)
  ·exact qV o1 (by lia)
  ·exact cC _ (by lia)
  ·exact cg _ hm
 ·refine⟨_,_,hp,rfl,_,rfl,o2,fun r h1 h2=>⟨_,rfl,(by lia),fun r' h3 h4=>?_⟩⟩;refine⟨_,2,hp,rfl,_,_,o9,rfl,⟨by decide,eJ (by decide) (by decide)⟩,hm,?_⟩;refine fN (q _ i j r' ⟨o1,h3,by lia⟩ ?_ ?_)
  ·exact cC _ (by lia)
  ·exact cg _ hm
theorem SU{K:η}:∀vs H Q E,nH K mT vs H Q E->nH K Bm vs H Q E:=by
 rintro vs H Q E ⟨ds,G,Q3,hd,RG,⟨p,m,rfl,hp,hm,q⟩,k⟩;obtain⟨i,j,l,e,ok⟩:=RG p _ hp;refine⟨_,du G p (.lst [.int i,.int j,.int l]),fun d G'=>∃i' j' l',vt i' j' l'/\G'=du G p (.lst [.int i',.int j',.int l'])/\Q3 d G,hd,?_,⟨p,m,i,j,l,rfl,o9,ok,hm.1,hm.2,fun r i' j' k' ok' h1 h2=>⟨i',j',k',ok',WB,q r h1 h2⟩⟩,?_⟩
 ·intro a o ea;by_cases z:a=p
  ·subst z;rw[o9] at ea;cases ea;exact⟨_,e,.cons (by simp[Hv]) (.cons (by simp[Hv]) (.cons (by simp[Hv]) .nil))⟩
  ·rw[oZ z] at ea;exact RG a o ea
 ·rintro v H' d G' hv S R ⟨i',j',l',ok',rfl,h3⟩;refine k v H' d G hv ⟨fun a o ea n=>S.fr a o ea ?_,S.oW,fun a n z=>absurd n z⟩ (fun a o ea=>?_) h3
  ·have:a≠p:=fun z=>by rw[z,hp] at n;cases n
   rw[oZ this];exact n
  ·by_cases z:a=p
   ·subst z;rw[hp] at ea;cases ea;obtain⟨ws,e1,e2⟩:=R a _ o9;have:=uz e2 (ns:=[i',j',l']) rfl;subst this;exact⟨i',j',l',e1,ok'⟩
   ·exact R a o (by rw[oZ z];exact ea)
def Bl:eO:=fun ds G Q=>∃c:Int,ds=[.int c]/\∀p i j k G',eF G p (.lst [.int i,.int j,.int k]) G'->vt i j k->Q (.obj p) G'
def ED:eO:=fun ds G Q=>∃c:Int,ds=[.int c]/\∀p G',eF G p .mW G'->Q (.obj p) G'
def Lc:ao:=aY (bt (eN xE (ξ (ο 0) (ξ (ax jH (eC (.int 0)) (ο 0)) (ai)))) (hName 1)) (cP (gP (ξ (ο 1) (ξ (eN A6 (ξ (ax Io (ο 1) (ax vh (eC (.int 10)) (eC (.int 18)))) (ai))) (ξ (ax iY (ο 1) (eC (.int 1000003))) (ai))))))
theorem SR:∀ds G Q,Bl ds G Q->Lc (bj Q) (br ["cell","left"] ds) G:=by
 rintro ds G Q ⟨c,rfl,q⟩;refine⟨⟨by decide,by decide,by decide⟩,(by decide:(0:Int)<1000003),fun p G' hp=>fN (q p _ _ _ _ hp ⟨?_,?_,?_⟩)⟩
 ·split<;>lia
 ·exact cC _ (by decide)
 ·exact Int.lt_trans (cg _ (by decide)) (by decide)
theorem SQ{K:η}:∀vs H Q E,nH K ED vs H Q E->nH K Bl vs H Q E:=by
 rintro vs H Q E ⟨ds,G,Q3,hd,RG,⟨c,rfl,q⟩,k⟩;refine⟨_,G,fun d G'=>∃p i j l,vt i j l/\eF G p (.lst [.int i,.int j,.int l]) G'/\d=.obj p,hd,RG,⟨c,rfl,fun p i j l G' hp ok=>⟨p,i,j,l,ok,hp,rfl⟩⟩,?_⟩;rintro v H' d G' hv S R ⟨p,i,j,l,ok,hp,rfl⟩;refine k v H' _ (du G' p .mW) hv ⟨S.fr,S.oW,fun a n z=>S.new a n ?_⟩ (fun a o ea=>?_) (q p _ ⟨hp.aB,Sub.yA hp.sub hp.aB,o9⟩)
 ·by_cases y:a=p
  ·rw[y,hp.at_];simp
  ·rw[oZ y] at z;exact z
 ·by_cases z:a=p
  ·subst z;rw[o9] at ea;cases ea;obtain⟨ws,e1,e2⟩:=R a _ hp.at_;have:=uz e2 (ns:=[i,j,l]) rfl;subst this;exact⟨i,j,l,e1,ok⟩
  ·rw[oZ z] at ea;exact R a o ea
abbrev af:=Int×Int
def cD(c:af):D:=.tup [.int c.1,.int c.2]
def ff(cs:List af):D:=.tup (cs.map cD)
def Valid(c:af):Prop:=0<c.1/\0≤c.2/\c.2<c.1
def rg(n:Int)(c:af):Bool:=n%c.1==c.2
def yX:eO:=fun ds G Q=>∃(c:af) (n:Int),ds=[cD c,.int n]/\0<c.1/\Q (.bl (rg n c)) G
def Lb:ao:=cP (ax (eI false) (ax iY (ο 1) (ax fc (ο 0) (eC (.int 0)))) (ax fc (ο 0) (eC (.int 1))))
theorem SO:∀ds G Q,yX ds G Q->Lb (bj Q) (br ["clock","number"] ds) G:=by
 rintro ds G Q ⟨⟨s,r⟩,n,rfl,hs,q⟩;exact⟨_,rfl,hs,_,rfl,_,_,rfl,rfl,aI _,fN q⟩
def wb:eO:=fun ds G Q=>∃(cs:List af) (n:Int),ds=[ff cs,.int n]/\(∀c∈cs,0<c.1)/\cs.length≤1000/\∀p G',eF G p (.lst ((cs.filter (rg n)).map cD)) G'->Q (.obj p) G'
def La:ao:=cP (i6 ["clock"] [1] (qc (ο 0)) (hName 0) (bT (bo yX (ξ (ο 0) (ξ (ο 1) (ai))))) (ο 0))
theorem eA{n:Nat}(h:n≤1000):n≤aw:=aD h (by decide)
theorem rf{α:Type}{guard:Gp->Prop}{g:iT}{tc:cU}{te:aQ}{Q:List D->Gp->Prop}(I:S3->Prop)(h:α->D)(pr:α->Bool)(f:α->D){G:Gp}(hg:guard G):∀(xs:List α) (acc:List D) (τ:S3),I τ ->
  (∀x∈xs,∀τ (K1:S3->Gp->Prop) (K2:S3->D->Gp->Prop),I τ->(pr x=true->∀τ2,I τ2->K2 τ2 (f x) G)->(pr x=false->∀τ2,I τ2->K1 τ2 G)->g (h x) τ G fun τ2 G2=>tc τ2 G2 fun b G3=>Br b (te τ2 G3 fun v G4=>K2 τ2 v G4) (K1 τ2 G3)) ->
  Q (acc++(xs.filter pr).map f) G->jj guard g tc te Q (xs.map h) acc τ G
 |[],acc,τ,_,_,q=>⟨hg,by simpa using q⟩
 |d::ds,acc,τ,hI,hs,q=>by
  refine⟨hg,hs d aa τ (fun τ2 G3=>jj guard g tc te Q (ds.map h) acc τ2 G3) (fun τ2 v G4=>jj guard g tc te Q (ds.map h) (acc++[v]) τ2 G4) hI (fun hp τ2 h2=>?_) fun hp τ2 h2=>?_⟩
  ·refine rf I h pr f hg ds _ τ2 h2 (fun d' hd=>hs d' (Γ _ hd)) ?_;rw[qJ hp] at q;simpa using q
  ·refine rf I h pr f hg ds _ τ2 h2 (fun d' hd=>hs d' (Γ _ hd)) ?_;rw[qK (by rw[hp];simp)] at q;exact q
theorem SN:∀ds G Q,wb ds G Q->La (bj Q) (br ["clocks","number"] ds) G:=by
 rintro ds G Q ⟨cs,n,rfl,hc,hz,q⟩;refine⟨by show (cs.map cD).length≤aw;rw[π];exact eA hz,?_⟩;refine rf (fun τ=>∃x,τ=[x,some (.int n)]) cD (rg n) cD (G:=G) trivial cs [] _ ⟨none,rfl⟩ ?_ ?_
 ·rintro c hm τ K1 K2 ⟨x,rfl⟩ h1 h2;exact⟨c,n,rfl,hc c hm,fun e=>h1 e _ ⟨_,rfl⟩,fun e=>h2 e _ ⟨_,rfl⟩⟩
 ·exact fun p G' hp=>fN (q p G' hp)
end My
namespace My
open PySem L2 L3
def cX(c:af):Dat.D:=.tup [.int c.1,.int c.2]
theorem EC:∀cs:List af,ft (cs.map cD)=some (cs.map cX)
 |[]=>rfl
 |c::cs=>by
  show (match pX (cD c) with
   |some x=>match ft (cs.map cD) with
    |some xs=>some (x::xs)
    |none=>none
   | none=>none)=_
  rw[EC cs];rfl
theorem xO{G:Gp}{a:ζ}{ds:List D}{xs:List Dat.D}(h:G a=some (.lst ds))(e:ft ds=some xs):vf G (.obj a)=some (.lst xs):=by
 unfold vf;simp only[h,e]
theorem Kp:∀cs:List af,Dat.gQ (cs.map cX)≤1
 |[]=>aI _
 |c::cs=>by
  show max (cX c).kF (Dat.gQ (cs.map cX))≤1;have h1:(cX c).kF=1:=rfl;have:=Kp cs;lia
theorem Ko(cs:List af):(Dat.D.lst (cs.map cX)).kF≤50:=by
 show Dat.gQ (cs.map cX)+1≤50;have:=Kp cs;lia
theorem yW(xs:List Dat.D):(Dat.D.lst xs).eY (.lst [])=xs.isEmpty:=by
 cases xs with
 |nil=>rfl
 |cons x xs=>rfl
def lB(cs:List af):D->Bool
 |.int n=>(cs.filter (rg n)).isEmpty
 |_=>false
def yV:eO:=fun ds G Q=>∃(cs:List af) (d:D),ds=[ff cs,d]/\Known G d/\(∀c∈cs,0<c.1)/\cs.length≤1000/\Q (.bl (lB cs d)) G
def Kn:ao:=cP (w9 (bo xQ (ξ (ο 1) (ai))) (ax (eI false) (bo wb (ξ (ο 0) (ξ (ο 1) (ai)))) (gP (ai))))
theorem isEmpty_map{α β:Type}(f:α->β)(xs:List α):(xs.map f).isEmpty=xs.isEmpty:=by cases xs<;>rfl
theorem SM:∀ds G Q,yV ds G Q->Kn (bj Q) (br ["clocks","thing"] ds) G:=by
 rintro ds G Q ⟨cs,d,rfl,hk,hc,hz,q⟩;refine⟨hk,?_⟩;cases d with
 |int n=>
  refine⟨fun _=>?_,nofun⟩;refine⟨cs,n,rfl,hc,hz,fun p G1 h1 p2 G2 h2=>⟨_,_,xO (h2.sub _ _ h1.at_) (EC _),xO h2.at_ rfl,Ko _,?_⟩⟩;rw[show (if false=true then _ else Dat.D.eY (.lst ((cs.filter (rg n)).map cX)) (.lst []))=lB cs (.int n) by
   show Dat.D.eY _ _=_;rw[yW,isEmpty_map];rfl]
  exact rh (h1.sub.trans h2.sub) q
 |_=>exact⟨nofun,fun _=>fN q⟩
def cp(n:Int)(c:af):Bool:=(n-c.2)%c.1==0
theorem Bk{c:af}(h:Valid c)(n:Int):cp n c=rg n c:=by
 obtain⟨h1,h2,h3⟩:=h;unfold rg cp;rw[mQ];simp only[beq_iff_eq];constructor
 ·intro e;have h4:=Int.emod_emod_of_dvd n (Int.dvd_refl c.1);have:n%c.1=c.2%c.1:=dQ.mpr e;rw[this];exact pH h2 h3
 ·intro e;refine dQ.mp ?_;rw[e];exact (pH h2 h3).symm
end My
namespace My
open PySem L2 L3
def wJ{α:Type}(xs:List α)(lo hi:Option Int):List α:=(xs.drop (HT.cu xs.length 0 lo)).take (HT.cu xs.length xs.length hi-HT.cu xs.length 0 lo)
theorem EB{α:Type}(f:α->D)(xs:List α)(lo hi:Option Int):mq (xs.map f) lo hi=(wJ xs lo hi).map f:=by
 unfold mq wJ;rw[π,tX,tY]
theorem SK{α:Type}(xs:List α)(lo hi:Option Int):(wJ xs lo hi).length≤xs.length:=by
 unfold wJ;rw[eP,qy];lia
theorem Km{α:Type}(xs:List α)(k:Nat):wJ xs none (some (k:Int))=xs.take k:=by
 unfold wJ;rw[HT.DG,HT.HE];simp only[List.drop_zero,Nat.sub_zero];by_cases h:k≤xs.length
 ·rw[Nat.min_eq_left h]
 ·rw[Nat.min_eq_right (by lia),qx,lp (by lia)]
def CV(M:Int)(cs:List af):Prop:=∀c∈cs,Valid c/\c.1≤M
theorem SJ{s r k i:Int}(h:Valid (s,r))(h1:0≤i)(h2:i<k):Valid (s*k,r+s*i):=by
 obtain⟨a,b,c⟩:=h;simp only at a b c;have q:=fC (show i≤k-1 by lia) (show 0≤s by lia);rw[iw,ls] at q;have q2:=Int.mul_nonneg (show 0≤s by lia) h1;refine⟨?_,?_,?_⟩
 ·exact Int.mul_pos a (by lia)
 ·show 0≤r+s*i;lia
 ·show r+s*i<s*k;lia
theorem EA{α:Type}(f:α->D){xs:List α}{r:Int}(h1:0≤r)(h2:r<(xs.length:Nat)):∃x,xs[r.toNat]?=some x/\x∈xs/\mv (xs.map f) r=some (f x):=by
 have hk:r.toNat<xs.length:=by lia
 refine⟨xs[r.toNat],aE hk,List.getElem_mem hk,?_⟩;have e:r=((r.toNat:Nat):Int):=by lia
 have q:mv (xs.map f) ((r.toNat:Nat):Int)=some (f xs[r.toNat]):=Bf (by rw[aK];simp[hk]);rw[←e] at q;exact q
theorem Kl{ns:List Int}{r:Int}(h1:0≤r)(h2:r<(ns.length:Nat)):∃n,n∈ns/\mv (ns.map D.int) r=some (.int n):=by
 obtain⟨x,_,h3,h4⟩:=EA D.int h1 h2;exact⟨x,h3,h4⟩
end My
namespace My
open PySem L2 L3
def eX(c:af):List Int:=[c.1,c.2]
theorem Ez(cs:List af):(cs.map eX).map tupI=cs.map cD:=by
 rw[cy];rfl
theorem Ey{cs:List af}:∀{mss:List (List Int)},(∀ns∈mss,ns∈cs.map eX)->∃cs':List af,mss=cs'.map eX/\∀c∈cs',c∈cs
 |[],_=>⟨[],rfl,fun c hc=>nomatch hc⟩
 |ns::mss,h=>by
  obtain⟨cs',e,hc⟩:=Ey (mss:=mss) fun n hn=>h n (Γ _ hn);obtain⟨c,h1,rfl⟩:=aT.mp (h ns aa);refine⟨c::cs',by simp[e],fun d hd=>?_⟩;rcases Ω.mp hd with rfl|hd
  ·exact h1
  ·exact hc d hd
def Ot(a b:af):Prop:=a.1<b.1∨(a.1=b.1/\a.2<b.2)
def uQ(cs:List af):Prop:=cs.Pairwise Ot
theorem yU{a b:af}(h:eX a=eX b):a=b:=by
 obtain⟨s,r⟩:=a;obtain⟨s',r'⟩:=b;simp[eX] at h;simp[h]
theorem SI{a b:af}(h:tu.lx (eX b) (eX a)=false)(cK:a≠b):Ot a b:=by
 obtain⟨s,r⟩:=a;obtain⟨s',r'⟩:=b;unfold eX at h;simp only[tu.lx] at h;by_cases e:s'=s
 ·rw[if_pos e] at h;by_cases e2:r'=r
  ·exact absurd (by rw[e,e2]) cK
  ·rw[if_neg e2] at h;have:=of_decide_eq_false h;exact .inr ⟨e.symm,by simp only;lia⟩
 ·rw[if_neg e] at h;have:=of_decide_eq_false h;exact .inl (by simp only;lia)
theorem Kk{cs:List af}(h:tw (cs.map eX))(nd:(cs.map eX).Nodup):uQ cs:=by
 have h1:=gy.mp h;have h2:=gy.mp nd;exact (h1.and h2).imp fun {a b} q=>SI q.1 fun z=>q.2 (by rw[z])
theorem uQ.take{cs:List af}(h:uQ cs)(n:Nat):uQ (cs.take n):=List.Pairwise.sublist (pF n cs) h
theorem SH{cs:List af}{mss:List (List Int)}(hmem:∀ns,ns∈mss↔ns∈cs.map eX)(nd:mss.Nodup)(hr:tw mss)(hl:mss.length≤(cs.map eX).length):
  ∃cs':List af,mss=cs'.map eX/\(∀c,c∈cs'↔c∈cs)/\uQ cs'/\cs'.length≤cs.length:=by
 obtain⟨cs',rfl,hc⟩:=Ey fun ns hn=>(hmem ns).mp hn;refine⟨cs',rfl,fun c=>⟨fun h=>hc c h,fun h=>?_⟩,Kk hr nd,by simpa using hl⟩;obtain⟨c',h1,h2⟩:=aT.mp ((hmem (eX c)).mpr (aT.mpr ⟨c,h,rfl⟩));rw[←yU h2];exact h1
theorem Kj{cs:List af}:∀ns∈cs.map eX,ns≠[]:=fun ns hn=>by
 obtain⟨c,_,rfl⟩:=aT.mp hn;simp[eX]
theorem Ki{G:Gp}{a:ζ}{cs:List af}(e:G a=some (.lst (cs.map cD))):G a=some (.lst ((cs.map eX).map tupI)):=by rw[Ez];exact e
theorem Kh{r:Int}{n:Nat}(h1:0≤r)(h2:r<(n:Int)):seqIndex? r n=some r.toNat:=by
 unfold seqIndex?;simp only[if_neg (show ¬r<0 by lia)];rw[if_pos (by simp;lia)]
theorem Ex{α β:Type}(f:α->β):∀(xs:List α) (i:Nat),(xs.map f).eraseIdx i=(xs.eraseIdx i).map f
 |[],_=>rfl
 |_::_,0=>rfl
 |x::xs,i+1=>by simp[Ex f xs i]
end My
namespace My
open PySem L2 L3
theorem Bj{guard:Gp->Prop}{g:iT}{tc:cU}{te:aQ}{Q:List D->Gp->Prop}(I:List D->List D->S3->Gp->Prop)(hg:∀ds acc τ G,I ds acc τ G->guard G)
  (step:∀d ds acc τ G (K1:S3->Gp->Prop) (K2:S3->D->Gp->Prop),I (d::ds) acc τ G->(∀τ' v G',I ds (acc++[v]) τ' G'->K2 τ' v G')->(∀τ' G',I ds acc τ' G'->K1 τ' G')->g d τ G fun τ2 G2=>tc τ2 G2 fun b G3=>Br b (te τ2 G3 fun v G4=>K2 τ2 v G4) (K1 τ2 G3))
  (nq:∀acc τ G,I [] acc τ G->Q acc G):∀ds acc τ G,I ds acc τ G->jj guard g tc te Q ds acc τ G
 |[],acc,τ,G,h=>⟨hg _ _ _ _ h,nq _ _ _ h⟩
 |d::ds,acc,τ,G,h=>⟨hg _ _ _ _ h,step d ds acc τ G (fun τ2 G3=>jj guard g tc te Q ds acc τ2 G3) (fun τ2 v G4=>jj guard g tc te Q ds (acc++[v]) τ2 G4) h
   (fun τ' v G' q=>Bj I hg step nq ds _ τ' G' q) fun τ' G' q=>Bj I hg step nq ds _ τ' G' q⟩
def xN:eO:=fun ds G Q=>∃(p:ζ) (m:Int),ds=[.obj p,.int m]/\G p=some .mW/\(0<m/\m≤1000)/\∀c:af,Valid c->c.1≤m->Q (cD c) G
def SG:ao:=cP (nv (ξ (ο 2) (ξ (bo mT (ξ (ο 0) (ξ (ο 2) (ai)))) (ai))))
def Kg:ao:=aY (bt (ax dI (eC (.int 1)) (bo mT (ξ (ο 0) (ξ (ο 1) (ai))))) (hName 2)) SG
theorem SE:∀ds G Q,xN ds G Q->Kg (bj Q) (br ["pen","most","step"] ds) G:=by
 rintro ds G Q ⟨p,m,rfl,hp,hm,q⟩;refine⟨p,m,rfl,hp,⟨hm.1,eJ (by lia) (by lia)⟩,fun r h1 h2=>?_⟩;refine⟨p,_,rfl,hp,⟨by lia,eJ (by lia) (by lia)⟩,fun r2 h3 h4=>fN (q (1+r,r2) ⟨?_,h3,h4⟩ ?_)⟩
 ·show 0<1+r;lia
 ·show 1+r≤m;lia
theorem SD{cs:List af}{mss:List (List Int)}(hp:mss.Perm (cs.map eX)):∃cs':List af,mss=cs'.map eX/\(∀c∈cs',c∈cs)/\cs'.length=cs.length:=by
 obtain⟨cs',rfl,hc⟩:=Ey fun ns hn=>hp.mem_iff.mp hn;exact⟨cs',rfl,hc,by simpa using hp.length_eq⟩
def SA:ao:=bt (ax dI (ο 3) (i6 ["part"] [5,4,6] (nJ (ξ (ο 4) (ai))) (hName 0) (iW) (nv (ξ (ax gZ (ο 1) (ο 2)) (ξ (ax dI (ο 3) (ax gZ (ο 1) (ο 0))) (ai)))))) (hName 3)
def Sz:ao:=aY (ix (bT (ax uq (ax gZ (ο 5) (ο 4)) (eC (.int 1000)))) (cP (eN zf (ξ (ax dI (ο 3) (gP (ξ (nv (ξ (ο 5) (ξ (ο 6) (ai)))) (ai)))) (ai)))) (fb)) SA
def Kf:ao:=aY (bt (eM Fs (ο 3) (ξ (bo mT (ξ (ο 0) (ξ (eN mU (ξ (ο 3) (ai))) (ai)))) (ai))) (uI 2 (jK (hName 5) (jK (hName 6) (uJ))))) Sz
def Sy:ao:=aY (bt (eN Ft (ξ (ο 4) (ξ (eN xE (ξ (eC (.int 2)) (ξ (ax dI (ax jH (ο 2) (eN mU (ξ (ο 3) (ai)))) (eC (.int 1))) (ai)))) (ai)))) (hName 4)) Kf
def Ke:ao:=aY (bt (w6 (ξ (eC (.int 2)) (ξ (eC (.int 2)) (ξ (eC (.int 3)) (ξ (eC (.int 2)) (ξ (eC (.int 3)) (ξ (eC (.int 5)) (ai))))))) (bo mT (ξ (ο 0) (ξ (eC (.int 6)) (ai))))) (hName 4)) Sy
def Ew:ao:=cP (eN zf (ξ (ο 3) (ai)))
def Sx:ao:=aY (nV (zN (bT (ax sH (eN mU (ξ (ο 3) (ai))) (ο 1))) (Cb (bT (ax uq (bo mT (ξ (ο 0) (ξ (eC (.int 4)) (ai)))) (eC (.int 0)))) (bT (ax sH (eN mU (ξ (ο 3) (ai))) (ο 2))))) (Ke)) Ew
def Sw:ao:=aY (bt (gP (ξ (nv (ξ (eC (.int 1)) (ξ (eC (.int 0)) (ai)))) (ai))) (hName 3)) Sx
theorem wrote{G G1:Gp}{q:ζ}{o o':GO}(n:eF G q o G1):eF G q o' (du G1 q o'):=⟨n.aB,Sub.yA n.sub n.aB,o9⟩
end My
namespace My
open PySem L2 L3
def Sv:ao:=qM (eM Lu (ο 3) (ξ (nv (ξ (ο 6) (ξ (bo mT (ξ (ο 0) (ξ (ο 6) (ai)))) (ai)))) (ai)))
def Su:ao:=aY (bt (ax fc (ο 4) (bo mT (ξ (ο 0) (ξ (eC (.int 7)) (ai))))) (hName 6)) Sv
def Ss:ao:=oE (nJ (ξ (bo mT (ξ (ο 0) (ξ (ax dI (ο 1) (eC (.int 1))) (ai)))) (ai))) (hName 5) (Su)
def Sr:ao:=aY (bt (gP (ai)) (hName 3)) Ss
def Kd:ao:=ix (bT (ax (eI false) (ο 2) (eC (.int 4)))) (qM (eM Fs (ο 3) (ξ (bo mT (ξ (ο 0) (ξ (eN mU (ξ (ο 3) (ai))) (ai)))) (ai)))) (fb)
def Tf:ao:=aY (ix (bT (ax (eI false) (ο 2) (eC (.int 3)))) (bt (ax dI (ο 3) (gP (ξ (bo xN (ξ (ο 0) (ξ (eC (.int 6)) (ai)))) (ai)))) (hName 3)) (fb)) Kd
def Eu:ao:=cP (Ds (eN zi (ξ (wI (ο 3)) (ai))) (yq) (vj (ο 1)))
end My
namespace My
open PySem L2 L3
def yT:eO:=fun ds G Q=>∃(c:af) (n:Int),ds=[cD c,.int n]/\0<c.1/\Q (.bl (cp n c)) G
def Kc:ao:=cP (ax (eI false) (ax iY (ax jH (ο 1) (ax fc (ο 0) (eC (.int 1)))) (ax fc (ο 0) (eC (.int 0)))) (eC (.int 0)))
theorem Te:∀ds G Q,yT ds G Q->Kc (bj Q) (br ["clock","number"] ds) G:=by
 rintro ds G Q ⟨⟨s,r⟩,n,rfl,hs,q⟩;exact⟨_,rfl,_,rfl,hs,_,_,rfl,rfl,aI _,fN q⟩
def yS:eO:=fun ds G Q=>∃a b:Nat,ds=[.int a,.int b]/\Q (.int (bD a b:Nat)) G
def Td:ao:=DF 0 1 (ξ (ο 1) (ξ (ax iY (ο 0) (ο 1)) (ai)))
def Tc:ao:=cP (ο 0)
def Kb:ao:=aY (nV (bT (ax uq (ο 1) (eC (.int 0)))) (Td)) Tc
theorem Tb:∀ds G Q,yS ds G Q->Kb (bj Q) (br ["one","other"] ds) G:=by
 rintro ds G Q ⟨a,b,rfl,q⟩;refine⟨fun m τ G'=>G'=G/\∃a':Nat,τ=[some (.int a'),some (.int (m:Nat))]/\bD a' m=bD a b,⟨b,rfl,a,rfl,rfl⟩,?_⟩;rintro m τ G' ⟨rfl,a',rfl,hg⟩;refine⟨fun h=>?_,fun h=>?_⟩
 ·have h':(0:Int)<(m:Int):=of_decide_eq_true h;refine⟨h',a'%m,by exact_mod_cast dO a' (by lia),rfl,m,?_,?_⟩
  ·show [some (D.int (m:Nat)),some (D.int ((a':Int)%(m:Int)))]=_;rw[←fM]
  ·rw[←hg,gU a' m,nP m a',gU]
 ·have h':¬((0:Int)<(m:Int)):=of_decide_eq_false h;have:m=0:=by lia
  subst this;rw[om] at hg;rw[←hg] at q;exact fN q
def yK(cs:List af)(a:Nat):Nat:=cs.foldl (fun a c=>bH a c.1.toNat) a
def gd(cs:List af):Nat:=yK cs 1
theorem Ta{n:Nat}(h:n<10^80):ie (n:Int):=by
 show (n:Int).natAbs<2^4000;exact mG (by simpa using h) (by decide)
def wa:eO:=fun ds G Q=>∃cs:List af,ds=[ff cs]/\CV 1000 cs/\cs.length≤12/\Q (.int (gd cs:Nat)) G
def S9:ao:=bt (ax gZ (ax lA (ο 1) (bo yS (ξ (ο 1) (ξ (ο 2) (ai))))) (ο 2)) (hName 1)
def S8:ao:=cP (ο 1)
def S7:ao:=aY (oE (qc (ο 0)) (uI 2 (jK (hName 2) (jK (hName 3) (uJ)))) (S9)) S8
def Ka:ao:=aY (bt (eC (.int 1)) (hName 1)) S7
theorem S6:∀ds G Q,wa ds G Q->Ka (bj Q) (br ["clocks","found","step","rest"] ds) G:=by
 rintro ds G Q ⟨cs,rfl,ok,hl,q⟩;refine p9 (fun ds τ G'=>G'=G/\∃(zs:List af) (a:Nat) (x2 x3:Option D),ds=zs.map cD/\τ=[some (ff cs),some (.int a),x2,x3]/\CV 1000 zs/\0<a/\a*1000^zs.length≤1000^12/\yK zs a=gd cs) (fun _ _ _ _=>trivial) ?_ ?_ _ _ _ ⟨rfl,cs,1,none,none,rfl,rfl,ok,by decide,?_,rfl⟩
 ·rintro d ds τ G' N ⟨rfl,zs,a,x2,x3,e,rfl,okz,ha,hb,hr⟩ hN;cases zs with
  |nil=>cases e
  |cons z zs=>
   cases e;obtain⟨s,r⟩:=z;obtain⟨v,hs⟩:=okz _ aa;have hs1:0<s:=v.1;have hs2:s≤1000:=hs;obtain⟨n,rfl⟩:∃n:Nat,s=(n:Int):=⟨s.toNat,by lia⟩;have hg:0<bD a n:=qH _ ha;have hga:bD a n≤a:=lE ha (jb _ _);have ha12:a≤1000^12:=aD (qG _ (Nat.pow_pos (by decide))) hb;have hbig:∀k:Nat,k≤1000^12->ie (k:Int):=fun k hk=>Ta (iq hk (by decide));refine⟨rfl,a,n,rfl,⟨by lia,hbig _ (aD hga ha12)⟩,⟨?_,hbig _ (aD (show n≤1000 by lia) (by decide))⟩,?_⟩
   ·rw[←gW];exact hbig _ (aD (qR _ _) ha12)
   have el:a / bD a n*n=bH a n:=by
    unfold bH;rw[iO a n,Nat.mul_div_assoc n (jb a n),iO]
   refine hN _ _ ⟨rfl,zs,bH a n,some (.int n),some (.int r),rfl,?_,fun c hc=>okz c (Γ _ hc),vU ha (by lia),?_,hr⟩
   ·show [some (ff cs),some (D.int ((a:Int) / (bD a n:Nat)*(n:Int))),_,_]=_;rw[←gW,←eH,el]
   ·refine aD ?_ hb;rw[az,mF,iO (1000^zs.length) 1000,←tU];refine tI _ ?_;have:bH a n≤a*n:=lE (jv ha (by lia)) (vV (pD _ _) (Nat.dvd_mul_left _ _));exact aD this (Nat.mul_le_mul_left _ (by lia))
 ·rintro τ G' ⟨rfl,zs,a,x2,x3,e,rfl,okz,ha,hb,hr⟩;have:zs=[]:=by cases zs with
   |nil=>rfl
   |cons z zs=>cases e
  subst this;have hr':a=gd cs:=hr;rw[←hr'] at q;exact fN q
 ·rw[vT];exact cH (by decide) hl
def zC:eO:=fun ds G Q=>∃(cs:List af) (n:Int),ds=[ff cs,.int n]/\(∀c∈cs,0<c.1)/\cs.length≤1000/\Q (.int ((cs.filter (cp n)).length:Nat)) G
def J9:ao:=cP (eN mU (ξ (i6 ["clock"] [1] (qc (ο 0)) (hName 0) (bT (bo yT (ξ (ο 0) (ξ (ο 1) (ai))))) (ο 0)) (ai)))
theorem Sd:∀ds G Q,zC ds G Q->J9 (bj Q) (br ["clocks","number"] ds) G:=by
 rintro ds G Q ⟨cs,n,rfl,hc,hz,q⟩;refine⟨by show (cs.map cD).length≤aw;rw[π];exact eA hz,?_⟩;refine rf (fun τ=>∃x,τ=[x,some (.int n)]) cD (cp n) cD (G:=G) trivial cs [] _ ⟨none,rfl⟩ ?_ ?_
 ·rintro c hm τ K1 K2 ⟨x,rfl⟩ h1 h2;exact⟨c,n,rfl,hc c hm,fun e=>h1 e _ ⟨_,rfl⟩,fun e=>h2 e _ ⟨_,rfl⟩⟩
 ·intro p G' h;refine⟨_,h.at_,?_⟩;rw[eG,π];exact rh h.sub q
end My
namespace My
open PySem L2 L3
def zB:eO:=fun ds G Q=>∃a b:Nat,ds=[.int a,.int b]/\Q (.int (bD a b:Nat)) G
def Sb:ao:=bt (ο 2) (hName 1)
def Sa:ao:=aY (bt (ο 1) (hName 0)) Sb
def R9:ao:=aY (bt (ax iY (ο 0) (ο 1)) (hName 2)) Sa
def R8:ao:=cP (ο 0)
def J8:ao:=aY (nV (bT (ax (eI true) (ο 1) (eC (.int 0)))) (R9)) R8
theorem R7:∀ds G Q,zB ds G Q->J8 (bj Q) (br ["one","other","left"] ds) G:=by
 rintro ds G Q ⟨a,b,rfl,q⟩;refine⟨fun m τ G'=>G'=G/\∃(a':Nat) (x:Option D),τ=[some (.int a'),some (.int (m:Nat)),x]/\bD a' m=bD a b,⟨b,rfl,a,_,rfl,rfl⟩,?_⟩;rintro m τ G' ⟨rfl,a',x,rfl,hg⟩;refine⟨_,_,rfl,rfl,aI _,fun h=>?_,fun h=>?_⟩
 ·have h1:(!((m:Int)==0))=true:=h;have h':(0:Int)<(m:Int):=by simp at h1;lia
  refine⟨h',a'%m,by exact_mod_cast dO a' (by lia),rfl,m,some (.int (a'%m:Nat)),?_,?_⟩
  ·show [some (D.int (m:Nat)),some (D.int ((a':Int)%(m:Int))),some (D.int ((a':Int)%(m:Int)))]=_;rw[←fM]
  ·rw[←hg,gU a' m,nP m a',gU]
 ·have h1:(!((m:Int)==0))=false:=h;have:m=0:=by simp at h1;lia
  subst this;rw[om] at hg;rw[←hg] at q;exact fN q
def nD(n:Nat):D:=.int (n:Nat)
theorem filter_all{α:Type}(xs:List α):xs.filter (fun _=>true)=xs:=m5.mpr fun _ _=>rfl
end My
namespace My
open PySem L2 L3
def zA:eO:=fun ds G Q=>∃n b:Nat,ds=[.int n,.int b]/\0<b/\b<10^70/\bD n b=1/\∀r:Int,0≤r->r<b->((b:Int)∣n*r-1)->Q (.int r) G
def R6:ao:=bt (ο 8) (hName 5)
def R5:ao:=aY (bt (ο 7) (hName 3)) R6
def R4:ao:=aY (bt (ο 5) (hName 4)) R5
def RZ:ao:=aY (bt (ο 3) (hName 2)) R4
def RY:ao:=aY (bt (ax jH (ο 4) (ax gZ (ο 6) (ο 5))) (hName 8)) RZ
def RX:ao:=aY (bt (ax jH (ο 2) (ax gZ (ο 6) (ο 3))) (hName 7)) RY
def RW:ao:=aY (bt (ax lA (ο 2) (ο 3)) (hName 6)) RX
def RV:ao:=cP (ax iY (ο 4) (ο 1))
def RU:ao:=aY (nV (bT (ax (eI true) (ο 3) (eC (.int 0)))) (RW)) RV
def RT:ao:=aY (bt (eC (.int 1)) (hName 5)) RU
def RQ:ao:=aY (bt (eC (.int 0)) (hName 4)) RT
def RP:ao:=aY (bt (ax iY (ο 0) (ο 1)) (hName 3)) RQ
def J7:ao:=aY (bt (ο 1) (hName 2)) RP
theorem RO{hf lf q:Int}{lo hi le b:Nat}(hq:0≤q)(he:(le:Int)=hi-q*lo)(h:hf.natAbs*lo+lf.natAbs*hi≤b):lf.natAbs*le+(hf-q*lf).natAbs*lo≤b:=by
 obtain⟨k,rfl⟩:∃k:Nat,q=(k:Int):=⟨q.toNat,by lia⟩;have h1:(hf-(k:Int)*lf).natAbs≤hf.natAbs+k*lf.natAbs:=by
  have:=Int.natAbs_sub_le hf ((k:Int)*lf);rw[Int.natAbs_mul,kh] at this;exact this
 have h2:hi=le+k*lo:=by
  have:(hi:Int)=((le+k*lo:Nat):Int):=by
   rw[Int.natCast_add,eH];lia
  exact_mod_cast this
 have h3:=tI lo h1;rw[rJ] at h3;have h4:lf.natAbs*hi=lf.natAbs*le+k*lf.natAbs*lo:=by
  rw[h2,Nat.mul_add,iO k lf.natAbs,tU]
 lia
theorem RN:∀ds G Q,zA ds G Q->J7 (bj Q) (br ["number","bound","high","low","high_factor","low_factor","turns","left","left_factor"] ds) G:=by
 rintro ds G Q ⟨n,b,rfl,hb,hz,hg,q⟩;have hb':(0:Int)<(b:Int):=by lia
 refine⟨hb',?_⟩;refine⟨fun m τ G'=>G'=G/\∃(hi:Nat) (hf lf:Int) (x6 x7 x8:Option D),τ=[some (.int n),some (.int b),some (.int hi),some (.int (m:Nat)),some (.int hf),some (.int lf),x6,x7,x8]/\m<hi/\hi≤b/\bD hi m=1/\((b:Int)∣hi-hf*n)/\((b:Int)∣m-lf*n)/\hf.natAbs*m+lf.natAbs*hi≤b,⟨n%b,rfl,b,0,1,none,none,none,?_,dO _ hb,Φ _,?_,?_,?_,?_⟩,?_⟩
 ·show [some (D.int n),some (D.int b),some (D.int b),some (D.int ((n:Int)%(b:Int))),_,_,_,_,_]=_;rw[←fM]
 ·rw[←hg,gU b,←nP,gU]
 ·rw[Int.zero_mul,Int.sub_zero];exact Int.dvd_refl _
 ·refine⟨-((n:Int) / b),?_⟩;have:=cB (n:Int) b;rw[fM,Int.mul_neg];lia
 ·simp
 rintro m τ G' ⟨rfl,hi,hf,lf,x6,x7,x8,rfl,h0,h1,hgm,d1,d2,hbd⟩;refine⟨_,_,rfl,rfl,aI _,fun h=>?_,fun h=>?_⟩
 ·have h2:(!((m:Int)==0))=true:=h;have hm:0<m:=by simp at h2;lia
  have hlf:lf.natAbs≤b:=aD (qG _ (by lia)) (aD (Nat.le_add_left _ _) hbd);have bigb:∀i:Int,i.natAbs≤b->ie i:=fun i hi'=>eJ (by lia) (by lia);have hq:((hi:Int) / (m:Int))=((hi / m:Nat):Int):=(gW _ _).symm;have hqb:ie ((hi:Int) / (m:Int)):=by
   rw[hq];exact bigb _ (by rw[kh];exact aD (qR _ _) h1)
  have hmb:ie (m:Int):=bigb _ (by rw[kh];lia);have hle:((hi%m:Nat):Int)=hi-(hi:Int) / m*m:=by
   have:=cB (hi:Int) m;rw[fM,gb ((hi:Int) / m)];lia
  refine⟨⟨by lia,hmb⟩,⟨hqb,hmb⟩,⟨hqb,bigb _ hlf⟩,hi%m,dO _ hm,rfl,m,lf,hf-(hi:Int) / m*lf,some (.int ((hi:Int) / m)),some (.int ((hi%m:Nat):Int)),some (.int (hf-(hi:Int) / m*lf)),?_,dO _ hm,by lia,?_,d2,?_,?_⟩
  ·show [some (D.int n),some (D.int b),some (D.int m),some (D.int ((hi:Int)-(hi:Int) / m*m)),some (D.int lf),some (D.int (hf-(hi:Int) / m*lf)),some (D.int ((hi:Int) / m)),some (D.int ((hi:Int)-(hi:Int) / m*m)),some (D.int (hf-(hi:Int) / m*lf))]=_;rw[←hle]
  ·rw[←hgm,gU hi m,nP m hi,gU]
  ·rw[hle];have:=dM d1 (fA d2 (Int.dvd_mul_left ((hi:Int) / m) _));rw[show (hi:Int)-(hi:Int) / m*m-(hf-(hi:Int) / m*lf)*n=hi-hf*n-(hi:Int) / m*(m-lf*n) by
    rw[vX,iw,fz];lia]
   exact this
  ·exact RO (by rw[hq];exact eU _) hle hbd
 ·have h2:(!((m:Int)==0))=false:=h;have:m=0:=by simp at h2;lia
  subst this;rw[om] at hgm;subst hgm;refine⟨hb',fN (q _ (cC _ (by lia)) (cg _ hb') ?_)⟩;have e:=cB hf b;have h3:(n:Int)*(hf%b)-1 = -((1:Nat)-hf*n)-b*(n*(hf / b)):=by
   have:hf%b=hf-b*(hf / b):=by lia
   rw[this,iw,←fz,←fz,gb (n:Int) hf,gb (n:Int) b];lia
  rw[h3];exact dM (Int.dvd_neg.mpr d1) (gB _ _)
def Meets(a b:af)(x:Int):Prop:=0≤x/\x<(bH a.1.toNat b.1.toNat:Nat)/\a.1∣x-a.2/\b.1∣x-b.2
theorem Meets.one{a b:af}{x y:Int}(ha:Valid a)(hb:Valid b)(hx:Meets a b x)(hy:Meets a b y):x=y:=by
 obtain⟨x1,x2,x3,x4⟩:=hx;obtain⟨y1,y2,y3,y4⟩:=hy;have d1:a.1∣x-y:=by
  have:=dM x3 y3;rwa [show x-a.2-(y-a.2)=x-y by lia] at this
 have d2:b.1∣x-y:=by
  have:=dM x4 y4;rwa [show x-b.2-(y-b.2)=x-y by lia] at this
 have e1:a.1.toNat∣(x-y).natAbs:=by
  have:=gr.mpr d1;rwa [show a.1.natAbs=a.1.toNat by have:=ha.1;lia] at this
 have e2:b.1.toNat∣(x-y).natAbs:=by
  have:=gr.mpr d2;rwa [show b.1.natAbs=b.1.toNat by have:=hb.1;lia] at this
 have e3:=vV e1 e2;have:(x-y).natAbs=0:=Nat.eq_zero_of_dvd_of_lt e3 (by lia);lia
def lC(a b:af):Option af:=((ar (bH a.1.toNat b.1.toNat)).find? fun x:Nat=>cp x a&&cp x b).map fun x:Nat=>(((bH a.1.toNat b.1.toNat:Nat):Int),(x:Int))
theorem cY{c:af}{n:Int}:cp n c=true↔c.1∣n-c.2:=by
 unfold cp;rw[beq_iff_eq];exact⟨Int.dvd_of_emod_eq_zero,kI⟩
theorem J6{a b:af}{x:Int}(ha:Valid a)(hb:Valid b)(h:Meets a b x):lC a b=some (((bH a.1.toNat b.1.toNat:Nat):Int),x):=by
 obtain⟨k,rfl⟩:∃k:Nat,x=(k:Int):=⟨x.toNat,by have:=h.1;lia⟩;unfold lC;cases e:(ar (bH a.1.toNat b.1.toNat)).find? fun x:Nat=>cp x a&&cp x b with
 |none=>
  have:=fZ.mp e k (bE.mpr (by have:=h.2.1;lia));exact absurd (by rw[cR,cY,cY];exact h.2.2) this
 |some y=>
  have h1:=List.find?_some e;have h2:=bE.mp (jN e);rw[cR,cY,cY] at h1;have:((y:Nat):Int)=(k:Int):=Meets.one ha hb ⟨by lia,by lia,h1.1,h1.2⟩ h;show some ((((bH a.1.toNat b.1.toNat:Nat):Int),((y:Nat):Int)):af)=_;rw[this]
theorem RM{a b:af}(h:∀x,¬Meets a b x):lC a b=none:=by
 unfold lC;rw[fZ.mpr]
 ·rfl
 ·intro x hx h1;rw[cR,cY,cY] at h1;exact h x ⟨by lia,by have:=bE.mp hx;lia,h1.1,h1.2⟩
theorem RL{a b:af}{m:af}(h:lC a b=some m):m.1=(bH a.1.toNat b.1.toNat:Nat)/\Meets a b m.2:=by
 unfold lC at h;cases e:(ar (bH a.1.toNat b.1.toNat)).find? fun x:Nat=>cp x a&&cp x b with
 |none=>rw[e] at h;cases h
 |some y=>
  rw[e] at h;have h1:=List.find?_some e;have h2:=bE.mp (jN e);rw[cR,cY,cY] at h1;cases h;exact⟨rfl,eU _,Int.ofNat_lt.mpr h2,h1.1,h1.2⟩
def oD:Option af->D
 |none=>.aB
 |some c=>cD c
def zy:eO:=fun ds G Q=>∃a b:af,ds=[cD a,cD b]/\Valid a/\Valid b/\a.1<10^60/\b.1<10^60/\Q (oD (lC a b)) G
def RK:ao:=cP (nv (ξ (ax gZ (ax fc (ο 0) (eC (.int 0))) (ο 4)) (ξ (ax dI (ax fc (ο 0) (eC (.int 1))) (ax gZ (ax fc (ο 0) (eC (.int 0))) (ο 5))) (ai))))
def RJ:ao:=aY (bt (ax iY (ax gZ (ax lA (ο 3) (ο 2)) (bo zA (ξ (ax lA (ax fc (ο 0) (eC (.int 0))) (ο 2)) (ξ (ο 4) (ai))))) (ο 4)) (hName 5)) RK
def RI:ao:=aY (bt (ax lA (ax fc (ο 1) (eC (.int 0))) (ο 2)) (hName 4)) RJ
def RH:ao:=aY (ix (bT (ax (eI true) (ax iY (ο 3) (ο 2)) (eC (.int 0)))) (cP (eC .aB)) (fb)) RI
def Sq:ao:=aY (bt (ax jH (ax fc (ο 1) (eC (.int 1))) (ax fc (ο 0) (eC (.int 1)))) (hName 3)) RH
def J5:ao:=aY (bt (bo zB (ξ (ax fc (ο 0) (eC (.int 0))) (ξ (ax fc (ο 1) (eC (.int 0))) (ai)))) (hName 2)) Sq
theorem Sn{g p q:Nat}{ap t inv r1 r2:Int}(hg:0<g)(hp:0<p)(hq:0<q)(hpq:bD p q=1)(h1:0≤r1)(h2:r1<((g*p:Nat):Int))(e:r2-r1=g*ap)(hi:(q:Int)∣p*inv-1)(ht:t=ap*inv%q):
  Meets (((g*p:Nat):Int),r1) (((g*q:Nat):Int),r2) (r1+((g*p:Nat):Int)*t):=by
 have t1:0≤t:=by rw[ht];exact cC _ (by lia)
 have t2:t<q:=by rw[ht];exact cg _ (by lia)
 have hl:bH (g*p) (g*q)=g*p*q:=by
  rw[Nat.lcm_mul_left,bH,hpq,Nat.div_one,tU]
 refine⟨?_,?_,?_,?_⟩
 ·exact Int.add_nonneg h1 (Int.mul_nonneg (eU _) t1)
 ·show r1+((g*p:Nat):Int)*t<(bH (((g*p:Nat):Int)).toNat (((g*q:Nat):Int)).toNat:Nat);rw[bY,bY,hl,eH (g*p) q];have:((g*p:Nat):Int)*t≤((g*p:Nat):Int)*((q:Int)-1):=fC (by lia) (eU _);rw[iw,ls] at this;lia
 ·show ((g*p:Nat):Int)∣r1+((g*p:Nat):Int)*t-r1;rw[show r1+((g*p:Nat):Int)*t-r1=((g*p:Nat):Int)*t by lia];exact gB _ _
 ·show ((g*q:Nat):Int)∣r1+((g*p:Nat):Int)*t-r2;have d:(q:Int)∣p*t-ap:=by
   have e1:=cB (ap*inv) q;have e2:(p:Int)*t-ap=ap*(p*inv-1)-q*(p*(ap*inv / q)):=by
    have:t=ap*inv-q*(ap*inv / q):=by lia
    rw[this,iw,iw,ls,←fz (p:Int) q,gb (p:Int) q,fz (q:Int),←fz ap (p:Int),gb ap (p:Int),fz (p:Int) ap];lia
   rw[e2];exact dM (fA hi (Int.dvd_mul_left _ _)) (gB _ _)
  obtain⟨k,hk⟩:=d;refine⟨k,?_⟩;have:r1+((g*p:Nat):Int)*t-r2=g*(p*t-ap):=by
   rw[iw,←e,←fz,eH];lia
  rw[this,hk,eH,fz]
theorem Sm:∀ds G Q,zy ds G Q->J5 (bj Q) (br ["one","other","shared","apart","many","turns"] ds) G:=by
 rintro ds G Q ⟨⟨s1,r1⟩,⟨s2,r2⟩,rfl,va,vb,z1,z2,q⟩;have v1:0<s1:=va.1;have v2:0<s2:=vb.1;have z1':s1<10^60:=z1;have z2':s2<10^60:=z2;obtain⟨m1,rfl⟩:∃n:Nat,s1=(n:Int):=⟨s1.toNat,by lia⟩;obtain⟨m2,rfl⟩:∃n:Nat,s2=(n:Int):=⟨s2.toNat,by lia⟩;have hg:0<bD m1 m2:=qH _ (by lia);have hgl:bD m1 m2≤m1:=lE (by lia) (jb _ _);have bg:ie ((bD m1 m2:Nat):Int):=eJ (by lia) (by lia);refine⟨_,rfl,_,rfl,m1,m2,rfl,_,rfl,_,rfl,by show (0:Int)<(bD m1 m2:Nat);lia,_,_,rfl,rfl,aI _,fun h=>?_,fun h=>?_⟩
 ·have h':(!((r2-r1)%((bD m1 m2:Nat):Int)==0))=true:=h;have cK:(r2-r1)%((bD m1 m2:Nat):Int)≠0:=by simpa using h'
  rw[RM] at q
  ·exact fN q
  ·rintro x ⟨_,_,d1,d2⟩;have e1:((bD m1 m2:Nat):Int)∣x-r1:=fA (cW.mpr (jb _ _)) d1;have e2:((bD m1 m2:Nat):Int)∣x-r2:=fA (cW.mpr (pC _ _)) d2;have:=dM e1 e2;rw[show x-r1-(x-r2)=r2-r1 by lia] at this;exact cK (kI this)
 ·have h':(!((r2-r1)%((bD m1 m2:Nat):Int)==0))=false:=h;have he:(r2-r1)%((bD m1 m2:Nat):Int)=0:=by simpa using h'
  obtain⟨p,hp⟩:=jb m1 m2;obtain⟨k,hk⟩:=pC m1 m2;have hpk:bD p k=1:=by
   have:=Nat.gcd_mul_left (bD m1 m2) p k;rw[←hp,←hk] at this;exact Nat.eq_of_mul_eq_mul_left hg (by rw[←this,Nat.mul_one])
  have hp0:0<p:=by
   rcases Nat.eq_zero_or_pos p with z|z
   ·rw[z,Nat.mul_zero] at hp;lia
   ·exact z
  have hk0:0<k:=by
   rcases Nat.eq_zero_or_pos k with z|z
   ·rw[z,Nat.mul_zero] at hk;lia
   ·exact z
  have hkm:k≤m2:=by rw[hk];exact rH _ hg
  have hpm:p≤m1:=by rw[hp];exact rH _ hg
  have dk:((m2:Int) / ((bD m1 m2:Nat):Int))=(k:Int):=by
   rw[←gW];congr 1;exact jr hg hk
  have dp:((m1:Int) / ((bD m1 m2:Nat):Int))=(p:Int):=by
   rw[←gW];congr 1;exact jr hg hp
  have c0:(0:Int)<((bD m1 m2:Nat):Int):=by lia
  have eap:r2-r1=((bD m1 m2:Nat):Int)*((r2-r1) / ((bD m1 m2:Nat):Int)):=by
   have:=cB (r2-r1) ((bD m1 m2:Nat):Int);lia
  have a1:0≤r1:=va.2.1;have a2:r1<(m1:Int):=va.2.2;have b1:0≤r2:=vb.2.1;have b2:r2<(m2:Int):=vb.2.2;have bap:ie ((r2-r1) / ((bD m1 m2:Nat):Int)):=by
   have h3:=Int.natAbs_ediv_le_natAbs (r2-r1) ((bD m1 m2:Nat):Int);exact eJ (by lia) (by lia)
  refine⟨_,rfl,⟨c0,bg⟩,⟨c0,bg⟩,_,rfl,⟨c0,bg⟩,?_⟩;dsimp only;rw[dk,dp];refine⟨p,k,rfl,hk0,by lia,hpk,fun inv i1 i2 i3=>⟨⟨bap,eJ (by lia) (by lia)⟩,by show (0:Int)<(k:Int);lia,?_⟩⟩;have t1:=cC ((r2-r1) / ((bD m1 m2:Nat):Int)*inv) (show (k:Int)≠0 by lia);have t2:=cg ((r2-r1) / ((bD m1 m2:Nat):Int)*inv) (show (0:Int)<(k:Int) by lia);refine⟨_,rfl,⟨eJ (by lia) (by lia),eJ (by lia) (by lia)⟩,_,rfl,_,rfl,⟨eJ (by lia) (by lia),eJ (by lia) (by lia)⟩,?_⟩;have M:=Sn (g:=bD m1 m2) (p:=p) (q:=k) (inv:=inv) (r1:=r1) (r2:=r2) hg hp0 hk0 hpk a1 (by rw[←hp];exact a2) eap i3 rfl;rw[←hp,←hk] at M;rw[J6 va vb M] at q;have el:bH m1 m2=m1*k:=by
   unfold bH;rw[Nat.mul_div_assoc _ (pC _ _)];congr 1;exact jr hg hk
  have q':Q (.tup [.int ((bH m1 m2:Nat):Int),.int (r1+(m1:Int)*((r2-r1) / ((bD m1 m2:Nat):Int)*inv%k))]) G:=q;rw[el,eH] at q';exact fN q'
end My
namespace My
open PySem L2 L3
def tz(c:af)(y:Int):Prop:=c.1∣y-c.2
theorem Sl{cs:List af}:∀{a:Nat},a∣yK cs a:=by
 induction cs with
 |nil=>exact Nat.dvd_refl _
 |cons c cs ih=>intro a;exact oP (qw a c.1.toNat) (ih (a:=bH a c.1.toNat))
theorem Sj{cs:List af}{c:af}:∀{a:Nat},c∈cs->c.1.toNat∣yK cs a:=by
 induction cs with
 |nil=>exact fun h=>nomatch h
 |cons d cs ih=>
  intro a h;rcases Ω.mp h with rfl|h
  ·exact oP (pE a c.1.toNat) (Sl (cs:=cs) (a:=bH a c.1.toNat))
  ·exact ih (a:=bH a d.1.toNat) h
theorem Si{a b:af}(ha:Valid a)(hb:Valid b)(h:lC a b=none)(y:Int):¬(tz a y/\tz b y):=by
 rintro⟨h1,h2⟩;have hL:0<bH a.1.toNat b.1.toNat:=vU (by have:=ha.1;lia) (by have:=hb.1;lia);have hL':(0:Int)<((bH a.1.toNat b.1.toNat:Nat):Int):=by lia
 have ed:=cB y ((bH a.1.toNat b.1.toNat:Nat):Int);have step:∀c:af,Valid c->c.1.toNat∣bH a.1.toNat b.1.toNat->tz c y->tz c (y%((bH a.1.toNat b.1.toNat:Nat):Int)):=by
  intro c hc hd hr;have d:c.1∣((bH a.1.toNat b.1.toNat:Nat):Int):=by
   have:=cW.mpr hd;rwa [bS (by have:=hc.1;lia)] at this
  show c.1∣y%((bH a.1.toNat b.1.toNat:Nat):Int)-c.2;have e2:=dM hr (fA d (gB _ (y / ((bH a.1.toNat b.1.toNat:Nat):Int))));rwa [show y-c.2-((bH a.1.toNat b.1.toNat:Nat):Int)*(y / ((bH a.1.toNat b.1.toNat:Nat):Int))=y%((bH a.1.toNat b.1.toNat:Nat):Int)-c.2 by lia] at e2
 have:=J6 ha hb ⟨cC y (by lia),cg y hL',step a ha (qw _ _) h1,step b hb (pE _ _) h2⟩;rw[h] at this;cases this
theorem Sh{a b m:af}(ha:Valid a)(hb:Valid b)(h:lC a b=some m):Valid m/\m.1.toNat=bH a.1.toNat b.1.toNat/\∀y,(tz a y/\tz b y)↔tz m y:=by
 obtain⟨e1,x1,x2,x3,x4⟩:=RL h;have hm:m.1.toNat=bH a.1.toNat b.1.toNat:=by rw[e1,bY]
 refine⟨⟨by lia,x1,by lia⟩,hm,fun y=>⟨fun⟨h1,h2⟩=>?_,fun h1=>⟨?_,?_⟩⟩⟩
 ·show m.1∣y-m.2;rw[e1];have d1:a.1.toNat∣(y-m.2).natAbs:=by
   have:=gr.mpr (dM h1 x3);rwa [show y-a.2-(m.2-a.2)=y-m.2 by lia,show a.1.natAbs=a.1.toNat by have:=ha.1;lia] at this
  have d2:b.1.toNat∣(y-m.2).natAbs:=by
   have:=gr.mpr (dM h2 x4);rwa [show y-b.2-(m.2-b.2)=y-m.2 by lia,show b.1.natAbs=b.1.toNat by have:=hb.1;lia] at this
  exact gr.mp (by rw[kh];exact vV d1 d2)
 ·have d:a.1∣m.1:=by
   rw[e1];have:=cW.mpr (qw a.1.toNat b.1.toNat);rwa [bS (by have:=ha.1;lia)] at this
  have:=nR (fA d h1) x3;rwa [show y-m.2+(m.2-a.2)=y-a.2 by lia] at this
 ·have d:b.1∣m.1:=by
   rw[e1];have:=cW.mpr (pE a.1.toNat b.1.toNat);rwa [bS (by have:=hb.1;lia)] at this
  have:=nR (fA d h1) x4;rwa [show y-m.2+(m.2-b.2)=y-b.2 by lia] at this
end My
namespace My
open PySem L2 L3
theorem DH(n:Nat):kM 0 n=(ar n).map nD:=by
 unfold kM;refine cT fun i _=>?_;show D.int (0+(i:Int))=D.int (i:Int);rw[mO]
end My
namespace My
open PySem L2 L3
theorem Known.sub{G G':Gp}{d:D}(s:Sub G G')(h:Known G d):Known G' d:=by
 cases d with
 |obj a=>
  obtain⟨o,e,hp⟩:=h;exact⟨o,s a o e,hp⟩
 |_=>trivial
end My
namespace My
open PySem L2 L3
theorem Et{α β:Type}(f:α->D)(g:β->D):∀(as:List α) (bs:List β),vZ (as.map f) (bs.map g)=(as.zip bs).map fun p=>D.tup [f p.1,g p.2]
 |[],_=>rfl
 |a::as,[]=>rfl
 |a::as,b::bs=>by
  show D.tup [f a,g b]::vZ (as.map f) (bs.map g)=D.tup [f a,g b]::(as.zip bs).map _;rw[Et f g as bs]
end My
namespace My
open PySem L2 L3
def parts(c:af)(k:Nat):List af:=(ar k).map fun t:Nat=>(c.1*(k:Int),c.2+c.1*(t:Int))
theorem Bi(c:af)(k:Nat):(parts c k).length=k:=by simp[parts]
end My
namespace My
open PySem L2 L3
abbrev WK:=List (af×List Int)
def fO(kvs:WK)(c:af)(y:List Int):List Int:=((kvs.find? fun q=>decide (q.1=c)).map (·.2)).getD y
def qZ(kvs:WK)(c:af)(v:List Int):WK:=if c∈kvs.map (·.1) then kvs.map (fun q=>if q.1=c then (q.1,v) else q) else kvs++[(c,v)]
def m6(a b:List Int):List Int:=uW (· + ·) a b
def kJ(a b:List Int):List Int:=uW (· - ·) a b
def addW(kvs:WK)(c:af)(w:List Int):WK:=qZ kvs c (m6 (fO kvs c (aA w.length 0)) w)
def sW(kvs:WK)(x:Int)(j:Nat):Int:=(kvs.map fun q=>if cp x q.1=true then q.2.getD j 0 else 0).sum
def l1(w:List Int):Nat:=(w.map Int.natAbs).sum
def aW(kvs:WK):Nat:=(kvs.map fun q=>l1 q.2).sum
structure vO(n:Nat)(B:Int)(kvs:WK):Prop where
 len:∀q∈kvs,q.2.length=n
 val:∀q∈kvs,Valid q.1/\q.1.1≤B
 nd:(kvs.map (·.1)).Nodup
theorem Sg{a b:List Int}(h:a.length=b.length)(j:Nat):(m6 a b).getD j 0=a.getD j 0+b.getD j 0:=by
 unfold m6;rw[bL,bL,bL,lV];by_cases hj:j<a.length
 ·rw[aE hj,aE (by lia)];rfl
 ·rw[gq (by lia),gq (by lia)];rfl
theorem Sf{a b:List Int}(h:a.length=b.length)(j:Nat):(kJ a b).getD j 0=a.getD j 0-b.getD j 0:=by
 unfold kJ;rw[bL,bL,bL,lV];by_cases hj:j<a.length
 ·rw[aE hj,aE (by lia)];rfl
 ·rw[gq (by lia),gq (by lia)];rfl
theorem J4{kvs:WK}{n:Nat}(h:∀q∈kvs,q.2.length=n)(c:af){y:List Int}(hy:y.length=n):(fO kvs c y).length=n:=by
 unfold fO;cases e:kvs.find? fun q=>decide (q.1=c) with
 |none=>exact hy
 |some q=>exact h q (jN e)
theorem J3{kvs:WK}{c:af}(h:c∉kvs.map (·.1))(y:List Int):fO kvs c y=y:=by
 unfold fO;rw[fZ.mpr]
 ·rfl
 ·intro q hq e;exact h (aT.mpr ⟨q,hq,of_decide_eq_true e⟩)
theorem Se(n j:Nat):(aA n (0:Int)).getD j 0=0:=by
 rw[bL,g9];split<;>rfl
theorem J0{kvs:WK}{c:af}{v:List Int}(h:c∉kvs.map (·.1)):kvs.map (fun q=>if q.1=c then (q.1,v) else q)=kvs:=by
 refine (cT fun q hq=>?_).trans (List.map_id _);rw[if_neg fun e=>h (aT.mpr ⟨q,hq,e⟩)];rfl
theorem zx(q:af×List Int)(kvs:WK)(x:Int)(j:Nat):sW (q::kvs) x j=(if cp x q.1=true then q.2.getD j 0 else 0)+sW kvs x j:=by
 unfold sW;rw[aC,cf]
theorem Ru(kvs:WK)(q:af×List Int)(x:Int)(j:Nat):sW (kvs++[q]) x j=sW kvs x j+if cp x q.1=true then q.2.getD j 0 else 0:=by
 unfold sW;rw[cO,mH];simp
theorem JZ{c:af}{v y:List Int}(x:Int)(j:Nat):∀{kvs:WK},(kvs.map (·.1)).Nodup->c∈kvs.map (·.1) ->
  sW (kvs.map fun q=>if q.1=c then (q.1,v) else q) x j=sW kvs x j+if cp x c=true then v.getD j 0-(fO kvs c y).getD j 0 else 0
 |[],_,h=>by cases h
 |q::kvs,nd,h=>by
  rw[aC] at nd;obtain⟨n1,n2⟩:=dP.mp nd;rw[aC,zx,zx];by_cases e:q.1=c
  ·subst e;have el:fO (q::kvs) q.1 y=q.2:=by
    unfold fO;rw[fo,decide_eq_true rfl];rfl
   rw[J0 n1,if_pos rfl,el];by_cases hr:cp x q.1=true
   ·simp only[hr,if_true];lia
   ·simp only[hr,if_false,dF];lia
  ·have hc:c∈kvs.map (·.1):=by
    rcases Ω.mp h with z|z
    ·exact absurd z.symm e
    ·exact z
   have el:fO (q::kvs) c y=fO kvs c y:=by
    unfold fO;rw[fo,decide_eq_false e]
   rw[if_neg e,JZ (y:=y) x j n2 hc,el];lia
theorem Fd{n:Nat}{B:Int}{kvs:WK}{c:af}{w:List Int}(h:vO n B kvs)(hw:w.length=n)(x:Int)(j:Nat):sW (addW kvs c w) x j=sW kvs x j+if cp x c=true then w.getD j 0 else 0:=by
 have hl:=J4 h.len c (y:=aA w.length 0) (by rw[gm];exact hw);have hz:=Sg (a:=fO kvs c (aA w.length 0)) (b:=w) (by rw[hl,hw]) j;unfold addW qZ;by_cases hc:c∈kvs.map (·.1)
 ·rw[if_pos hc,JZ (y:=aA w.length 0) x j h.nd hc,hz];by_cases hr:cp x c=true
  ·simp only[hr,if_true];lia
  ·simp only[hr,if_false,dF]
 ·rw[if_neg hc,Ru,hz,J3 hc,Se];by_cases hr:cp x c=true
  ·simp only[hr,if_true];lia
  ·simp only[hr,if_false,dF]
theorem Rt(kvs:WK)(c:af)(v:List Int):(qZ kvs c v).map (·.1)=if c∈kvs.map (·.1) then kvs.map (·.1) else kvs.map (·.1)++[c]:=by
 unfold qZ;by_cases hc:c∈kvs.map (·.1)
 ·rw[if_pos hc,if_pos hc,cy];refine cT fun q _=>?_;show (if q.1=c then (q.1,v) else q).1=q.1;split<;>rfl
 ·rw[if_neg hc,if_neg hc,cO];rfl
theorem JY{kvs:WK}{c:af}{v:List Int}{q:af×List Int}(h:q∈qZ kvs c v):q∈kvs∨q=(c,v):=by
 unfold qZ at h;split at h
 ·obtain⟨p,hp,e⟩:=aT.mp h;by_cases z:p.1=c
  ·rw[if_pos z,z] at e;exact .inr e.symm
  ·rw[if_neg z] at e;exact .inl (e▸hp)
 ·rcases cA.mp h with h|h
  ·exact .inl h
  ·exact .inr (cw.mp h)
theorem vO.add{n:Nat}{B:Int}{kvs:WK}{c:af}{w:List Int}(h:vO n B kvs)(hw:w.length=n)(hc:Valid c/\c.1≤B):vO n B (addW kvs c w):=by
 have hl:=J4 h.len c (y:=aA w.length 0) (by rw[gm];exact hw);refine⟨fun q hq=>?_,fun q hq=>?_,?_⟩
 ·rcases JY hq with z|z
  ·exact h.len q z
  ·rw[z];show (m6 _ w).length=n;unfold m6;rw[mZ,hl,hw,qt]
 ·rcases JY hq with z|z
  ·exact h.val q z
  ·rw[z];exact hc
 ·unfold addW;rw[Rt];by_cases hm:c∈kvs.map (·.1)
  ·rw[if_pos hm];exact h.nd
  ·rw[if_neg hm,List.nodup_append];refine⟨h.nd,by simp,fun a ha b hb e=>?_⟩;rw[cw.mp hb] at e;exact hm (e▸ha)
theorem Fc(kvs:WK)(c:af)(w:List Int):(addW kvs c w).length≤kvs.length+1:=by
 unfold addW qZ;split
 ·rw[π];lia
 ·rw[ah];exact Φ _
theorem Fb:∀a b:List Int,l1 (m6 a b)≤l1 a+l1 b
 |[],b=>by simp[l1,m6]
 |a::as,[]=>by simp[l1,m6]
 |a::as,b::bs=>by
  have ih:=Fb as bs;have:(a+b).natAbs≤a.natAbs+b.natAbs:=Int.natAbs_add_le a b;simp only[l1,m6,rK,aC,cf] at ih ⊢;lia
theorem Kz:∀a b:List Int,l1 (kJ a b)≤l1 a+l1 b
 |[],b=>by simp[l1,kJ]
 |a::as,[]=>by simp[l1,kJ]
 |a::as,b::bs=>by
  have ih:=Kz as bs;have:(a-b).natAbs≤a.natAbs+b.natAbs:=by lia
  simp only[l1,kJ,rK,aC,cf] at ih ⊢;lia
theorem Rr(n:Nat):l1 (aA n 0)=0:=by
 induction n with
 |zero=>rfl
 |succ n ih=>
  simp only[l1,dj,aC,cf] at ih ⊢;lia
theorem Rq(w:List Int)(j:Nat):(w.getD j 0).natAbs≤l1 w:=by
 induction w generalizing j with
 |nil=>simp[l1]
 |cons a w ih=>
  cases j with
  |zero=>
   simp only[l1,aC,cf,ud];lia
  |succ j=>
   have:=ih j;simp only[l1,aC,cf,ue] at this ⊢;lia
theorem Rp{kvs:WK}{q:af×List Int}(h:q∈kvs):l1 q.2≤aW kvs:=by
 induction kvs with
 |nil=>cases h
 |cons p kvs ih=>
  unfold aW;rw[aC,cf];rcases Ω.mp h with e|e
  ·rw[e];exact fK _ _
  ·have:=ih e;unfold aW at this;lia
theorem Ky{c:af}{v y:List Int}{m:Nat}:∀{kvs:WK},(kvs.map (·.1)).Nodup->c∈kvs.map (·.1)->l1 v≤l1 (fO kvs c y)+m->aW (kvs.map fun q=>if q.1=c then (q.1,v) else q)≤aW kvs+m
 |[],_,h,_=>by cases h
 |q::kvs,nd,h,hv=>by
  rw[aC] at nd;obtain⟨n1,n2⟩:=dP.mp nd;by_cases e:q.1=c
  ·subst e;have el:fO (q::kvs) q.1 y=q.2:=by
    unfold fO;rw[fo,decide_eq_true rfl];rfl
   rw[el] at hv;rw[aC,J0 n1,if_pos rfl];unfold aW;rw[aC,cf,aC,cf];show l1 v+_≤l1 q.2+_+m;lia
  ·have hc:c∈kvs.map (·.1):=by
    rcases Ω.mp h with z|z
    ·exact absurd z.symm e
    ·exact z
   have el:fO (q::kvs) c y=fO kvs c y:=by
    unfold fO;rw[fo,decide_eq_false e]
   rw[el] at hv;have ih:=Ky n2 hc hv;rw[aC,if_neg e];unfold aW at ih ⊢;rw[aC,cf,aC,cf];lia
theorem Kx{n:Nat}{B:Int}{kvs:WK}{c:af}{w:List Int}(h:vO n B kvs):aW (addW kvs c w)≤aW kvs+l1 w:=by
 unfold addW qZ;by_cases hc:c∈kvs.map (·.1)
 ·rw[if_pos hc];exact Ky (y:=aA w.length 0) h.nd hc (Fb _ _)
 ·rw[if_neg hc,J3 hc];unfold aW;rw[cO,mH];have:=Fb (aA w.length 0) w;rw[Rr] at this;simp only[aC,uX,cf,List.sum_nil];lia
def aaz(g:WK)(q:af×List Int):Option af->WK
 |none=>g
 |some b=>addW g b (kJ (0::q.2) (q.2++[0]))
def hV(c:af)(g:WK)(q:af×List Int):WK:=aaz (addW g q.1 (q.2++[0])) q (lC q.1 c)
def yu(c:af)(kvs:WK):WK:=kvs.foldl (hV c) []
def jd(cs:List af):WK:=cs.foldl (fun kvs c=>yu c kvs) [((1,0),[1])]
theorem Kw(w:List Int)(j:Nat):(w++[(0:Int)]).getD j 0=w.getD j 0:=by
 rw[bL,bL,tL];by_cases h:j<w.length
 ·rw[if_pos h]
 ·rw[if_neg h,show w[j]?=none from gq (by lia)];cases e:[(0:Int)][j-w.length]? with
  |none=>rfl
  |some v=>
   have:=bF e;rw[cw.mp this];rfl
theorem Kv(w:List Int):(kJ (0::w) (w++[0])).length=w.length+1:=by
 unfold kJ;rw[mZ,ah];simp
theorem Ro{a c:af}{B:Int}(ha:Valid a)(hc:Valid c)(h1:a.1≤B)(h2:c.1≤1000):((bH a.1.toNat c.1.toNat:Nat):Int)≤B*1000:=by
 have hd:bH a.1.toNat c.1.toNat≤a.1.toNat*c.1.toNat:=lE (jv (by have:=ha.1;lia) (by have:=hc.1;lia)) (Nat.lcm_dvd_mul _ _);have h3:((bH a.1.toNat c.1.toNat:Nat):Int)≤((a.1.toNat*c.1.toNat:Nat):Int):=Int.ofNat_le.mpr hd;rw[eH,bS (by have:=ha.1;lia),bS (by have:=hc.1;lia)] at h3;have p0:=ha.1;have p1:=hc.1;exact kj h3 (kj (fC h2 (by lia)) (mP h1 (by decide)))
theorem Rn{n:Nat}{B:Int}{c:af}{g:WK}{q:af×List Int}(hc:Valid c/\c.1≤1000)(h:vO (n+1) (B*1000) g)(hq:q.2.length=n)(hv:Valid q.1/\q.1.1≤B)(hB:0≤B):
  vO (n+1) (B*1000) (hV c g q)/\(∀x j,sW (hV c g q) x j=sW g x j+if cp x q.1=true then (if cp x c=true then (0::q.2).getD j 0 else q.2.getD j 0) else 0)/\aW (hV c g q)≤aW g+3*l1 q.2/\(hV c g q).length≤g.length+2:=by
 have l2:(q.2++[(0:Int)]).length=n+1:=by rw[ah,hq];rfl
 have w1:=h.add l2 ⟨hv.1,kj hv.2 (by lia)⟩;have la:l1 (q.2++[(0:Int)])=l1 q.2:=by
  unfold l1;rw[cO,mH];simp
 have lb:l1 (0::q.2)=l1 q.2:=by
  unfold l1;rw[aC,cf];simp
 have a1:=Kx (c:=q.1) (w:=q.2++[0]) h;have n1:=Fc g q.1 (q.2++[0]);rw[la] at a1;unfold hV;cases e:lC q.1 c with
 |none=>
  refine⟨w1,fun x j=>?_,by show aW (addW g q.1 (q.2++[0]))≤_;lia,by show (addW g q.1 (q.2++[0])).length≤_;lia⟩;show sW (addW g q.1 (q.2++[0])) x j=_;rw[Fd h l2,Kw];by_cases hr:cp x q.1=true
  ·have:¬cp x c=true:=fun z=>Si hv.1 hc.1 e x ⟨cY.mp hr,cY.mp z⟩;rw[if_pos hr,if_pos hr,if_neg this]
  ·rw[if_neg hr,if_neg hr]
 |some b=>
  obtain⟨vb,eb,hb⟩:=Sh hv.1 hc.1 e;have lz:(kJ (0::q.2) (q.2++[0])).length=n+1:=by rw[Kv,hq]
  have bb:b.1≤B*1000:=by
   have:=Ro hv.1 hc.1 hv.2 hc.2;rw[←eb,bS (by have:=vb.1;lia)] at this;exact this
  have a2:=Kx (c:=b) (w:=kJ (0::q.2) (q.2++[0])) w1;have a3:=Kz (0::q.2) (q.2++[0]);have n2:=Fc (addW g q.1 (q.2++[0])) b (kJ (0::q.2) (q.2++[0]));rw[la,lb] at a3;refine⟨w1.add lz ⟨vb,bb⟩,fun x j=>?_,by show aW (addW (addW g q.1 (q.2++[0])) b _)≤_;lia,by show (addW (addW g q.1 (q.2++[0])) b _).length≤_;lia⟩;show sW (addW (addW g q.1 (q.2++[0])) b (kJ (0::q.2) (q.2++[0]))) x j=_;rw[Fd w1 lz,Fd h l2,Sf (by rw[ah];rfl),Kw];have hbr:cp x b=true↔cp x q.1=true/\cp x c=true:=by
   rw[cY,cY,cY];exact (hb x).symm
  by_cases hr:cp x q.1=true
  ·by_cases hx:cp x c=true
   ·rw[if_pos hr,if_pos (hbr.mpr ⟨hr,hx⟩),if_pos hr,if_pos hx];lia
   ·rw[if_pos hr,if_neg (fun z=>hx (hbr.mp z).2),if_pos hr,if_neg hx];lia
  ·rw[if_neg hr,if_neg (fun z=>hr (hbr.mp z).1),if_neg hr];lia
theorem E9{n:Nat}{B:Int}{c:af}(hc:Valid c/\c.1≤1000)(hB:0≤B):∀{kvs:WK} {g:WK},(∀q∈kvs,q.2.length=n)->(∀q∈kvs,Valid q.1/\q.1.1≤B)->vO (n+1) (B*1000) g ->
  vO (n+1) (B*1000) (kvs.foldl (hV c) g)/\(∀x j,sW (kvs.foldl (hV c) g) x j=sW g x j+if cp x c=true then (if j=0 then 0 else sW kvs x (j-1)) else sW kvs x j)/\aW (kvs.foldl (hV c) g)≤aW g+3*aW kvs/\(kvs.foldl (hV c) g).length≤g.length+2*kvs.length
 |[],g,_,_,hg=>⟨hg,fun x j=>by
   show sW g x j=sW g x j+if cp x c=true then (if j=0 then 0 else (0:Int)) else 0;simp,Φ _,Φ _⟩
 |q::kvs,g,hl,hv,hg=>by
  obtain⟨s1,s2,s3,s4⟩:=Rn hc hg (hl q aa) (hv q aa) hB;obtain⟨t1,t2,t3,t4⟩:=E9 hc hB (fun p hp=>hl p (Γ _ hp)) (fun p hp=>hv p (Γ _ hp)) s1;rw[qU];refine⟨t1,fun x j=>?_,?_,?_⟩
  ·rw[t2,s2,zx,zx];cases j with
   |zero=>
    by_cases hx:cp x c=true
    ·simp only[hx,if_true,ud];split<;>lia
    ·simp only[hx,if_false,dF];lia
   |succ j=>
    by_cases hx:cp x c=true
    ·simp only[hx,if_true,ue,oo,Nat.succ_ne_zero,if_false,Nat.add_eq_zero,Nat.one_ne_zero,and_false];lia
    ·simp only[hx,if_false,dF];lia
  ·unfold aW at t3 s3 ⊢;rw[aC,cf];lia
  ·rw[az];lia
structure tm(cs:List af)(kvs:WK):Prop where
 ok:vO (cs.length+1) (1000^cs.length) kvs
 sum:∀x j,sW kvs x j=if (cs.filter (cp x)).length=j then 1 else 0
 abs:aW kvs≤3^cs.length
 many:kvs.length≤2^cs.length
theorem Rm:tm [] [((1,0),[1])]:=by
 refine⟨⟨fun q hq=>?_,fun q hq=>?_,by simp⟩,fun x j=>?_,by decide,by decide⟩
 ·rw[cw.mp hq];rfl
 ·rw[cw.mp hq];exact⟨⟨by decide,by decide,by decide⟩,by decide⟩
 ·have hr:cp x ((1,0):af)=true:=cY.mpr (Int.one_dvd _);show sW [(((1,0):af),[(1:Int)])] x j=if 0=j then 1 else 0;rw[zx,if_pos hr];cases j with
  |zero=>rfl
  |succ j=>simp[sW]
theorem Rl{cs:List af}{c:af}{kvs:WK}(hc:Valid c/\c.1≤1000)(h:tm cs kvs):tm (cs++[c]) (yu c kvs):=by
 have hB:(0:Int)≤1000^cs.length:=Int.pow_nonneg (by decide);obtain⟨t1,t2,t3,t4⟩:=E9 hc hB h.ok.len h.ok.val (g:=[]) ⟨nofun,nofun,kz⟩;have hl:(cs++[c]).length=cs.length+1:=ah;refine⟨?_,fun x j=>?_,?_,?_⟩
 ·rw[hl,u7];exact t1
 ·show sW (kvs.foldl (hV c) []) x j=_;rw[t2,dg];have e0:sW [] x j=0:=rfl;rw[e0,mO];by_cases hx:cp x c=true
  ·have e1:[c].filter (cp x)=[c]:=by rw[eQ,if_pos hx];rfl
   rw[if_pos hx,e1,ah];cases j with
   |zero=>rfl
   |succ j=>
    rw[if_neg (Nat.succ_ne_zero j),oo,h.sum];by_cases e:(cs.filter (cp x)).length=j
    ·rw[if_pos e,if_pos (by rw[e];rfl)]
    ·rw[if_neg e,if_neg (fun z=>e (by have z:(cs.filter (cp x)).length+1=j+1:=z;lia))]
  ·have e1:[c].filter (cp x)=[]:=by rw[eQ,if_neg hx];rfl
   rw[if_neg hx,e1,bV,h.sum]
 ·show aW (kvs.foldl (hV c) [])≤_;rw[hl,mF];have e0:aW []=0:=rfl;have:=h.abs;lia
 ·show (kvs.foldl (hV c) []).length≤_;rw[hl,mF];have:=h.many;have e0:([]:WK).length=0:=rfl;lia
theorem Ku:∀{ds cs:List af} {kvs:WK},(∀c∈ds,Valid c/\c.1≤1000)->tm cs kvs->tm (cs++ds) (ds.foldl (fun kvs c=>yu c kvs) kvs)
 |[],cs,kvs,_,h=>by
  rw[bV];exact h
 |d::ds,cs,kvs,hc,h=>by
  have:=Ku (ds:=ds) (fun c hm=>hc c (Γ _ hm)) (Rl (hc d aa) h);rw[iD] at this;exact this
theorem Kt{cs:List af}(h:∀c∈cs,Valid c/\c.1≤1000):tm cs (jd cs):=Ku (cs:=[]) h Rm
def md(c:af)(b:Int):Int:=(b-c.2-1) / c.1+1
theorem OR{c:af}(h:Valid c):md c 0=0:=by
 have h1:=h.1;have h2:=h.2.1;have h3:=h.2.2;have:(0-c.2-1) / c.1 = -1:=by
  refine lu h1 |>.mpr ⟨?_,?_⟩<;>lia
 unfold md;rw[this];rfl
theorem Rk{c:af}(h:Valid c)(b:Int):md c (b+1)=md c b+if cp b c=true then 1 else 0:=by
 have h1:=h.1;unfold md;rw[show b+1-c.2-1=b-c.2 by lia];by_cases hr:cp b c=true
 ·rw[if_pos hr];obtain⟨k,hk⟩:=cY.mp hr;have e1:(b-c.2) / c.1=k:=by rw[hk,Int.mul_ediv_cancel_left _ (by lia)]
  have e2:(b-c.2-1) / c.1=k-1:=by
   refine lu h1 |>.mpr ⟨?_,?_⟩
   ·rw[vX,gb k,←hk];lia
   ·rw[vX,gb k,←hk];lia
  rw[e1,e2];lia
 ·rw[if_neg hr];have hm:(b-c.2)%c.1≠0:=fun z=>hr (beq_iff_eq.mpr z);have e0:=cB (b-c.2) c.1;have m0:=cC (b-c.2) (show c.1≠0 by lia);have m1:=cg (b-c.2) h1;have e2:(b-c.2-1) / c.1=(b-c.2) / c.1:=by
   refine lu h1 |>.mpr ⟨?_,?_⟩
   ·rw[gb];lia
   ·rw[gb];lia
  rw[e2];lia
def tW(kvs:WK)(j:Nat)(b:Int):Int:=(kvs.map fun q=>q.2.getD j 0*md q.1 b).sum
theorem OE{kvs:WK}(h:∀q∈kvs,Valid q.1)(j:Nat):tW kvs j 0=0:=by
 unfold tW;rw[show kvs.map (fun q=>q.2.getD j 0*md q.1 0)=kvs.map (fun _=>(0:Int)) from cT fun q hq=>by rw[OR (h q hq),Int.mul_zero]]
 induction kvs with
 |nil=>rfl
 |cons q kvs ih=>
  rw[aC,cf,ih fun p hp=>h p (Γ _ hp)];rfl
theorem Rj{kvs:WK}(h:∀q∈kvs,Valid q.1)(j:Nat)(b:Int):tW kvs j (b+1)=tW kvs j b+sW kvs b j:=by
 induction kvs with
 |nil=>rfl
 |cons q kvs ih=>
  have ih:=ih fun p hp=>h p (Γ _ hp);unfold tW sW at ih ⊢;rw[aC,cf,aC,cf,aC,cf,ih,Rk (h q aa),Int.mul_add];by_cases hr:cp b q.1=true
  ·rw[if_pos hr,if_pos hr,ls];lia
  ·rw[if_neg hr,if_neg hr,Int.mul_zero];lia
def iy(cs:List af)(j b:Nat):Nat:=((ar b).filter fun x:Nat=>decide ((cs.filter (cp (x:Int))).length=j)).length
theorem zw(cs:List af)(j b:Nat):iy cs j (b+1)=iy cs j b+if (cs.filter (cp (b:Int))).length=j then 1 else 0:=by
 unfold iy;rw[List.range_succ,dg,ah];by_cases e:(cs.filter (cp (b:Int))).length=j
 ·rw[if_pos e,eQ,if_pos (decide_eq_true e)];rfl
 ·rw[if_neg e,eQ,if_neg (by rw[decide_eq_true_iff];exact e)];rfl
theorem Ri{cs:List af}{kvs:WK}(h:tm cs kvs)(j b:Nat):tW kvs j (b:Int)=iy cs j b:=by
 have hv:∀q∈kvs,Valid q.1:=fun q hq=>(h.ok.val q hq).1
 induction b with
 |zero=>exact OE hv j
 |succ b ih=>
  rw[show ((b+1:Nat):Int)=(b:Int)+1 by lia,Rj hv,ih,h.sum,zw];split<;>lia
end My
namespace L2
open PySem PySem.Spec PyProof.Rows
section
variable {X:Cx} {pins:List (ζ×aH)} {σ:St} {H:Hp} {s:θ} {a:ζ} {y v:V} {u r:ε} {o:Option V} {A:aJ} {E:ε->θ->Prop}
theorem Inv.Ou(I:Inv X pins σ H s):sysModules<s.heap.objs.size:=by
 have h:aS<s.heap.objs.size:=(I.mod.glob.keeps I.bk).lt;exact mG (by decide) h
theorem Ks{h':Ψ}{t':Nat}{ob:HO}(I:Inv X pins σ H s)(mu:Dx (H a))(hs:cQ a s.heap h')(he:∃q,h'.get? a=some q)(new:cM X.prog X.w (upd H a ob) h' a ob):
  Inv X pins σ (upd H a ob) { s with heap:=h',toks:=t' }:=
 I.write (x:=a) (e:=a) mu (.inl rfl) (fun b q hb z=>(hs.2 b hb).trans z) he new
end
structure M2(X:Cx)(o:υ)(m:ν)(apos:aN)(e f:υ)(cpos:aN):Prop where
 base:attributeBase o m X.env (eval o X.env)=eval o X.env
 GQ:((backTo cpos (bI [e,f] X.env)).all (fun x=>!x.1)&&(backToKw cpos (keywordEach [] X.env)).all (fun x=>x.1.isSome)
  && decide (([e,f]:List υ).length+([]:List sC).length+(if ([]:List sC).isEmpty then 0 else 1)<30))=true
 line:(apos.endLine==cpos.line)=true
 trees:backTo cpos (bI [e,f] X.env)=[(false,eval e X.env),(false,eval f X.env)]
end L2
namespace L3
open PySem PySem.Spec PyProof.Rows L2
abbrev jX:=List Int×ζ×ε
section
variable {K:η} {H:Hp} {G:Gp} {a p:ζ} {ks:List (List Int)}
theorem Ext.rS{φ:Ψ->Prop}{o:HO}(h:H p=some (.ext φ)):Ext H (upd H p o):=
 ⟨fun b ys e=>by
  rw[dA fun z=>by rw[z,h] at e;cases e];exact e,fun b x u e=>by
  rw[dA fun z=>by rw[z,h] at e;cases e];exact e⟩
theorem aV.rS{φ:Ψ->Prop}{o:HO}{g:GO}(R:aV K G H)(h:H p=some (.ext φ))(new:uS K (upd H p o) p g):aV K (du G p g) (upd H p o):=fun a u e=>by
 by_cases z:a=p
 ·subst z;rw[o9] at e;cases e;exact new
 ·rw[oZ z] at e;exact (R a u e).ext (Ext.rS h) (dA z)
end
section
variable {X:Cx} {pins:List (ζ×aH)} {σ:L2.St} {H:Hp} {s:θ} {a b:ζ} {A:aJ} {E:ε->θ->Prop}
theorem AX(I:L2.Inv X pins σ H s){k:List Int}(h:cL X.K H b (k.map V.int)):(tupleKind (intKind X.prog X.w)).is s.heap k b:=by
 obtain⟨its,rv,⟨o,h1,h2,n,h3⟩,_⟩:=I.tuple h;exact⟨o,its.toArray,n,h1,h2,h3,EM rv⟩
end
end L3
namespace L3
open PySem PySem.Spec PyProof.Rows L2
abbrev KD:=List Int×D
def gu(a:ζ)(o:aH):Ψ->Prop:=fun h=>h.get? a=some o
structure CT(K:η)(H:Hp)(p:KD)(x:jX):Prop where
 k:x.1=p.1
 t:cL K H x.2.1 (x.1.map V.int)
 v:∃v,Hv K H p.2 v/\RelV v x.2.2
def eD(K:η)(H:Hp):List KD->List jX->Prop
 |[],[]=>True
 |p::ps,x::xs=>CT K H p x/\eD K H ps xs
 |_,_=>False
def xV(kvs:List KD)(k:List Int)(d:D):List KD:=if k∈kvs.map (·.1) then kvs.map (fun p=>if p.1=k then (p.1,d) else p) else kvs++[(k,d)]
def nI(kvs:List KD)(k:List Int)(y:D):D:=((kvs.find? fun p=>decide (p.1=k)).map (·.2)).getD y
def me(o:aH)(xs:List jX):Prop:=o.ExactDict/\(∃P w es ep,o.data=.dict es ep/\es.toList=xs.map (entryOfKey (tupleKind (intKind P w))))/\(xs.map (·.1)).Nodup
def gs(kvs:List KD)(o:aH):η->ζ->Hp->Prop:=fun K a H=>H a=some (.ext (gu a o))/\(a==sysModules)=false/\∃xs,me o xs/\eD K H kvs xs
section
variable {K:η} {H H':Hp} {G:Gp} {a b:ζ} {kvs:List KD} {xs:List jX} {o:aH} {k:List Int} {d:D} {v:V} {r:ε}
theorem eD.ext(E:Ext H H'):∀{kvs:List KD} {xs:List jX},eD K H kvs xs->eD K H' kvs xs
 |[],[],_=>trivial
 |p::ps,x::xs,h=>⟨⟨h.1.k,cL.ext E h.1.t,let ⟨v,a,b⟩:=h.1.v;⟨v,a.ext E,b⟩⟩,eD.ext E h.2⟩
 |[],_::_,h=>h.elim
 |_::_,[],h=>h.elim
theorem eD.keys:∀{kvs:List KD} {xs:List jX},eD K H kvs xs->xs.map (·.1)=kvs.map (·.1)
 |[],[],_=>rfl
 |p::ps,x::xs,h=>by
  rw[aC,aC,h.1.k,eD.keys h.2]
 |[],_::_,h=>h.elim
 |_::_,[],h=>h.elim
theorem eD.iE:∀{kvs:List KD} {xs:List jX},eD K H kvs xs->∀x∈xs,cL K H x.2.1 (x.1.map V.int)
 |[],[],_,_,hx=>nomatch hx
 |p::ps,x::xs,h,y,hy=>by
  rcases Ω.mp hy with rfl|hy
  ·exact h.1.t
  ·exact eD.iE h.2 y hy
 |[],_::_,h,_,_=>h.elim
 |_::_,[],h,_,_=>h.elim
theorem eD.app:∀{kvs:List KD} {xs:List jX} {p:KD} {x:jX},eD K H kvs xs->CT K H p x->eD K H (kvs++[p]) (xs++[x])
 |[],[],_,_,_,h=>⟨h,trivial⟩
 |p::ps,x::xs,_,_,h,e=>⟨h.1,eD.app h.2 e⟩
 |[],_::_,_,_,h,_=>h.elim
 |_::_,[],_,_,h,_=>h.elim
theorem eD.Mu(hd:Hv K H d v)(hr:RelV v r):∀{kvs:List KD} {xs:List jX},eD K H kvs xs->eD K H (kvs.map (fun p=>if p.1=k then (p.1,d) else p)) (xs.map (putAt k r))
 |[],[],_=>trivial
 |p::ps,x::xs,h=>by
  refine⟨?_,eD.Mu hd hr h.2⟩;show CT K H (if p.1=k then (p.1,d) else p) (putAt k r x);unfold putAt;by_cases e:p.1=k
  ·rw[if_pos e,if_pos (h.1.k.trans e)];exact⟨h.1.k,h.1.t,v,hd,hr⟩
  ·rw[if_neg e,if_neg (fun z=>e (h.1.k.symm.trans z))];exact h.1
 |[],_::_,h=>h.elim
 |_::_,[],h=>h.elim
theorem at_isSome(xs:List jX)(k:List Int):(atKey xs k).isSome=decide (k∈xs.map (·.1)):=by
 unfold atKey;rw[Option.isSome_map,mQ,List.find?_isSome,decide_eq_true_iff,aT];constructor
 ·rintro⟨x,hx,e⟩;exact⟨x,hx,of_decide_eq_true e⟩
 ·rintro⟨x,hx,e⟩;exact⟨x,hx,decide_eq_true e⟩
theorem eD.put(h:eD K H kvs xs)(hb:cL K H b (k.map V.int))(hd:Hv K H d v)(hr:RelV v r):eD K H (xV kvs k d) (storedH xs k b r):=by
 unfold storedH xV;rw[at_isSome,h.keys];by_cases q:k∈kvs.map (·.1)
 ·rw[if_pos q,if_pos (decide_eq_true q)];exact h.Mu hd hr
 ·rw[if_neg q,if_neg (by simpa using q)];exact h.app ⟨rfl,hb,v,hd,hr⟩
theorem eD.look(hd:Hv K H d v)(hr:RelV v r):∀{kvs:List KD} {xs:List jX},eD K H kvs xs->∃u,Hv K H (nI kvs k d) u/\RelV u (((atKey xs k).map (·.2)).getD r)
 |[],[],_=>⟨v,hd,hr⟩
 |p::ps,x::xs,h=>by
  by_cases e:p.1=k
  ·have e1:nI (p::ps) k d=p.2:=by
    unfold nI;rw[fo,decide_eq_true e];rfl
   have e2:((atKey (x::xs) k).map (·.2)).getD r=x.2.2:=by
    unfold atKey;rw[fo,decide_eq_true (h.1.k.trans e)];rfl
   rw[e1,e2];exact h.1.v
  ·have e1:nI (p::ps) k d=nI ps k d:=by
    unfold nI;rw[fo,decide_eq_false e]
   have e2:((atKey (x::xs) k).map (·.2)).getD r=((atKey xs k).map (·.2)).getD r:=by
    unfold atKey;rw[fo,decide_eq_false fun z=>e (h.1.k.symm.trans z)]
   rw[e1,e2];exact eD.look hd hr h.2
 |[],_::_,h=>h.elim
 |_::_,[],h=>h.elim
theorem eD.vals:∀{kvs:List KD} {xs:List jX},eD K H kvs xs->∃vs,aR K H (kvs.map (·.2)) vs/\bh vs (xs.map (·.2.2))
 |[],[],_=>⟨[],by simp[aR],.nil⟩
 |p::ps,x::xs,h=>by
  obtain⟨v,h1,h2⟩:=h.1.v;obtain⟨vs,h3,h4⟩:=eD.vals h.2;exact⟨v::vs,aR.cons h1 h3,.cons h2 h4⟩
 |[],_::_,h=>h.elim
 |_::_,[],h=>h.elim
theorem AW(h:gs kvs o K a H):uS K H a (.gen (gs kvs o)):=
 ⟨h,⟨_,h.1,fun _=>nofun,fun _ _=>nofun⟩,fun H1 H2 h1 h2 e ⟨z,q,xs,r,en⟩=>⟨e.trans z,q,xs,r,en.ext ⟨h1,h2⟩⟩⟩
theorem E8{P:ag}{w:av}{h:Ψ}(e:h.get? a=some o):cM P w H h a (.ext (gu a o)):=
 ⟨e,⟨o,e⟩,fun h1 h2 e kk=>kk _ e⟩
end
section
variable {X:Cx} {pins:List (ζ×aH)} {σ:L2.St} {H:Hp} {s:θ} {a b:ζ} {A:aJ} {E:ε->θ->Prop} {o:aH} {xs:List jX} {k:List Int}
theorem zu(I:L2.Inv X pins σ H s)(e:H a=some (.ext (gu a o))):s.heap.get? a=some o:=by
 obtain⟨z,_⟩:=(show cM X.prog X.w H s.heap a _ from I.bJ a _ e);exact z
theorem E7(I:L2.Inv X pins σ H s)(e:H a=some (.ext (gu a o)))(R:me o xs)(ht:∀x∈xs,cL X.K H x.2.1 (x.1.map V.int)):s.heap.DictOfH (tupleKind (intKind X.prog X.w)) a xs:=by
 obtain⟨r1,⟨P,w,es,ep,r2,r3⟩,r4⟩:=R;exact⟨o,es,ep,zu I e,r1,r2,r3,fun x hm=>AX I (ht x hm),r4⟩
theorem Rh{r:ε}{Q:Unit->θ->Prop}(hu:A.units+1<cLine)(I:L2.Inv X pins σ H s)(e:H a=some (.ext (gu a o)))(R:me o xs)(ht:∀x∈xs,cL X.K H x.2.1 (x.1.map V.int))(hk:cL X.K H b (k.map V.int))(hl:xs.length≤1000)
  (h:∀s' o',L2.Inv X pins σ (upd H a (.ext (gu a o'))) s'->me o' (storedH xs k b r)->Q () s'):
  ρ (model X.prog X.w) A (setItem (.ref a) (.ref b) r) Q E s:=by
 refine wpAny_setItem_heap (hsz:=by rw[cq];omega) (tupleKind_room_in1 hu) (AX I hk) (E7 I e R ht) fun h' dd' hs=>?_;obtain⟨q,es',ep',hq,y2,y3,y4,_,y5⟩:=dd';exact h _ q (Ks I (by rw[e];exact mE) hs ⟨q,hq⟩ (E8 hq)) ⟨y2,⟨_,_,es',ep',y3,y4⟩,y5⟩
theorem Rg{r:ε}{Q:Unit->θ->Prop}(hu:A.units<cLine)(I:L2.Inv X pins σ H s)(e:H a=some (.ext (gu a o)))(R:me o xs)(ht:∀x∈xs,cL X.K H x.2.1 (x.1.map V.int))(hk:cL X.K H b (k.map V.int))(hl:xs.length≤1000)
  (h:∀s' o',L2.Inv X pins σ (upd H a (.ext (gu a o'))) s'->me o' (storedH xs k b r)->Q () s'):
  ρ (model X.prog X.w) A (dictSet a (.ref b) r) Q E s:=by
 refine wpAny_dictSet_heap (hsz:=by rw[cq];omega) hu (AX I hk) (E7 I e R ht) fun h' dd' hs=>?_;obtain⟨q,es',ep',hq,y2,y3,y4,_,y5⟩:=dd';exact h _ q (Ks I (by rw[e];exact mE) hs ⟨q,hq⟩ (E8 hq)) ⟨y2,⟨_,_,es',ep',y3,y4⟩,y5⟩
end
section
variable {X:Cx} {o i e f:υ} {pos pos' p apos cpos:aN} {to ti tv ta tk td:aQ}
def zO:aQ:=fun _ G Q=>∀p o G2,eF G p (.gen (gs [] o)) G2->Q (.obj p) G2
theorem E6(P:ag)(w:av):me { cls:=.type "dict",data:=.dict #[]} []:=⟨⟨rfl,rfl,rfl⟩,⟨P,w,#[],0,rfl,rfl⟩,kz⟩
theorem Kr{pins:List (ζ×aH)}{s:θ}{σ:L2.St}{H:Hp}(I:L2.Inv X pins σ H s):L2.Inv X pins σ (upd H s.heap.objs.size (.ext (gu s.heap.objs.size { cls:=.type "dict",data:=.dict #[]}))) { s with heap:=s.heap.push { cls:=.type "dict",data:=.dict #[]}}:=
 I.laid (a:=s.heap.objs.size) (o:=.ext (gu s.heap.objs.size { cls:=.type "dict",data:=.dict #[]})) (t':=s.toks) (fun _ _ q=>ι _ q) (Φ _) (E8 (ae _ rfl))
theorem Rf:PE X (.Dict [] [] pos) (fun _ H Q=>∀p o,H p=none->(p==sysModules)=false->me o []->Q (.ref p) (upd H p (.ext (gu p o)))):=fun pins s σ H Q I h=>
 wpAny_Dict_empty ⟨.ref s.heap.objs.size,_,Kr I,rfl,h _ _ (I.bJ.fresh (Φ _)) (beq_eq_false_iff_ne.mpr (dy (bf I.Ou))) (E6 X.prog X.w)⟩
theorem Rc:bN X (.Dict [] [] pos) zO:=jJ Rf fun σ H Q ⟨τ,G,Q3,RS,RG,h,k⟩ p o hp hs R=>
 k _ _ (.obj p) _ rp (.hX hp) (RG.hX hp (AW (kvs:=[]) ⟨g6,hs,[],R,trivial⟩)) (h p o _ (.mk' (RG.free hp)))
def Ay(to ti tv:aQ):ao:=fun D τ G=>tv τ G fun v G1=>to τ G1 fun o G2=>ti τ G2 fun x G3=>match o,x with
 |.obj p,.tup ds=>∃kvs ob k,G3 p=some (.gen (gs kvs ob))/\ds=k.map .int/\kvs.length≤1000/\∀ob',D.nx τ (du G3 p (.gen (gs (xV kvs k v) ob')))
 |_,_=>False
theorem Rb{td ty tv:TE}(hu:X.A.units+1<cLine)(ho:PE X o td)(hi:PE X i ty)(hv:PE X e tv)(hs:swapsWith e (some (.Subscript o i pos')) pos.line X.env=pure false):
  PS X (.Assign [.Subscript o i pos'] e pos) (fun D σ H=>tv σ H fun v H1=>td σ H1 fun x H2=>ty σ H2 fun y H3=>∃a b ob xs k,x=.ref a/\y=.ref b/\H3 a=some (.ext (gu a ob))/\me ob xs/\(∀x∈xs,cL X.K H3 x.2.1 (x.1.map V.int))/\cL X.K H3 b (k.map V.int)/\xs.length≤1000 ∧
   ∀r o',RelV v r->me o' (storedH xs k b r)->D.nx σ (upd H3 a (.ext (gu a o')))):=by
 intro pins s σ H D I h;refine wpAny_Assign_Subscript (bO (hv pins s σ H _ I h) fun r s1 ⟨v,H1,I1,rv,q1⟩=>bO (ho pins s1 σ H1 _ I1 q1) fun u s2 ⟨x,H2,I2,rx,q2⟩=>bO (hi pins s2 σ H2 _ I2 q2) fun iv s3 ⟨y,H3,I3,ry,a,b,ob,xs,k,ex,ey,z1,R,z2,z3,z4,q3⟩=>?_) hs;subst ex ey;obtain rfl:u=aF a:=rx;obtain rfl:iv=aF b:=ry;exact Rh hu I3 z1 R z2 z3 z4 fun s4 o' I4 y1=>⟨σ,_,I4,q3 r o' rv y1⟩
theorem EZ{K:η}{H:Hp}{key:List Int}{vs:List V}(h:aR K H (key.map D.int) vs):vs=key.map V.int:=by
 refine uz h ?_;clear h
 induction key with
 |nil=>rfl
 |cons n ns ih=>simp[intsOf,ih]
theorem Ra(hu:X.A.units+64<cLine)(ho:bN X o to)(hi:bN X i ti)(hv:bN X e tv)(hs:swapsWith e (some (.Subscript o i pos')) pos.line X.env=pure false:=by rfl):
  pk X (.Assign [.Subscript o i pos'] e pos) (Ay to ti tv):=
 oI (Rb (iq (by omega) hu) ho hi hv hs) fun D σ H ⟨τ,G,D3,RS,RG,h,k⟩=>
  ⟨τ,G,_,RS,RG,h,fun v H1 dv G1 hv S1 R1 q1=>⟨τ,G1,_,RS.ext (S1.ext RG),R1,q1,fun x H2 d2 G2 h2 S2 R2 q2=>
   ⟨τ,G2,_,(RS.ext (S1.ext RG)).ext (S2.ext R1),R2,q2,fun y H3 d3 G3 h3 S3 R3 q3=>by
    cases d2 with
    |obj p=>
     cases d3 with
     |tup ds=>
      obtain⟨kvs,ob,key,e1,rfl,l1,q⟩:=q3;obtain⟨⟨z1,z0,xs,z2,z3⟩,_⟩:=R3 p _ e1;obtain⟨b,vs,rfl,t1,t2⟩:=lJ h3;obtain rfl:=EZ t2;have hx:x=.ref p:=iH h2;refine⟨p,b,ob,xs,key,hx,rfl,z1,z2,z3.iE,t1,?_,fun r o' rr y1=>?_⟩
      ·have:=congrArg e7 z3.keys;rw[π,π] at this;omega
      ·have E3:=Ext.rS (o:=.ext (gu p o')) z1;refine k.nx τ σ _ _ ?_ ?_ (R3.rS z1 (AW ⟨g6,z0,_,y1,(z3.put t1 ((hv.ext (S2.ext R1)).ext (S3.ext R2)) rr).ext E3⟩)) (q o')
       ·exact ((((RS.ext (S1.ext RG)).ext (S2.ext R1)).ext (S3.ext R2))).ext E3
       ·exact ((S1.trans S2).trans S3).trans (Step.wrote e1)
     |_=>exact q3.elim
    |_=>exact q3.elim⟩⟩⟩
def B8(to tk td:aQ):aQ:=fun τ G Q=>to τ G fun o G1=>match o with
 |.obj p=>(∃kvs ob,G1 p=some (.gen (gs kvs ob)))/\tk τ G1 fun x G2=>td τ G2 fun y G3=>match x with
  |.tup ds=>∃kvs ob k,G3 p=some (.gen (gs kvs ob))/\ds=k.map .int/\Q (nI kvs k y) G3
  |_=>False
 |_=>False
theorem Q9{to tk td:TE}(hu:X.A.units+1<cLine)(ho:PE X o to)(he:PE X e tk)(hf:PE X f td)(m:M2 X o "get" apos e f cpos):
  PE X (.Call (.Attribute o "get" apos) [e,f] [] cpos) (fun σ H Q=>to σ H fun x H1=>∃a,x=.ref a/\(∃ob,H1 a=some (.ext (gu a ob))/\ob.ExactDict)/\tk σ H1 fun y H2=>td σ H2 fun z H3=>∃b k ob xs,y=.ref b/\H3 a=some (.ext (gu a ob))/\(a==sysModules)=false/\me ob xs/\(∀x∈xs,cL X.K H3 x.2.1 (x.1.map V.int))/\cL X.K H3 b (k.map V.int) ∧
   ∀r,RelV z r->∃u,RelV u (((atKey xs k).map (·.2)).getD r)/\Q u H3):=by
 intro pins s σ H Q I h;refine wpAny_Call_method m.base m.GQ m.line PySem.F.plainAttrs_dict sv PySem.F.type_dict_get (bO (ho pins s σ H _ I h) fun u s1 ⟨x,H1,I1,rx,a,ex,⟨ob,e1,ex1⟩,q1⟩=>?_);subst ex;obtain rfl:u=aF a:=rx;have hh:=zu I1 e1;refine⟨⟨ob,hh,ex1.1⟩,fun a1 e=>by cases e;exact⟨ob,hh,ex1.2.1⟩,?_⟩;rw[m.trees];refine ly rfl (tN (oA (bO (he pins s1 σ H1 _ I1 q1) fun iv s2 ⟨y,H2,I2,ry,q2⟩=>
  oA (bO (hf pins s2 σ H2 _ I2 q2) fun fv s3 ⟨z,H3,I3,rz,b,k,ob2,xs,ey,z1,z0,R,z2,z3,q3⟩=>vJ ?_))))
 subst ey;obtain rfl:iv=aF b:=ry;have dd:=E7 I3 z1 R z2;obtain⟨u,ru,q⟩:=q3 fv rz;exact call_meetsIn sv dd.typeIs PySem.F.entry_dict_get (PySem.F.args_dict_get_3 _ _ _) (meetsH_dict_get_default (tupleKind (intKind X.prog X.w)) a b z0 fv) ⟨tupleKind_room_in1 hu,k,xs,AX I3 z3,dd,⟨u,H3,I3.tok _,ru,q⟩⟩
theorem Q8(hu:X.A.units+64<cLine)(ho:bN X o to)(he:bN X e tk)(hf:bN X f td)(m:M2 X o "get" apos e f cpos):bN X (.Call (.Attribute o "get" apos) [e,f] [] cpos) (B8 to tk td):=
 jJ (Q9 (iq (by omega) hu) ho he hf m) fun σ H Q ⟨τ,G,Q3,RS,RG,h,k⟩=>
  ⟨τ,G,_,RS,RG,h,fun v H1 d1 G1 h1 S1 R1 q1=>by
   cases d1 with
   |obj p=>
    obtain⟨⟨kvs,ob,e1⟩,q1⟩:=q1;obtain⟨⟨z1,z0,xs,z2,z3⟩,_⟩:=R1 p _ e1;refine⟨p,iH h1,⟨ob,z1,z2.1⟩,τ,G1,_,RS.ext (S1.ext RG),R1,q1,fun y H2 d2 G2 h2 S2 R2 q2=>⟨τ,G2,_,(RS.ext (S1.ext RG)).ext (S2.ext R1),R2,q2,fun z H3 d3 G3 h3 S3 R3 q3=>?_⟩⟩;cases d2 with
    |tup ds=>
     obtain⟨kvs,ob,key,e1,rfl,q⟩:=q3;obtain⟨⟨z1,z0,xs,z2,z3⟩,_⟩:=R3 p _ e1;obtain⟨b,vs,rfl,t1,t2⟩:=lJ (h2.ext (S3.ext R2));obtain rfl:=EZ t2;refine⟨b,key,ob,xs,rfl,z1,z0,z2,z3.iE,t1,fun r rr=>?_⟩;obtain⟨u,hu1,hu2⟩:=z3.look (k:=key) h3 rr;exact⟨u,hu2,k u H3 _ G3 hu1 ((S1.trans S2).trans S3) R3 q⟩
    |_=>exact q3.elim
   |_=>exact q1.elim⟩
def Ca(tk tv:aQ):aQ:=fun τ G Q=>∀p o0 G0,eF G p (.gen (gs [] o0)) G0->tk τ G0 fun x G1=>tv τ G1 fun v G2=>match x with
 |.tup ds=>∃k,ds=k.map .int/\G2 p=some (.gen (gs [] o0))/\∀o',Q (.obj p) (du G2 p (.gen (gs [(k,v)] o')))
 |_=>False
theorem Q7{tk tv:TE}(hu:X.A.units+64<cLine)(hk:PE X i tk)(hv:PE X e tv):
  PE X (.Dict [some i] [e] pos) (fun σ H Q=>∀p o,H p=none->(p==sysModules)=false->me o []->tk σ (upd H p (.ext (gu p o))) fun x H1=>tv σ H1 fun v H2=>∃b k,x=.ref b/\H2 p=some (.ext (gu p o))/\cL X.K H2 b (k.map V.int) ∧
   ∀r o',RelV v r->me o' (storedH [] k b r)->Q (.ref p) (upd H2 p (.ext (gu p o')))):=by
 intro pins s σ H Q I h;have h0:=h s.heap.objs.size _ (I.bJ.fresh (Φ _)) (beq_eq_false_iff_ne.mpr (dy (bf I.Ou))) (E6 X.prog X.w);refine wpAny_Dict_any rfl rfl (by simp) (by simp) ?_;show ρ _ _ (eval i X.env >>= _) _ _ _;refine δ (bO (hk pins _ σ _ _ (Kr I) h0) fun u s1 ⟨x,H1,I1,rx,q1⟩=>?_);refine δ (bK (δ (bO (hv pins s1 σ H1 _ I1 q1) fun u2 s2 ⟨y,H2,I2,ry,b,k,ex,e1,t1,q2⟩=>δ (hU (μ ?_)))));refine δ (bK (μ (μ ?_)));subst ex;obtain rfl:u=aF b:=rx;unfold storeAll;simp only[mL,sy];refine δ (δ (Rg (iq (by omega) hu) I2 e1 (E6 X.prog X.w) (fun x hx=>nomatch hx) t1 (by simp) fun s3 o' I3 R'=>μ (μ ?_)));exact⟨.ref s.heap.objs.size,_,I3,rfl,q2 u2 o' ry R'⟩
theorem Q6(hu:X.A.units+64<cLine)(hk:bN X i tk)(hv:bN X e tv):bN X (.Dict [some i] [e] pos) (Ca tk tv):=
 jJ (Q7 hu hk hv) fun σ H Q ⟨τ,G,Q3,RS,RG,h,k⟩ p o hp hs R=>by
  have S0:Step H G (upd H p (.ext (gu p o))) (du G p (.gen (gs [] o))):=.hX hp;have R0:aV X.K (du G p (.gen (gs [] o))) (upd H p (.ext (gu p o))):=RG.hX hp (AW (kvs:=[]) ⟨g6,hs,[],R,trivial⟩);refine⟨τ,_,_,RS.ext (S0.ext RG),R0,h p o _ (.mk' (RG.free hp)),fun x H1 d1 G1 h1 S1 R1 q1=>⟨τ,G1,_,(RS.ext (S0.ext RG)).ext (S1.ext R0),R1,q1,fun v H2 d2 G2 h2 S2 R2 q2=>?_⟩⟩;cases d1 with
  |tup ds=>
   obtain⟨key,rfl,e1,q⟩:=q2;obtain⟨⟨z1,z0,xs,z2,z3⟩,_⟩:=R2 p _ e1;obtain⟨b,vs,rfl,t1,t2⟩:=lJ (h1.ext (S2.ext R1));obtain rfl:=EZ t2;refine⟨b,key,rfl,z1,t1,fun r o' rr y1=>?_⟩;have E3:=Ext.rS (o:=.ext (gu p o')) z1;refine k _ _ (.obj p) _ rp (((S0.trans S1).trans S2).trans (Step.wrote e1)) (R2.rS z1 (AW ⟨g6,z0,_,y1,?_⟩)) (q o');exact (eD.put (kvs:=[]) (xs:=[]) trivial t1 h2 rr).ext E3
  |_=>exact q2.elim
end
end L3
namespace L3
open PySem PySem.Spec PyProof.Rows L2
section
variable {prog:ag} {w:av} {A:aJ} {E:ε->θ->Prop} {s:θ}
theorem Q5(d:ζ)(hd:(d==sysModules)=false):
  MeetsIn prog w (di.«dict.items» ⟨[.ref d],[]⟩) (fun _ R s=>s.TypeIs (.ref d) "dict" ∧
   R (.ok (.ret (.ref s.heap.objs.size))) { s with heap:=s.heap.push { cls:=.type "dict_items",data:=.fields #[.ref d]}}):=
 .of_wp fun A R s ⟨hm,h⟩=>by
  unfold di.«dict.items»;refine δ ?_;unfold di.Dict.noArgs;refine δ (wpAny_notOrdered_dict hm ?_);show ρ _ _ (pure d) _ _ s;refine μ ?_;show ρ _ _ (sD d >>= _) _ _ s;unfold sD;rw[if_neg (by rw[hd];exact ay)];refine δ (μ ?_);exact δ (bz (μ ⟨_,rfl,h⟩))
theorem Q4{v d:ζ}{o:aH}{es:Array kl}{ep:Nat}{Q:ε->θ->Prop}(hv:s.heap.IsItemsView v d)(ho:s.heap.get? d=some o)(hdat:o.data=.dict es ep)
  (hQ:Q (.ref s.heap.objs.size) { s with heap:=s.heap.push { cls:=.type "dict_itemiterator",data:=.fields #[.none,.bool false,.ref d,.int 0 0,.int es.size 0,.int ep 0,.none,.none]}}):
  ρ (model prog w) A (pyIter (.ref v)) Q E s:=by
 obtain⟨ov,hov,hcv,hdv⟩:=id hv;refine kS hv.typeIs F.slot_dict_items_iter (bU F.slot_dict_items_iter hv.typeIs F.entry_dict_items_iter ?_ (F.args_dict_items_iter_1 _));unfold di.«dict_items.__iter__»;refine δ (μ ?_);refine δ ?_;unfold di.Dict_items.dictOf;refine δ (bA hov hdv (x:=.ref d) rfl (μ ?_));refine δ ?_;unfold di.Dict_items.newIterator;refine δ (pq ho hdat ?_);refine δ (qP ho hdat ?_);have hown:iQ "dict_itemiterator" = true:=by decide
 simp only[hown,if_true];refine bz (μ ⟨_,rfl,"dict_itemiterator",_,⟨_,ae _ rfl,rfl⟩,F.slot_dict_itemiterator_next.lookup,?_⟩)
  (by simp only[sizeOk,kB,ψ,ah,az,gp,cq];lia)
 simpa [rawInt,kB] using hQ
theorem Q2{it d:ζ}{i ep:Nat}{od:aH}{es:Array kl}{en:kl}{ok ov:ε}{Q:Option ε->θ->Prop}(hit:jc s.heap it d i es.size ep ok ov)
  (wZ:s.heap.get? d=some od) (hdd:od.data=.dict es ep) (hx:es[i]?=some en)
  (hQ:∀h',tZ h' it d (i+1) es.size ep en.key en.val s.heap.objs.size ->
   h'.get? s.heap.objs.size=some { cls:=.type "tuple",data:=.seq #[en.key,en.val]}->h'.objs.size=s.heap.objs.size+1 ->
   (∀b o,b≠it->s.heap.get? b=some o->h'.get? b=some o)->Q (some (.ref s.heap.objs.size)) { s with heap:=h' }):
  ρ (model prog w) A (pyNext (.ref it)) Q E s:=by
 obtain⟨hp,g,dr,tk,os⟩:=s;obtain⟨hlt',een⟩:=aG.mp hx;subst een;have hT:lD ⟨hp,g,dr,tk,os⟩ (.ref it) "dict_itemiterator":=⟨_,hit,rfl⟩;unfold pyNext;refine δ (gv (cm (name:=fk "__next__") hT F.slot_dict_itemiterator_next
  (bU F.slot_dict_itemiterator_next hT F.entry_dict_itemiterator_next ?_ (F.args_dict_itemiterator_next_1 _))))
 refine δ (μ ?_);refine δ ?_;refine δ ?_
 first|refine δ (fi hT (μ ?_))|refine δ (gC hT (μ ?_))
 refine δ (sf hit rfl ?_);have hown:iQ "dict_itemiterator" = true:=by decide
 simp only[hown,if_true];show ρ _ _ (if (aF d==aX)=true then _ else _) _ _ _;rw[if_neg (show ¬((aF d==aX)=true) from ay)];refine δ (μ ?_);refine δ (pq wZ hdd ?_);rw[if_neg (by simp)];refine δ (μ ?_);refine δ (qP wZ hdd ?_);rw[if_neg (by simp)];refine μ ?_;simp only[show ¬((i:Int)<0) from by lia,if_false,bY,jS hlt'];refine δ ?_
 first|refine δ (fi hT (μ ?_))|refine δ (gC hT (μ ?_))
 refine δ (lh hT ?_);show ρ _ _ (setField (.ref it) 3 (rawInt ((i:Int)+1)) >>= _) _ _ ⟨hp,g,dr,tk,os⟩;refine δ (bQ hit (by simp) fun h₁ he₁ hs₁=>?_)
 replace hs₁:cQ it hp h₁:=hs₁
 replace he₁:jc h₁ it d (i+1) es.size ep ok ov:=by
  have e:((i+1:Nat):Int)=(i:Int)+1:=by lia
  unfold jc;rw[e];simpa [rawInt] using he₁
 have hT₁:lD ⟨h₁,g,dr,tk,os⟩ (.ref it) "dict_itemiterator":=⟨_,he₁,rfl⟩;refine δ (bK ?_);refine δ (lh hT₁ ?_);refine δ (lh hT₁ ?_);show ρ _ _ (lP (.ref it) 6 es[i].key es[i].val) _ _ ⟨h₁,g,dr,tk,os⟩;unfold lP;refine δ (nA ?_);have he₂:jc (h₁.push { cls:=.type "tuple",data:=.seq #[es[i].key,es[i].val]}) it d (i+1) es.size ep ok ov:=ι _ he₁;generalize hh₂:h₁.push { cls:=.type "tuple",data:=.seq #[es[i].key,es[i].val]}=h₂ at he₂;have hz₁:h₁.objs.size=hp.objs.size:=hs₁.1;have hil:it<hp.objs.size:=Θ hit;have ht₂:h₂.get? hp.objs.size=some { cls:=.type "tuple",data:=.seq #[es[i].key,es[i].val]}:=by rw[←hh₂,←hz₁];exact ae _ rfl
 have hz₂:h₂.objs.size=hp.objs.size+1:=by rw[←hh₂,dN,hz₁]
 have hk₂:∀b o,b≠it->hp.get? b=some o->h₂.get? b=some o:=fun b o hb e=>by rw[←hh₂];exact ι _ (hs₁.extBut b o hb e)
 show ρ _ _ (kA (.ref it) >>= _) _ _ ⟨h₂,g,dr,tk,os⟩;rw[hz₁];clear hh₂ he₁ hs₁ hT₁ hz₁ h₁;refine δ ?_;unfold kA;refine δ (bA he₂ rfl (x:=.none) rfl (μ ?_));simp only[if_true];refine δ (bA he₂ rfl (x:=ok) rfl ?_);refine δ (bA he₂ rfl (x:=ov) rfl ?_);refine δ (bQ he₂ (by simp) fun h₃ he₃ hs₃=>?_)
 replace hs₃:cQ it h₂ h₃:=hs₃
 replace he₃:jc h₃ it d (i+1) es.size ep es[i].key ov:=he₃
 refine δ (bQ he₃ (by simp) fun h₄ he₄ hs₄=>?_)
 replace hs₄:cQ it h₃ h₄:=hs₄
 replace he₄:jc h₄ it d (i+1) es.size ep es[i].key es[i].val:=he₄
 refine δ (bQ he₄ (by simp) fun h₅ he₅ hs₅=>?_)
 replace hs₅:cQ it h₄ h₅:=hs₅
 replace he₅:tZ h₅ it d (i+1) es.size ep es[i].key es[i].val hp.objs.size:=he₅
 refine δ (bQ he₅ (by simp) fun h₆ he₆ hs₆=>?_)
 replace hs₆:cQ it h₅ h₆:=hs₆
 replace he₆:tZ h₆ it d (i+1) es.size ep es[i].key es[i].val hp.objs.size:=he₆
 refine δ (rE (μ (μ ⟨_,rfl,μ (hQ h₆ he₆ ?_ ?_ ?_)⟩)))
 ·exact hs₆.extBut _ _ (dS hil) (hs₅.extBut _ _ (dS hil) (hs₄.extBut _ _ (dS hil) (hs₃.extBut _ _ (dS hil) ht₂)))
 ·show h₆.objs.size=hp.objs.size+1;rw[hs₆.1,hs₅.1,hs₄.1,hs₃.1,hz₂]
 ·exact fun b o hb e=>hs₆.extBut b o hb (hs₅.extBut b o hb (hs₄.extBut b o hb (hs₃.extBut b o hb (hk₂ b o hb e))))
theorem Q1{it d:ζ}{i ep:Nat}{od:aH}{es:Array kl}{ok ov:ε}{Q:Option ε->θ->Prop}(hh:A.handled=none)(hit:jc s.heap it d i es.size ep ok ov)
  (wZ:s.heap.get? d=some od) (hdd:od.data=.dict es ep) (hge:es.size≤i)
  (hQ:∀h',vY it s.heap h'->Q none { s with heap:=h' }):ρ (model prog w) A (pyNext (.ref it)) Q E s:=by
 have hT:s.TypeIs (.ref it) "dict_itemiterator":=⟨_,hit,rfl⟩;unfold pyNext;refine δ (gv (cm (name:=fk "__next__") hT F.slot_dict_itemiterator_next
  (bU F.slot_dict_itemiterator_next hT F.entry_dict_itemiterator_next ?_ (F.args_dict_itemiterator_next_1 _))))
 refine δ (μ ?_);refine δ ?_;refine δ ?_
 first|refine δ (fi hT (μ ?_))|refine δ (gC hT (μ ?_))
 refine δ (sf hit rfl ?_);have hown:iQ "dict_itemiterator" = true:=by decide
 simp only[hown,if_true];show ρ _ _ (if (aF d==aX)=true then _ else _) _ _ s;rw[if_neg (show ¬((aF d==aX)=true) from ay)];refine δ (μ ?_);refine δ (pq wZ hdd ?_);rw[if_neg (by simp)];refine δ (μ ?_);refine δ (qP wZ hdd ?_);rw[if_neg (by simp)];refine μ ?_;simp only[show ¬((i:Int)<0) from by lia,if_false,bY,Array.getElem?_eq_none hge];refine δ ?_
 first|refine δ (fi hT (μ ?_))|refine δ (gC hT (μ ?_))
 show ρ _ _ (setField (.ref it) 2 .none >>= _) _ _ s;refine δ (fJ hit rfl (by simp) ?_);show ρ _ _ (newExc (.type "StopIteration") [] >>= _) _ _ _;refine δ ?_;simp only[newExc,newTuple];refine δ (bz ?_ (by size_fits));refine δ (m:=firstArgMember _ _) (lg (a:=aX) (by first|rfl|(simp only[firstArgMember];rfl)) ?_)
 refine bz ?_ (by size_fits);simp only[raiseNew];refine δ (tS ?_);rw[show A.in1.handled=none from hh];refine δ (μ (wpAny_throw ?_));refine δ (lK (T:="StopIteration") (b:=true) ⟨_,ae _ rfl,rfl⟩ sh ?_);exact μ (hQ _ (((dm ..).extBut.push _).push _))
end
theorem eD.get{K:η}{H:Hp}:∀{kvs:List KD} {xs:List jX} {i:Nat} {q:KD},eD K H kvs xs->kvs[i]?=some q->∃x,xs[i]?=some x/\CT K H q x
 |[],_,_,_,_,e=>by cases e
 |p::ps,x::xs,0,q,h,e=>by
  cases e;exact⟨x,rfl,h.1⟩
 |p::ps,x::xs,i+1,q,h,e=>eD.get (i:=i) h.2 e
 |_::_,[],_,_,h,_=>h.elim
theorem Kq{K:η}{H:Hp}:∀k:List Int,aR K H (k.map D.int) (k.map V.int)
 |[]=>by simp[aR]
 |n::ns=>aR.cons (by simp[Hv]) (Kq ns)
def FC(d:ζ)(o:aH)(xs:List jX)(vs:List V):It:=
 ⟨fun i H=>H d=some (.ext (gu d o))/\i<xs.length,
  fun i H x H'=>∃T e v,x=.ref T/\H T=none/\H'=upd H T (.tup [.ref e.2.1,v])/\xs[i]?=some e/\vs[i]?=some v,
  fun i H=>H d=some (.ext (gu d o))/\xs.length≤i⟩
theorem RF{P P':ag}{w w':av}{K:η}{es:List υ}{n0:Nat}{ps:aN}(d it:ζ){o:aH}{xs:List jX}{vs:List V}{ees:Array kl}{ep:Nat}(hdat:o.data=.dict ees ep)(hes:ees.toList=xs.map (entryOfKey (tupleKind (intKind P' w'))))(hv:bh vs (xs.map (·.2.2))):
  Turn P w K (.Tuple es n0 ps) (FC d o xs vs) [it] it (fun i h=>∃ok ov,jc h it d i ees.size ep ok ov) where
 mem:=by simp
 obj:=fun i h ⟨ok,ov,Z⟩ b hb=>by
  rw[cw.mp hb];exact⟨_,Z,fun v z=>by cases (show nS _=lW v from z)⟩
 keep:=fun i h h' ⟨ok,ov,Z⟩ k=>⟨ok,ov,k _ (by simp) _ Z⟩
 item:=by
  intro X hP hw hK hc i pins s σ H E I hf st hg;subst hP hw hK;obtain⟨ok,ov,Z⟩:=st;obtain⟨e1,hi⟩:=hg;have ho:=zu I e1;have hx:xs[i]?=some xs[i]:=aE hi;have hen:ees[i]?=some (entryOfKey (tupleKind (intKind P' w')) xs[i]):=by
   rw[entry_at hes i,hx];rfl
  have hlv:i<vs.length:=by
   rw[hv.length,π];exact hi
  obtain⟨u,hu1,hu2⟩:=hv.get (aE hlv);have eu:u=xs[i].2.2:=by
   rw[aK,hx] at hu1;exact (aO hu1).symm
  subst eu;refine Q2 Z ho hdat hen fun h' Zo T' sz kp=>⟨_,rfl,?_⟩;refine wpAny_letOwnedTupleGo_items (s:={ s with heap:=h' }) Zo fun h2 Z2 b2=>?_;have hn:H s.heap.objs.size=none:=I.bJ.fresh (Φ _);have I1:L2.Inv X pins σ (upd H s.heap.objs.size (.tup [.ref xs[i].2.1,vs[i]])) { s with heap:=s.heap.push { cls:=.type "tuple",data:=.seq #[.ref xs[i].2.1,xs[i].2.2]}}:=I.laid (t':=s.toks) (fun b o e=>ι _ e) (Φ _) ⟨by show 2≤aw;decide,[.ref xs[i].2.1,xs[i].2.2],.cons rfl (.cons hu2 .nil),⟨_,ae _ rfl,rfl,⟨_,rfl⟩,rfl⟩⟩;have lt:∀b∈[it],b<s.heap.objs.size:=fun b hb=>by
   rw[cw.mp hb];exact Θ Z
  have hf':∀b∈[it],j4 X pins (upd H s.heap.objs.size (.tup [.ref xs[i].2.1,vs[i]])) b:=fun b hb=>⟨by rw[dA (bf (lt b hb))];exact (hf b hb).1,(hf b hb).2⟩;have I2:L2.Inv X pins σ (upd H s.heap.objs.size (.tup [.ref xs[i].2.1,vs[i]])) { s with heap:=h2 }:=ve (s:={ s with heap:=s.heap.push { cls:=.type "tuple",data:=.seq #[.ref xs[i].2.1,xs[i].2.2]}}) (t':=s.toks) I1 (fun b o hb e=>by
   simp only[Ω,ba,or_false] at hb;refine b2.extBut b o hb ?_;rcases tM e with⟨rfl,rfl⟩|e
   ·exact T'
   ·exact kp b o hb e) hf'
  exact⟨.ref s.heap.objs.size,_,I2,rfl,⟨_,xs[i],vs[i],rfl,hn,rfl,hx,aE hlv⟩,⟨_,_,Z2⟩,fun b hb=>(hf' b hb).1⟩
 done:=by
  intro X hP hw hK hc i pins s σ H E I hf st hg;subst hP hw hK;obtain⟨ok,ov,Z⟩:=st;obtain⟨e1,hl⟩:=hg;exact Q1 (I.ok.hd hc) Z (zu I e1) hdat (by rw[size_of_entries hes];exact hl) fun h' kp=>⟨rfl,ve (t':=s.toks) I (fun b o hb e=>kp b o (by simpa using hb) e) hf⟩
 self:=fun A i s Q E ⟨ok,ov,Z⟩ h=>by
  have hT:s.TypeIs (.ref it) "dict_itemiterator":=⟨_,Z,rfl⟩;refine kS hT F.slot_dict_itemiterator_iter (bU F.slot_dict_itemiterator_iter hT (b:=di.«dict_keyiterator.__iter__») ?_ ?_ (F.args_dict_itemiterator_iter_1 _))
  ·exact si (id':="dict_keyiterator.__iter__") (by kernel_rfl) (by decide +kernel) (by decide +kernel) (by kernel_rfl)
  ·show ρ _ _ (ret (.ref it)) _ _ s;exact μ ⟨_,rfl,"dict_itemiterator",_,hT,F.slot_dict_itemiterator_next.lookup,h⟩
section
variable {X:Cx} {es:List υ} {n0:Nat} {ps apos cpos:aN} {o:υ}
theorem RE{to:TE}(ho:PE X o to)(kn:attributeBase o "items" X.env (eval o X.env)=eval o X.env)(pL:(apos.endLine==cpos.line)=true):
  PI X (.Tuple es n0 ps) (.Call (.Attribute o "items" apos) [] [] cpos) (fun σ H R=>to σ H fun x H1=>∃a ob xs vs,x=.ref a/\H1 a=some (.ext (gu a ob))/\(a==sysModules)=false/\me ob xs/\bh vs (xs.map (·.2.2))/\R (FC a ob xs vs) H1):=by
 intro pins s σ H R I h;refine wpAny_Call_method0_late kn pL (bO (ho pins s σ H _ I h) fun v s1 ⟨x,H1,I1,r1,a,ob,xs,vs,ex,e1,z0,RD,hv,q⟩=>?_);subst ex;obtain rfl:v=aF a:=r1;have hh:=zu I1 e1;have hT:s1.TypeIs (.ref a) "dict":=⟨ob,hh,RD.1.1⟩;refine⟨"dict","dict.items",F.plainAttrs_dict,F.slot_dict_items,F.type_dict_items,hT,fun a1 e=>by cases e;exact⟨ob,hh,RD.1.2.1⟩,ly rfl (PySem.evalArgs_none ?_)⟩;refine call_meetsIn F.slot_dict_items hT F.entry_dict_items (F.args_dict_items_1 _) (Q5 a z0) ⟨hT,?_⟩;obtain⟨_,⟨P',w',ees,ep,r2,r3⟩,_⟩:=RD;refine Q4 (s:={ s1 with heap:=s1.heap.push { cls:=.type "dict_items",data:=.fields #[.ref a]}}) (o:=ob) ⟨_,ae _ rfl,rfl,rfl⟩ (ι _ hh) r2 ?_
 refine⟨_,[_],_,FC a ob xs vs,H1,rfl,I1.kept (t':=s1.toks) (fun b o e=>ι _ (ι _ e)),RF a _ r2 r3 hv,⟨_,_,ae _ rfl⟩,fun b hb=>?_,q⟩;have hb:s1.heap.objs.size≤b:=by
  rw[cw.mp hb,dN];exact rG _
 exact I1.tj hb (I1.bJ.fresh hb)
def wY(to:aQ):pd:=fun τ G R=>to τ G fun x G1=>match x with
 |.obj p=>∃kvs ob,G1 p=some (.gen (gs kvs ob))/\R ⟨kvs.map (fun q=>.tup [tupI q.1,q.2]),fun G=>G p=some (.gen (gs kvs ob))⟩ G1
 |_=>False
theorem RC{to:aQ}(ho:bN X o to)(kn:attributeBase o "items" X.env (eval o X.env)=eval o X.env:=by rfl)(pL:(apos.endLine==cpos.line)=true:=by rfl):
  xc X (.Tuple es n0 ps) (.Call (.Attribute o "items" apos) [] [] cpos) (wY to):=
 Bb (RE ho kn pL) fun σ H R ⟨τ,G,R3,RS,RG,h,k⟩=>⟨τ,G,_,RS,RG,h,fun v H1 d G1 h1 S1 R1 q1=>by
  cases d with
  |obj p=>
   obtain⟨kvs,ob,e1,q⟩:=q1;obtain⟨⟨z1,z0,xs,z2,z3⟩,_⟩:=R1 p _ e1;obtain⟨vs,hv1,hv2⟩:=z3.vals;have hlen:xs.length=kvs.length:=by
    have:=congrArg e7 z3.keys;rwa [π,π] at this
   refine⟨p,ob,xs,vs,iH h1,z1,z0,z2,hv2,k _ _ _ _ ⟨?_,?_⟩ S1 R1 q⟩
   ·intro i d H' G' E' RG' hg hi;have hi:(kvs.map fun q=>D.tup [tupI q.1,q.2])[i]?=some d:=hi;rw[aK] at hi;obtain⟨q,hq,rfl⟩:=Option.map_eq_some_iff.mp hi;obtain⟨x,hx,er⟩:=(z3.ext E').get hq;obtain⟨u,hu1,hu2⟩:=hv1.get (i:=i) (d:=q.2) (by rw[aK,hq];rfl);refine⟨⟨(RG' p _ hg).1.1,(au.mp hx).1⟩,fun x' H'' hy=>?_⟩;obtain⟨T,e,v,rfl,hn,rfl,hx2,hv3⟩:=hy;rw[hx] at hx2;rw[hu1] at hv3;cases hx2;cases hv3;refine⟨?_,.laid hn,RG'.laid hn⟩;unfold Hv;refine⟨T,_,rfl,.of g6,.cons ?_ (.cons ((hu2.ext E').ext (.laid hn)) .nil)⟩;show Hv _ _ (.tup (q.1.map D.int)) _;unfold Hv;have ht:=cL.ext (.laid hn:Ext H' (upd H' T (.tup [.ref x.2.1,u]))) er.t;rw[er.k] at ht;exact⟨_,_,rfl,ht,Kq q.1⟩
   ·intro i H' G' E' RG' hg hi;have hi:(kvs.map fun q=>D.tup [tupI q.1,q.2]).length≤i:=hi;rw[π] at hi;exact⟨(RG' p _ hg).1.1,by lia⟩
  |_=>exact q1.elim⟩
end
end L3
namespace L3
open PySem PySem.Spec PyProof.Rows L2
def rC(G:Gp)(a:ζ):Gp:=fun b=>if b=a then none else G b
theorem EY{G:Gp}{a b:ζ}(h:b≠a):rC G a b=G b:=by simp[rC,h]
theorem eF.del{G G1:Gp}{p:ζ}{o:GO}(n:eF G p o G1):Sub G (rC G1 p):=fun a u e=>by
 rw[EY]
 ·exact n.sub a u e
 ·intro z;rw[z,n.aB] at e;cases e
section
variable {X:Cx} {e:υ} {ta:aQ} {pins:List (ζ×aH)} {σ:L2.St} {H:Hp} {s:θ} {a:ζ} {xs:List V}
theorem RB(I:Inv X pins σ H s)(h:H a=some (.lst xs)):∃o,Inv X pins σ (upd H a (.dZ o (.lst xs))) s:=by
 obtain⟨z,its,n,r,p⟩:=I.bJ a _ h;exact⟨_,I.write (e:=a) (h':=s.heap) (t':=s.toks) (by rw[h];trivial) (.inl rfl) (fun b u _ q=>q) ⟨_,p⟩ ⟨p,z,its,n,r,p⟩⟩
def B9(ta:aQ):aQ:=fun τ G Q=>ta τ G fun x G1=>match x with
 |.obj a=>∃ds,G1 a=some (.lst ds)/\Q (.fy ds) (rC G1 a)
 |_=>False
theorem RA(ha:bN X e ta):bN X e (B9 ta):=by
 intro pins s σ H Q I ⟨τ,G,Q3,RS,RG,h,kk⟩;refine bO (ha pins s σ H (fun v H1=>∃d G1,Hv X.K H1 d v/\Step H G H1 G1/\aV X.K G1 H1/\(match d with
  |.obj a=>∃ds,G1 a=some (.lst ds)/\Q3 (.fy ds) (rC G1 a)
  | _=>False)) I ⟨τ,G,_,RS,RG,h,fun v H1 d G1 a b c q=>⟨d,G1,a,b,c,q⟩⟩) fun u s1 ⟨v,H1,I1,r1,d,G1,hd,S1,R1,q⟩=>?_
 cases d with
 |obj a=>
  obtain⟨ds,e1,q⟩:=q;obtain⟨vs,e2,e3⟩:=R1 a _ e1;obtain⟨o,I2⟩:=RB I1 e2;refine⟨v,_,I2,r1,kk v _ (.fy ds) _ ?_ ⟨fun b u f n=>?_,fun b f=>?_,fun b n f=>?_⟩ (fun b u f=>?_) q⟩
  ·unfold Hv;exact⟨a,vs,iH hd,.inl ⟨o,g6⟩,e3.ext (.wrote e2)⟩
  ·by_cases z:b=a
   ·subst z;rw[S1.new b n (by rw[e1];exact nofun)] at f;cases f
   ·rw[dA z];exact S1.fr b u f n
  ·by_cases z:b=a
   ·subst z;rw[g6];exact nofun
   ·rw[dA z];exact S1.oW b f
  ·by_cases z:b=a
   ·subst z;exact absurd (show rC G1 b b=none by simp[rC]) f
   ·rw[EY z] at f;exact S1.new b n f
  ·by_cases z:b=a
   ·subst z;rw[show rC G1 b b=none by simp[rC]] at f;cases f
   ·rw[EY z] at f;exact (R1 b u f).ext (.wrote e2) (by rw[dA z])
 |_=>exact q.elim
theorem JN(ha:QE X e ta):QE X e (B9 ta):=⟨RA ha.of⟩
end
end L3
namespace L3
open PySem PySem.Spec PyProof.Rows L2
def DD(G:Gp):D->List D->Prop
 |.obj p,ds=>G p=some (.lst ds)
 |.fy es,ds=>ds=es
 |_,_=>False
def wR:R3:=fun x y G Q=>∃ds es,DD G x ds/\DD G y es/\ds.length+es.length≤aw/\∀p G',eF G p (.lst (ds++es)) G'->Q (.obj p) G'
def Gw(K:η):R2:=fun x y H Q=>∃l b xs zs,x=.ref l/\y=.ref b/\fg K H l xs/\fg K H b zs/\xs.length+zs.length≤aw/\∀p,H p=none->Q (.ref p) (upd H p (.lst (xs++zs)))
section
variable {X:Cx} {K:η}
theorem EX:eZ X (binaryOp .Add) (Gw X.K):=by
 intro pins s σ H x y v u Q I rx ry h;obtain⟨l,b,xs,zs,rfl,rfl,hH,hB,hz,q⟩:=h;cases rx;cases ry;obtain⟨its,r,⟨⟨cls,dd,data,sl⟩,n,e,h1,h2,h3⟩,_⟩:=I.list hH;obtain⟨its2,r2,⟨⟨cls2,dd2,data2,sl2⟩,n2,e2,g1,g2,g3⟩,_⟩:=I.list hB;simp only at h1 h2 h3 g1 g2 g3;subst h1 h2 h3 g1 g2 g3;have hsz:its.toArray.size+its2.toArray.size≤aw:=by
  rw[ψ,ψ,←r.length,←r2.length];exact hz
 refine qo ⟨_,e,rfl⟩ ⟨_,e2,rfl⟩ noFill_list_add seq_list_add F.slot_list_add F.entry_list_add (F.args_list_add_2 _ _) (list_addW l b its.toArray its2.toArray n n2 none none sl sl2 hsz) ⟨e,e2,?_⟩;have ea:its.toArray++its2.toArray=(its++its2).toArray:=by simp
 rw[ea];exact⟨.ref _,_,I.BC (t':=s.toks) (r.append r2) (by rw[ah];omega),rfl,q _ I.fresh⟩
theorem JM{H:Hp}{G:Gp}{x:D}{v:V}{ds:List D}(hv:Hv K H x v)(RG:aV K G H)(h:DD G x ds):∃a vs,v=.ref a/\fg K H a vs/\aR K H ds vs:=by
 cases x with
 |obj p=>
  obtain⟨vs,e2,e3⟩:=RG p _ h;exact⟨p,vs,iH hv,fg.of e2,e3⟩
 |fy es=>
  obtain⟨a,vs,rfl,e2,e3⟩:=uA hv;cases (show ds=es from h);exact⟨a,vs,rfl,e2.l,e3⟩
 |_=>exact h.elim
theorem Eh:fh K wR (Gw K):=fun x y vx vy G H Q3 Q hx hy RG h k=>by
 obtain⟨ds,es,h1,h2,hz,q⟩:=h;obtain⟨a,vs,rfl,e1,e2⟩:=JM hx RG h1;obtain⟨b,us,rfl,y1,y2⟩:=JM hy RG h2;exact⟨a,b,vs,us,rfl,rfl,e1,y1,by rw[←e2.length,←y2.length];exact hz,fun p hp=>k _ _ (.obj p) _ rp (.hX hp) (RG.wx hp (e2.append y2)) (q p _ (.mk' (RG.free hp)))⟩
end
section
variable {X:Cx} {o i e f:υ} {pos pos' p apos cpos ps:aN} {to ti tv tk td:aQ} {es:List υ} {n0:Nat}
theorem Rz:QE X (.Dict [] [] pos) zO:=⟨Rc⟩
theorem Ry(hu:X.A.units+64<cLine)(ho:QE X o to)(hi:QE X i ti)(hv:QE X e tv)(hs:swapsWith e (some (.Subscript o i pos')) pos.line X.env=pure false:=by rfl):
  QS X (.Assign [.Subscript o i pos'] e pos) (Ay to ti tv):=⟨Ra hu ho.of hi.of hv.of hs⟩
theorem Rx(hu:X.A.units+64<cLine)(ho:QE X o to)(he:QE X e tk)(hf:QE X f td)(m:M2 X o "get" apos e f cpos:=by exact⟨rfl,rfl,rfl,rfl⟩):QE X (.Call (.Attribute o "get" apos) [e,f] [] cpos) (B8 to tk td):=⟨Q8 hu ho.of he.of hf.of m⟩
theorem Rw(hu:X.A.units+64<cLine)(hk:QE X i tk)(hv:QE X e tv):QE X (.Dict [some i] [e] pos) (Ca tk tv):=⟨Q6 hu hk.of hv.of⟩
theorem JL(ho:QE X o to)(kn:attributeBase o "items" X.env (eval o X.env)=eval o X.env:=by rfl)(pL:(apos.endLine==cpos.line)=true:=by rfl):
  QI X (.Tuple es n0 ps) (.Call (.Attribute o "items" apos) [] [] cpos) (wY to):=⟨RC ho.of kn pL⟩
end
end L3
namespace My
open PySem L2 L3
def vD(w:List Int):D:=.fy (w.map D.int)
def gJ(kvs:WK):List KD:=kvs.map fun q=>(eX q.1,vD q.2)
theorem Rv(kvs:WK):(gJ kvs).map (·.1)=(kvs.map (·.1)).map eX:=by
 unfold gJ;rw[cy,cy];rfl
theorem Ak{kvs:WK}{c:af}:eX c∈(gJ kvs).map (·.1)↔c∈kvs.map (·.1):=by
 rw[Rv];constructor
 ·intro h;obtain⟨d,hd,e⟩:=aT.mp h;rw[←yU e];exact hd
 ·exact fun h=>ub h
theorem QM(kvs:WK)(c:af)(v:List Int):xV (gJ kvs) (eX c) (vD v)=gJ (qZ kvs c v):=by
 unfold xV qZ;by_cases h:c∈kvs.map (·.1)
 ·rw[if_pos h,if_pos (Ak.mpr h)];unfold gJ;rw[cy,cy];refine cT fun q _=>?_;show (if eX q.1=eX c then (eX q.1,vD v) else (eX q.1,vD q.2))=_;by_cases e:q.1=c
  ·rw[if_pos (by rw[e])];show _=(eX (if q.1=c then (q.1,v) else q).1,vD (if q.1=c then (q.1,v) else q).2);rw[if_pos e]
  ·rw[if_neg (fun z=>e (yU z))];show _=(eX (if q.1=c then (q.1,v) else q).1,vD (if q.1=c then (q.1,v) else q).2);rw[if_neg e]
 ·rw[if_neg h,if_neg (fun z=>h (Ak.mp z))];unfold gJ;rw[cO];rfl
theorem QL{G:Gp}{kvs:WK}{c:af}{p:ζ}{y:List Int}(h:G p=some (.lst (y.map D.int))):ra G (nI (gJ kvs) (eX c) (.obj p)) ((fO kvs c y).map D.int):=by
 unfold nI fO gJ;rw[List.find?_map];have e:((fun p:KD=>decide (p.1=eX c)) ∘ fun q:af×List Int=>(eX q.1,vD q.2))=fun q:af×List Int=>decide (q.1=c):=by
  funext q;show decide (eX q.1=eX c)=_;by_cases z:q.1=c
  ·rw[decide_eq_true z,decide_eq_true (by rw[z])]
  ·rw[decide_eq_false z,decide_eq_false fun w=>z (yU w)]
 rw[e];cases kvs.find? fun q=>decide (q.1=c) with
 |none=>exact h
 |some q=>rfl
theorem QK(n:Nat):(aA n [D.int 0]).flatten=(aA n (0:Int)).map D.int:=by
 induction n with
 |zero=>rfl
 |succ n ih=>
  rw[dj,gz,ih,dj,aC];rfl
def xM:eO:=fun ds G Q=>∃(p r:ζ) (kvs:WK) (ob:aH) (c:af) (w:List Int),ds=[.obj p,cD c,.obj r]/\G p=some (.gen (gs (gJ kvs) ob))/\G r=some (.lst (w.map D.int))/\w.length≤100/\kvs.length≤1000 ∧
 ∀ob' G',Sub (du G p (.gen (gs (gJ (addW kvs c w)) ob'))) G'->Q .aB G'
def QJ:ao:=Ay (ο 0) (ο 1) (B9 (i6 ["one","other"] [] (BF (ξ (ο 3) (ξ (ο 2) (ai)))) (uI 2 (jK (hName 0) (jK (hName 1) (uJ)))) (iW) (ax dI (ο 0) (ο 1))))
def JK:ao:=aY (bt (B8 (ο 0) (ο 1) (ax gZ (gP (ξ (eC (.int 0)) (ai))) (eN mU (ξ (ο 2) (ai))))) (hName 3)) QJ
theorem QH{A B:Gp}{p:ζ}{o:GO}(h:Sub A B):Sub (du A p o) (du B p o):=fun a u e=>by
 by_cases z:a=p
 ·subst z;rw[o9] at e ⊢;exact e
 ·rw[oZ z] at e ⊢;exact h a u e
theorem QF:∀ds G Q,xM ds G Q->JK (bj Q) (br ["weights","met","weight","ahead"] ds) G:=by
 rintro ds G Q ⟨p,r,kvs,ob,c,w,rfl,hp,hr,hw,hk,q⟩;have hwl:(w.map D.int).length=w.length:=π ..;refine⟨⟨_,_,hp⟩,fun p0 G0 n0=>⟨_,n0.sub _ _ hr,_,n0.at_,⟨?_,?_⟩,?_,fun p1 G1 n1=>⟨gJ kvs,ob,eX c,n1.sub _ _ (n0.sub _ _ hp),rfl,?_⟩⟩⟩
 ·rw[hwl];lia
 ·rw[hwl];lia
 ·rw[hwl,bY];exact aD (show 1*w.length≤100 by lia) (by decide)
 rw[hwl,bY,QK] at n1;have s1:=n0.sub.trans n1.sub;have hsq:=QL (kvs:=kvs) (c:=c) n1.at_;refine⟨_,_,hsq,s1 _ _ hr,?_⟩;rw[Et D.int D.int];generalize hA:fO kvs c (aA w.length 0)=a at hsq;refine⟨?_,?_⟩
 ·show ((a.zip w).map _).length≤aw;rw[π,mJ];exact eA (by lia)
 refine rf (guard:=fun G'=>ra G' (nI (gJ kvs) (eX c) (.obj p1)) (a.map D.int)/\ra G' (.obj r) (w.map D.int)) (fun τ=>∃x y,τ=[x,y]) (fun p:Int×Int=>D.tup [D.int p.1,D.int p.2]) (fun _=>true) (fun p=>D.int (p.1+p.2)) (G:=G1) ⟨hsq,s1 _ _ hr⟩ (a.zip w) [] _ ⟨none,none,rfl⟩ ?_ ?_
 ·rintro⟨x,y⟩ hm τ K1 K2 ⟨_,_,rfl⟩ g1 g2;exact⟨rfl,fun _=>g1 rfl _ ⟨_,_,rfl⟩,nofun⟩
 intro p2 G2 n2;rw[filter_all,eG] at n2;have ez:((a.zip w).map fun p:Int×Int=>D.int (p.1+p.2))=(m6 a w).map D.int:=by
  unfold m6;rw[←lX,cy];rfl
 rw[ez] at n2;have s2:Sub G (rC G2 p2):=s1.trans n2.del;refine⟨_,n2.at_,gJ kvs,ob,eX c,s2 _ _ hp,rfl,by unfold gJ;rw[π];exact hk,fun ob'=>?_⟩;refine⟨_,Sub.refl _,q ob' _ ?_⟩;have e:xV (gJ kvs) (eX c) (.fy ((m6 a w).map D.int))=gJ (addW kvs c w):=by
  unfold addW;rw[hA];exact QM kvs c (m6 a w)
 rw[e];exact QH s2
def v9:eO:=fun ds G Q=>∃cs:List af,ds=[ff cs]/\(∀c∈cs,Valid c/\c.1≤1000)/\cs.length≤9/\∀p ob G',eF G p (.gen (gs (gJ (jd cs)) ob)) G'->Q (.obj p) G'
def QD:ao:=ix (bT (ax (AA true) (ο 6) (eC .aB))) (qM (bo xM (ξ (ο 3) (ξ (ο 6) (ξ (i6 ["more","less"] [] (BF (ξ (ax wR (gP (ξ (eC (.int 0)) (ai))) (ο 5)) (ξ (ax wR (ο 5) (gP (ξ (eC (.int 0)) (ai)))) (ai)))) (uI 2 (jK (hName 0) (jK (hName 1) (uJ)))) (iW) (ax jH (ο 0) (ο 1))) (ai)))))) (fb)
def QB:ao:=aY (bt (bo zy (ξ (ο 4) (ξ (ο 2) (ai)))) (hName 6)) QD
def JJ:ao:=aY (qM (bo xM (ξ (ο 3) (ξ (ο 4) (ξ (ax wR (ο 5) (gP (ξ (eC (.int 0)) (ai)))) (ai)))))) QB
def Qz:ao:=bt (ο 3) (hName 1)
def Qy:ao:=aY (oE (wY (ο 1)) (uI 2 (jK (hName 4) (jK (hName 5) (uJ)))) (JJ)) Qz
def JI:ao:=aY (bt (zO) (hName 3)) Qy
def Qx:ao:=cP (ο 1)
def Qw:ao:=aY (oE (qc (ο 0)) (hName 2) (JI)) Qx
def JH:ao:=aY (bt (Ca (nv (ξ (eC (.int 1)) (ξ (eC (.int 0)) (ai)))) (B9 (gP (ξ (eC (.int 1)) (ai))))) (hName 1)) Qw
theorem JG{G0 G1 G2 G':Gp}{p:ζ}{o o':GO}(m:eF G0 p o G1)(s:Sub G1 G2)(h:Sub (du G2 p o') G'):eF G0 p o' G':=⟨m.aB,(Sub.yA (m.sub.trans s) m.aB).trans h,h _ _ o9⟩
theorem Qv{D3:g0}{G0 G1:Gp}{x0 x1 x6:Option D}{pg:ζ}{ob:aH}{g:WK}{c:af}{q:af×List Int}(m:eF G0 pg (.gen (gs (gJ g) ob)) G1)(hg:g.length≤900)(hq:q.2.length≤50)(vq:Valid q.1)(vc:Valid c)(bq:q.1.1<10^60)(bc:c.1≤1000)
  (hN:∀ob' G' x6',eF G0 pg (.gen (gs (gJ (hV c g q)) ob')) G'->D3.nx [x0,x1,some (cD c),some (.obj pg),some (cD q.1),some (vD q.2),x6'] G'):
  JJ D3 [x0,x1,some (cD c),some (.obj pg),some (cD q.1),some (vD q.2),x6] G1:=by
 intro p0 G2 n0;refine⟨_,_,rfl,n0.at_,?_,fun r G3 n3=>⟨pg,r,g,ob,q.1,q.2++[(0:Int)],rfl,n3.sub _ _ (n0.sub _ _ m.at_),?_,?_,by lia,fun ob1 G4 s4=>?_⟩⟩
 ·rw[π];exact eA (show q.2.length+1≤1000 by lia)
 ·rw[n3.at_,cO];rfl
 ·rw[ah];show q.2.length+1≤100;lia
 have m4:=JG m (n0.sub.trans n3.sub) s4;have ha:=Fc g q.1 (q.2++[(0:Int)]);refine⟨q.1,c,rfl,vq,vc,bq,ki bc (by decide),?_⟩;unfold hV at hN;cases e:lC q.1 c with
 |none=>
  rw[e] at hN;exact⟨nofun,fun _=>hN _ _ _ m4⟩
 |some b=>
  rw[e] at hN;refine⟨fun _=>?_,nofun⟩;intro p5 G5 n5;refine⟨_,_,n5.at_,rfl,?_,fun r6 G6 n6=>?_⟩
  ·rw[π];exact eA (show 1+q.2.length≤1000 by lia)
  intro p7 G7 n7;refine⟨_,_,rfl,n7.at_,?_,fun r8 G8 n8=>?_⟩
  ·rw[π];exact eA (show q.2.length+1≤1000 by lia)
  have s8:Sub G4 G8:=(n5.sub.trans n6.sub).trans (n7.sub.trans n8.sub);have e6:G8 r6=some (.lst ((0::q.2).map D.int)):=n8.sub _ _ (n7.sub _ _ n6.at_);have e8:G8 r8=some (.lst ((q.2++[(0:Int)]).map D.int)):=by
   rw[n8.at_,cO];rfl
  refine⟨_,_,e6,e8,?_⟩;rw[Et D.int D.int];refine⟨?_,?_⟩
  ·show (((0::q.2).zip (q.2++[(0:Int)])).map _).length≤aw;rw[π,mJ,az];exact eA (by lia)
  refine rf (guard:=fun G'=>ra G' (.obj r6) ((0::q.2).map D.int)/\ra G' (.obj r8) ((q.2++[(0:Int)]).map D.int)) (fun τ=>∃x y,τ=[x,y]) (fun p:Int×Int=>D.tup [D.int p.1,D.int p.2]) (fun _=>true) (fun p=>D.int (p.1-p.2)) (G:=G8) ⟨e6,e8⟩ ((0::q.2).zip (q.2++[(0:Int)])) [] _ ⟨none,none,rfl⟩ ?_ ?_
  ·rintro⟨x,y⟩ hm τ K1 K2 ⟨_,_,rfl⟩ g1 g2;exact⟨rfl,fun _=>g1 rfl _ ⟨_,_,rfl⟩,nofun⟩
  intro r9 G9 n9;rw[filter_all,eG] at n9;have ez:(((0::q.2).zip (q.2++[(0:Int)])).map fun p:Int×Int=>D.int (p.1-p.2))=(kJ (0::q.2) (q.2++[(0:Int)])).map D.int:=by
   unfold kJ;rw[←lX,cy];rfl
  rw[ez] at n9;refine⟨pg,r9,addW g q.1 (q.2++[(0:Int)]),ob1,b,kJ (0::q.2) (q.2++[(0:Int)]),rfl,n9.sub _ _ (s8 _ _ m4.at_),n9.at_,by rw[Kv];lia,by lia,fun ob2 GA sA=>hN ob2 GA _ (JG m4 (s8.trans n9.sub) sA)⟩
theorem JF{n:Nat}(h:n≤9):(1000:Int)^n<10^60:=by
 have h1:1000^n≤1000^9:=cH (by decide) h;have h2:(((1000^n:Nat)):Int)≤((1000^9:Nat):Int):=Int.ofNat_le.mpr h1;rw[Int.natCast_pow] at h2;exact ki h2 (by decide)
theorem Qu(cs:List af)(c:af):jd (cs++[c])=yu c (jd cs):=by
 unfold jd;rw[List.foldl_append];rfl
theorem Qt{D3:g0}{G G1:Gp}{x0 x3 x4 x5 x6:Option D}{p:ζ}{ob:aH}{done:List af}{c:af}(W:tm done (jd done))(hl:done.length≤8)(hc:Valid c/\c.1≤1000)(m:eF G p (.gen (gs (gJ (jd done)) ob)) G1)
  (hN:∀p' ob' G' x3 x4 x5 x6,eF G p' (.gen (gs (gJ (jd (done++[c]))) ob')) G'->D3.nx [x0,some (.obj p'),some (cD c),x3,x4,x5,x6] G'):
  JI D3 [x0,some (.obj p),some (cD c),x3,x4,x5,x6] G1:=by
 intro pg obg Gg ng;have hB:(0:Int)≤1000^done.length:=Int.pow_nonneg (by decide);have hkl:(jd done).length≤256:=aD W.many (aD (cH (by decide) hl) (by decide));refine⟨gJ (jd done),ob,ng.sub _ _ m.at_,?_⟩;have ei:(gJ (jd done)).map (fun q=>D.tup [tupI q.1,q.2])=(jd done).map fun q=>D.tup [cD q.1,vD q.2]:=by
  unfold gJ;rw[cy];rfl
 rw[ei];refine p9 (fun ds τ G'=>∃(dn rs:WK) (obg':aH) (y4 y5 y6:Option D),dn++rs=jd done/\ds=rs.map (fun q=>D.tup [cD q.1,vD q.2])/\τ=[x0,some (.obj p),some (cD c),some (.obj pg),y4,y5,y6]/\eF G1 pg (.gen (gs (gJ (dn.foldl (hV c) [])) obg')) G') (fun _ _ _ h=>?_) ?_ ?_ _ _ _ ⟨[],jd done,obg,x4,x5,x6,rfl,rfl,rfl,ng⟩
 ·obtain⟨_,_,_,_,_,_,_,_,_,mm⟩:=h;exact mm.sub _ _ m.at_
 ·rintro d ds τ G2 N ⟨dn,rs,obg',y4,y5,y6,ek,e,rfl,mm⟩ hN2;cases rs with
  |nil=>cases e
  |cons q rs=>
   cases e;have hqm:q∈jd done:=by rw[←ek];exact bG _ aa
   have hdm:∀z∈dn,z∈jd done:=fun z hz=>by rw[←ek];exact fm _ hz
   have hdl:dn.length≤256:=by
    have:=congrArg e7 ek;rw[ah] at this;lia
   obtain⟨_,_,_,t4⟩:=E9 hc hB (kvs:=dn) (g:=[]) (fun z hz=>W.ok.len z (hdm z hz)) (fun z hz=>W.ok.val z (hdm z hz)) ⟨nofun,nofun,kz⟩;have t4:(dn.foldl (hV c) []).length≤0+2*dn.length:=t4;have vq:=W.ok.val q hqm;have lq:=W.ok.len q hqm;refine⟨rfl,?_⟩;refine Qv mm (by lia) (by lia) vq.1 hc.1 (ki vq.2 (JF (by lia))) hc.2 fun ob' G' x6' m'=>hN2 _ _ ⟨dn++[q],rs,ob',_,_,_,by rw[iD];exact ek,rfl,rfl,?_⟩;rw[List.foldl_append];exact m'
 ·rintro τ G2 ⟨dn,rs,obg',y4,y5,y6,ek,e,rfl,mm⟩;have e0:rs=[]:=by
   cases rs with
   |nil=>rfl
   |cons z zs=>cases e
  subst e0;rw[bV] at ek;subst ek;refine hN pg obg' G2 _ _ _ _ ?_;rw[Qu];exact⟨m.sub.of_none mm.aB,m.sub.trans mm.sub,mm.at_⟩
theorem Qs:∀ds G Q,v9 ds G Q->JH (bj Q) (br ["clocks","weights","clock","grown","met","weight","both"] ds) G:=by
 rintro ds G Q ⟨cs,rfl,hc,hl,q⟩;intro p o0 G0 n0 p1 G1 n1;refine⟨_,n1.at_,[1,0],rfl,n1.del _ _ n0.at_,fun o'=>?_⟩;refine p9 (fun ds τ G'=>∃(dn rs:List af) (p:ζ) (ob:aH) (x2 x3 x4 x5 x6:Option D),dn++rs=cs/\ds=rs.map cD/\τ=[some (ff cs),some (.obj p),x2,x3,x4,x5,x6]/\eF G p (.gen (gs (gJ (jd dn)) ob)) G') (fun _ _ _ _=>trivial) ?_ ?_ _ _ _ ⟨[],cs,p,o',_,_,_,_,_,rfl,rfl,rfl,n0.aB,Sub.yA (n0.sub.trans n1.del) n0.aB,o9⟩
 ·rintro d ds τ G2 N ⟨dn,rs,p,ob,x2,x3,x4,x5,x6,ek,e,rfl,m⟩ hN;cases rs with
  |nil=>cases e
  |cons c rs=>
   cases e;have hcm:c∈cs:=by rw[←ek];exact bG _ aa
   have hdm:∀z∈dn,z∈cs:=fun z hz=>by rw[←ek];exact fm _ hz
   have hdl:dn.length≤8:=by
    have:=congrArg e7 ek;rw[ah,az] at this;lia
   exact Qt (Kt fun z hz=>hc z (hdm z hz)) hdl (hc c hcm) m fun p' ob' G' x3 x4 x5 x6 m'=>hN _ _ ⟨dn++[c],rs,p',ob',_,_,_,_,_,by rw[iD];exact ek,rfl,rfl,m'⟩
 ·rintro τ G2 ⟨dn,rs,p,ob,x2,x3,x4,x5,x6,ek,e,rfl,m⟩;have e0:rs=[]:=by
   cases rs with
   |nil=>rfl
   |cons z zs=>cases e
  subst e0;rw[bV] at ek;subst ek;exact fN (q p ob G2 m)
def zt:eO:=fun ds G Q=>∃(c:af) (b:Int),ds=[cD c,.int b]/\Valid c/\c.1<10^60/\0≤b/\Q (.int (md c b)) G
def JE:ao:=cP (eN xE (ξ (eC (.int 0)) (ξ (ax dI (ax lA (ax jH (ax jH (ο 1) (ax fc (ο 0) (eC (.int 1)))) (eC (.int 1))) (ax fc (ο 0) (eC (.int 0)))) (eC (.int 1))) (ai))))
theorem JD{c:af}{b:Int}(h:Valid c)(hb:0≤b):0≤md c b:=by
 have h1:=h.1;have h2:=h.2.2;have:(-1:Int)≤(b-c.2-1) / c.1:=Int.le_ediv_of_mul_le h1 (by lia);unfold md;lia
theorem Qr:∀ds G Q,zt ds G Q->JE (bj Q) (br ["clock","bound"] ds) G:=by
 rintro ds G Q ⟨c,b,rfl,hv,h1,h0,q⟩;have hp:=hv.1;have h2:=hv.2.1;have h3:=hv.2.2;have hr:=JD hv h0;refine⟨_,rfl,_,rfl,⟨hp,eJ (by lia) (by lia)⟩,?_⟩;have e:(if md c b > 0 then md c b else 0)=md c b:=by
  split<;>lia
 show (bj Q).rt (.int (if md c b > 0 then md c b else 0)) G;rw[e];exact fN q
def v8:eO:=fun ds G Q=>∃(p:ζ) (cs:List af) (ob:aH) (b:Nat),ds=[.obj p,.int b]/\G p=some (.gen (gs (gJ (jd cs)) ob))/\(∀c∈cs,Valid c/\c.1≤1000)/\cs.length≤9/\b<10^60/\∀G',Sub G G'->Q (.int (iy cs 0 b:Nat)) G'
def JC:ao:=cP (eN AZ (ξ (i6 ["met","weight"] [1] (wY (ο 0)) (uI 2 (jK (hName 0) (jK (hName 1) (uJ)))) (iW) (ax gZ (ax fc (ο 1) (eC (.int 0))) (bo zt (ξ (ο 0) (ξ (ο 2) (ai)))))) (ai)))
theorem JB{α:Type}(f:α->Int):∀xs:List α,intsOf (xs.map fun x=>D.int (f x))=some (xs.map f)
 |[]=>rfl
 |x::xs=>by
  show intsOf (D.int (f x)::xs.map fun x=>D.int (f x))=_;simp only[intsOf,JB f xs];rfl
theorem Qq(w:List Int)(h:0<w.length):mv (w.map D.int) 0=some (.int (w.getD 0 0)):=by
 cases w with
 |nil=>cases h
 |cons a w=>exact Bf (xs:=(a::w).map D.int) (j:=0) (v:=.int a) rfl
theorem Qp{c:af}{b:Nat}(h:Valid c)(hb:b<10^60):ie (md c b):=by
 have h0:=JD h (eU b);have:md c b≤b+1:=by
  unfold md;have h1:=h.1;have h2:=h.2.1;have:(((b:Nat):Int)-c.2-1) / c.1≤b:=by
   by_cases hn:0≤((b:Nat):Int)-c.2-1
   ·exact kj (Int.ediv_le_self _ hn) (by lia)
   ·exact kj (Int.le_of_lt (Int.ediv_neg_of_neg_of_pos (by lia) h1)) (eU _)
  lia
 have hb':((b:Nat):Int)<10^60:=by exact_mod_cast hb
 exact eJ (by lia) (by lia)
theorem Qo{cs:List af}{kvs:WK}(W:tm cs kvs)(hl:cs.length≤9){q:af×List Int}(hq:q∈kvs)(j:Nat):ie (q.2.getD j 0):=by
 have h1:=Rq q.2 j;have h2:=Rp hq;have h3:=W.abs;have h4:3^cs.length≤3^9:=cH (by decide) hl;have h5:(3:Nat)^9=19683:=by decide
 exact eJ (by lia) (by lia)
theorem Qn:∀ds G Q,v8 ds G Q->JC (bj Q) (br ["weights","bound"] ds) G:=by
 rintro ds G Q ⟨p,cs,ob,b,rfl,hp,hc,hl,hb,q⟩;have W:=Kt hc;have hb':((b:Nat):Int)<10^60:=by exact_mod_cast hb
 have hkl:(jd cs).length≤512:=aD W.many (aD (cH (by decide) hl) (by decide));refine⟨gJ (jd cs),ob,hp,?_⟩;have ei:(gJ (jd cs)).map (fun q=>D.tup [tupI q.1,q.2])=(jd cs).map fun q=>D.tup [cD q.1,vD q.2]:=by
  unfold gJ;rw[cy];rfl
 rw[ei];refine⟨?_,?_⟩
 ·show ((jd cs).map _).length≤aw;rw[π];exact eA (by lia)
 refine rf (guard:=fun G'=>G' p=some (.gen (gs (gJ (jd cs)) ob))) (fun τ=>∃x y,τ=[x,y,some (.int b)]) (fun q:af×List Int=>D.tup [cD q.1,vD q.2]) (fun _=>true) (fun q=>D.int (q.2.getD 0 0*md q.1 b)) (G:=G) hp (jd cs) [] _ ⟨none,none,rfl⟩ ?_ ?_
 ·rintro e hm τ K1 K2 ⟨_,_,rfl⟩ g1 g2;have vq:=W.ok.val e hm;have lq:=W.ok.len e hm;exact⟨rfl,fun _=>⟨_,Qq e.2 (by lia),e.1,b,rfl,vq.1,ki vq.2 (JF hl),eU _,⟨Qo W hl hm 0,Qp vq.1 hb⟩,g1 rfl _ ⟨_,_,rfl⟩⟩,nofun⟩
 ·intro p2 G2 n2;rw[filter_all,eG] at n2;refine⟨_,_,n2.at_,JB _ _,?_⟩;have:=Ri W 0 b;unfold tW at this;rw[this];exact fN (q G2 n2.sub)
end My
namespace My
open PySem L2 L3
theorem Eg{cs:List af}{z:af}(h:z∈cs):z.1.toNat∣gd cs:=Sj h
theorem Qm{z:af}(hz:0<z.1){N:Nat}(hd:z.1.toNat∣N)(x t:Int):rg (x+t*N) z=rg x z:=by
 have:z.1∣t*(N:Int):=by
  have h:=cW.mpr hd;rw[bS (by lia)] at h;exact cz h
 unfold rg;rw[Int.add_emod,kI this,Int.add_zero,Int.emod_emod]
theorem JA{z:af}(hz:0<z.1){N:Nat}(hd:z.1.toNat∣N)(x:Nat):rg ((x%N:Nat):Int) z=rg x z:=by
 have e:(x:Int)=((x%N:Nat):Int)+((x / N:Nat):Int)*N:=by
  have:=Nat.mod_add_div x N;rw[iO] at this;exact_mod_cast this.symm
 rw[e,Qm hz hd]
theorem Jz{cs:List af}(h:∀z∈cs,0<z.1):0<gd cs:=by
 have:∀(cs:List af) (a:Nat),(∀z∈cs,0<z.1)->0<a->0<yK cs a:=by
  intro cs
  induction cs with
  |nil=>intro a _ h;exact h
  |cons z zs ih=>
   intro a hz ha;refine ih _ (fun y hy=>hz y (Γ _ hy)) (vU ha ?_);have:=hz z aa;lia
 exact this cs 1 h (by decide)
theorem Ef{c p:af}{k:Nat}(h:Valid c)(hp:p∈parts c k):Valid p/\p.1=c.1*(k:Int):=by
 obtain⟨t,ht,rfl⟩:=aT.mp hp;have ht:=bE.mp ht;exact⟨SJ h (by lia) (by lia),rfl⟩
def Gq(cs:List af)(i:Nat):List af:=cs.take i++cs.drop (i+1)
end My
namespace L2
open PySem
open Sem (wp)
section
variable {prog:ag} {w:av} {A:aJ} {E:ε->θ->Prop} {h:Ψ} {g:Array GenState} {d:Drawn} {t:Nat} {os:OsState}
variable {nm q:ν} {C N:ζ} {bs bm bmB:List ε} {hdct:Bool} {sn:List ν} {sub:List ε} {ab:Bool} {col:Option Bool} {dd:Option ζ} {k0 k1 k2 k3 k5:Option ε} {B newId initId:String}
def gf(h:Ψ)(C:ζ)(rest:List ε):Ψ:=(h.push { cls:=.type "tuple",data:=.seq rest.toArray }).push { cls:=.ref C,data:=.fields #[.ref h.objs.size,.none,.none,.none,.bool false,.none]}
theorem Ql(F:ExcBaseFacts B newId initId bmB)(T:OwnTail h bmB bm){mN:ν->Option ε}{rest:List ε}{f:ζ}{of:aH}{Q:Fin->θ->Prop}
  (hC:h.get? C=some (excClassObj nm q C N bs bm hdct sn sub ab col dd k0 k1 k2 k3 k5 newId)) (hn:h.Ns N mN) (hni:mN "__init__" = some (.ref f)) (hf:h.get? f=some of) (hfc:of.cls=.type "function")
  (hq:iL (model prog w) A (.call (.ref f) ⟨.ref (h.objs.size+1)::rest,[]⟩) (fun r s'=>match r with
   |.ok (.ret v)=>v=.none/\Q (.done (.ret (.ref (h.objs.size+1)))) s'
   |.ok _=>False
   | .error e=>E e s') ⟨gf h C rest,g,d,t,os⟩) (hrest:rest.length≤aw:=by size_fits):
  ρ (model prog w) A (di.«type.__call__» ⟨.ref C::rest,[]⟩) Q E ⟨h,g,d,t,os⟩:=by
 repeat (first|with_reducible refine fx hC ?_|with_reducible refine wpAny_madeBy_exc hC ?_|wp_step)
 refine codeAny_call_builtin_code (oz _ F.quiet) (wpAny_check_new_subT F T hC ?_);refine codeAny_exc_new_subT F T hC ?_ hrest;show ρ _ _ _ _ _ _;have hC₁:=ι { cls:=.ref C,data:=.fields #[.ref h.objs.size,.none,.none,.none,.bool false,.none]}
  (ι { cls:=.type "tuple",data:=.seq rest.toArray } hC)
 have hf₁:=ι { cls:=.ref C,data:=.fields #[.ref h.objs.size,.none,.none,.none,.bool false,.none]}
  (ι { cls:=.type "tuple",data:=.seq rest.toArray } hf)
 have hn₁:((h.push { cls:=.type "tuple",data:=.seq rest.toArray }).push { cls:=.ref C,data:=.fields #[.ref h.objs.size,.none,.none,.none,.bool false,.none]}).Ns N mN:=
  let ⟨o,es,ep,e,r⟩:=hn;⟨o,es,ep,ι _ (ι _ e),r⟩
 have hget:((h.push { cls:=.type "tuple",data:=.seq rest.toArray }).push
   { cls:=.ref C,data:=.fields #[.ref h.objs.size,.none,.none,.none,.bool false,.none]}).get? (h.objs.size+1)=some
   { cls:=.ref C,data:=.fields #[.ref h.objs.size,.none,.none,.none,.bool false,.none]}:=by heap_get
 have hcC:(aF C::bm).contains (.ref C)=true:=by simp
 have T₁:=T.keeps (h':=(h.push { cls:=.type "tuple",data:=.seq rest.toArray }).push { cls:=.ref C,data:=.fields #[.ref h.objs.size,.none,.none,.none,.bool false,.none]})
  fun b o e=>ι _ (ι _ e)
 unfold isInstance
 repeat (first|with_reducible refine fx hget ?_|(with_reducible refine jD hC₁ ?_;rw[hcC])|wp_step)
 show ρ _ _ (typeLookup (.ref C) _) _ _ _;refine wpAny_typeLookup_tail hC₁ hn₁ T₁ F.mroIs F.init.lookup ?_;rw[hni];refine bK (δ (wpAny_bindSpecial_def hf₁ hfc ?_));refine δ (i8 (fV hq fun r s' hr=>?_));cases r with
 |error e=>exact hr
 |ok fl=>
  cases fl with
  |ret v=>
   obtain⟨rfl,hr⟩:=hr;refine μ ?_;show ρ _ _ (ret (aF (h.objs.size+1))) _ _ _;exact μ hr
  |next=>exact hr.elim
  |brk=>exact hr.elim
  |cont=>exact hr.elim
theorem Qk(F:ExcBaseFacts B newId initId bmB)(T:OwnTail h bmB bm){mN:ν->Option ε}{rest:List ε}{f:ζ}{of:aH}{Q:ε->θ->Prop}
  (hC:h.get? C=some (excClassObj nm q C N bs bm hdct sn sub ab col dd k0 k1 k2 k3 k5 newId)) (hn:h.Ns N mN) (hni:mN "__init__" = some (.ref f)) (hf:h.get? f=some of) (hfc:of.cls=.type "function")
  (hq:iL (model prog w) (A.under (.builtin "type.__call__" ⟨.ref C::rest,[]⟩)) (.call (.ref f) ⟨.ref (h.objs.size+1)::rest,[]⟩) (fun r s'=>match r with
   |.ok (.ret v)=>v=.none/\Q (.ref (h.objs.size+1)) s'
   |.ok _=>False
   | .error e=>E e s') ⟨gf h C rest,g,d,t,os⟩) (hrest:rest.length≤aw:=by size_fits):
  ρ (model prog w) A (call (.ref C) rest) Q E ⟨h,g,d,t,os⟩:=by
 have f1:=tc_lookup;have f2:=tc_bind (.ref C);have hT:(⟨h,g,d,t,os⟩:θ).TypeIs (.ref C) "type":=⟨_,hC,rfl⟩;refine i8 (qQ ?_);show ρ _ _ (callAny (.ref C) _) _ _ _
 repeat (any_goals (first|assumption|with_reducible refine fx hC ?_|wp_step))
 refine⟨rfl,?_⟩;refine codeAny_call_builtin_at (oz _ (by decide +kernel)) entry_typeCall (wpAny_check_type_call_sub hC ?_);refine Ql F T hC hn hni hf hfc (fV hq fun r s' hr=>?_) hrest;cases r with
 |error e=>exact hr
 |ok fl=>
  cases fl with
  |ret v=>exact hr
  |next=>exact hr.elim
  |brk=>exact hr.elim
  |cont=>exact hr.elim
end
end L2
namespace L2
open PySem
open Sem (wp)
structure pR(base h:Ψ)(e T:ζ)(cls:ε)(dx:Option ζ):Prop where
 obj:∃oe vs,h.get? e=some oe/\oe.cls=cls/\oe.dict=dx/\oe.data=.fields vs/\vs[1]?=some (.ref T)/\vs[2]?=some .none
 fresh:base.get? T=none
 ne:T≠e
 ent:∃oT ts,h.get? T=some oT/\oT.data=.fields ts/\ts[3]?=some .none
structure tE(base:Ψ)(l:List dq)(e T₀:ζ)(cls:ε)(dx:Option ζ)(h h':Ψ):Prop where
 stays:base.StaysIn h'
 ml:h'.FunFrames base l
 yC:∃T,pR base h' e T cls dx/\h.get? T=none
 keep:∀b o,b≠e->b≠T₀->b∉fQ l->h.get? b=some o->h'.get? b=some o
 slot:∀b o,b∈fQ l->h.get? b=some o->∃sl,h'.get? b=some { o with slots:=sl }
section
variable {M:Model} {A:aJ} {E:ε->θ->Prop} {s:θ}
theorem uC{base:Ψ}{env:dq}{outer:List dq}{L e:ζ}{oe:aH}{vs:Array ε}{head:ε}{hadNext:Bool}{Q:Unit->θ->Prop}
  (mj:A.frames=some (env::outer)) (hl:s.heap.FunFrames base (env::outer)) (hf:env.frame=some L)
  (he:s.heap.get? e=some oe) (hkb:base.StaysIn s.heap) (hen:base.get? e=none) (hd:oe.data=.fields vs) (hsz:1<vs.size) (h2:vs[2]?=some .none)
  (h:∀h',tE base (env::outer) e e oe.cls oe.dict s.heap h'->Q () { s with heap:=h' }):
  ρ M A (do let a ←frameOf env;let pl ←entryPlaceOf L hadNext;let b ←ug head a .none (rawInt L) .none pl;setField (.ref e) 1 b) (fun _ s'=>ρ M A (setFlight (.ref e) none) Q E s') E s:=by
 have hene:e∉(env::outer).filterMap (·.frame):=fun hm=>by
  obtain⟨_,o,ho,hnf⟩:=hl.mem hm;rw[he] at ho;injection ho with ho;subst ho;exact hnf vs hd
 refine δ (wpAny_frameOf_fun mj hl hf fun h₁ hs₁=>?_);refine δ (wpAny_entryPlaceOf fun pl hpl=>?_);unfold ug newFields;refine δ (bz ?_ (hpl.sizeOk5 _ _ _ _ _));have he₁:h₁.get? e=some oe:=(hs₁.2.1 e hene).trans he;have kb₁:base.StaysIn h₁:=fun b o hbo=>(hs₁.2.1 b fun hm=>by rw[(hl.mem hm).1] at hbo;cases hbo).trans (hkb b o hbo);have he₂:=ι (h:=h₁) { cls:=.type "traceback",dict:=none,data:=.fields ([head,.ref L,.none,rawInt L,.none]++(if pl.isEmpty then aA 6 aX else pl)).toArray } he₁;refine fJ he₂ hd hsz ?_;have hTe:h₁.objs.size≠e:=dS (Θ he₁);have hd₃:=dE hd (·.setIfInBounds 1 (aF h₁.objs.size));have he₃:=ck (gw (·.setIfInBounds 1 (aF h₁.objs.size))) he₂ (eS hd₃);have hT₃:=(bB (h₁.push { cls:=.type "traceback",dict:=none,data:=.fields ([head,.ref L,.none,rawInt L,.none]++(if pl.isEmpty then aA 6 aX else pl)).toArray })
  (gw (·.setIfInBounds 1 (aF h₁.objs.size))) (dy hTe)).trans (ae h₁ rfl)
 unfold setFlight;refine δ (bA he₃ hd₃ (x:=.ref h₁.objs.size) (by simp[hsz]) ?_);rw[if_pos (show (aF h₁.objs.size != aX)=true from by simp)];refine fJ hT₃ rfl (by simp only[ψ,ah,az,gp]<;>lia) (h _ ?_)
 have keep:∀b o,b≠e->h₁.get? b=some o ->
   (((h₁.push { cls:=.type "traceback",dict:=none,data:=.fields ([head,.ref L,.none,rawInt L,.none]++(if pl.isEmpty then aA 6 aX else pl)).toArray }).update e (gw (·.setIfInBounds 1 (aF h₁.objs.size)))).update h₁.objs.size
    (gw (·.setIfInBounds 3 ((none:Option ζ).elim aX fun f=>rawInt f)))).get? b=some o:=fun b o hbe hb=>by
  have hbT:h₁.objs.size≠b:=dS (Θ hb);rw[bB _ _ hbT,bB _ _ (dy hbe)];exact ι _ hb
 have noRecord:∀b o,s.heap.get? b=some o->(∀vs,o.data≠.fields vs)->b≠e:=fun b o hb hnf q=>by
  rw[q,he] at hb;injection hb with hb;subst hb;exact hnf vs hd
 refine⟨fun b o hbo=>keep b o (fun q=>by rw[q,hen] at hbo;cases hbo) (kb₁ b o hbo),hl.of_keeps fun b o hb hnf=>?_,⟨h₁.objs.size,⟨⟨_,_,?_,aH.cls_mapFields _ _,?_,hd₃,by simp[hsz],by rw[Array.getElem?_setIfInBounds_ne (by decide)];exact h2⟩,kb₁.fresh,hTe,_,_,ck _ hT₃ (eS (dE rfl _)),dE rfl _,by first|(simp;done)|(rcases hpl with rfl|⟨_,_,_,_,_,_,_,rfl⟩<;>simp)⟩,?_⟩,fun b o hbe _ hbf hb=>?_,fun b o hbf hb=>?_⟩
 ·obtain⟨sl,hs⟩:=hs₁.2.2 b o hb;exact⟨_,keep b _ (noRecord b o hb hnf) hs,rfl⟩
 ·rw[bB _ _ hTe];exact he₃
 ·obtain⟨c0,d0,dt0,s0⟩:=oe;cases dt0<;>rfl
 ·exact fq (by rw[hs₁.1];exact Φ _)
 ·exact keep b o hbe ((hs₁.2.1 b hbf).trans hb)
 ·obtain⟨sl,hs⟩:=hs₁.2.2 b o hb;refine⟨sl,keep b _ (fun q=>?_) hs⟩;rw[q] at hbf;exact hene hbf
theorem Qj{base:Ψ}{env:dq}{outer:List dq}{L e:ζ}{oe:aH}{vs:Array ε}{Q:Unit->θ->Prop}
  (mj:A.frames=some (env::outer)) (hl:s.heap.FunFrames base (env::outer)) (hf:env.frame=some L)
  (he:s.heap.get? e=some oe) (hkb:base.StaysIn s.heap) (hen:base.get? e=none) (hd:oe.data=.fields vs) (h1:vs[1]?=some .none) (h2:vs[2]?=some .none)
  (h:∀h',tE base (env::outer) e e oe.cls oe.dict s.heap h'->Q () { s with heap:=h' }):ρ M A (leaving env (.ref e)) Q E s:=by
 unfold leaving noteFrame;simp only[hf];refine δ (δ (bA he hd h1 ?_));rw[if_neg (by decide)];exact uC mj hl hf he hkb hen hd (aG.mp h1).1 h2 h
theorem Qi{base:Ψ}{env:dq}{outer:List dq}{L e T:ζ}{cls:ε}{dx:Option ζ}{Q:Unit->θ->Prop}
  (mj:A.frames=some (env::outer)) (hl:s.heap.FunFrames base (env::outer)) (hf:env.frame=some L) (ht:pR base s.heap e T cls dx) (hkb:base.StaysIn s.heap) (hen:base.get? e=none)
  (h:∀h',tE base (env::outer) e T cls dx s.heap h'->Q () { s with heap:=h' }):ρ M A (leaving env (.ref e)) Q E s:=by
 obtain⟨⟨oe,vs,he,hcls,hdx,hd,h1,h2⟩,hnT,hTe,oT,ts,hT,hdT,h3⟩:=ht;subst hcls hdx;unfold leaving noteFrame;simp only[hf];refine δ (δ (bA he hd h1 ?_));rw[if_pos (show (aF T != aX)=true from by simp)];refine δ (bA hT hdT h3 ?_);rw[if_neg (show ¬((aX==rawInt L)=true) from by simp[rawInt])];refine δ (fJ hT hdT (aG.mp h3).1 ?_);have other:∀b,b≠T->(s.heap.update T (gw (·.setIfInBounds 3 aX))).get? b=s.heap.get? b:=fun b hb=>bB _ _ (dy hb);have noRecord:∀b o,s.heap.get? b=some o->(∀vs,o.data≠.fields vs)->b≠T:=fun b o hb hnf q=>by
  rw[q,hT] at hb;injection hb with hb;subst hb;exact hnf ts hdT
 have hTf:T∉fQ (env::outer):=fun hm=>by
  obtain⟨_,o,ho,hnf⟩:=hl.mem hm;rw[hT] at ho;injection ho with ho;subst ho;exact hnf ts hdT
 refine uC mj (hl.of_keeps fun b o hb hnf=>⟨o,(other b (noRecord b o hb hnf)).trans hb,rfl⟩) hf ((other e (dy hTe)).trans he)
  (fun b o hbo=>(other b fun q=>by rw[q,hnT] at hbo;cases hbo).trans (hkb b o hbo)) hen hd (aG.mp h1).1 h2
  fun h' ⟨x1,x2,⟨T',x3,x3'⟩,x4,x5⟩=>h h' ⟨x1,x2,⟨T',x3,?_⟩,fun b o hbe hbT hbf hb=>x4 b o hbe hbe hbf ((other b hbT).trans hb),fun b o hbf hb=>x5 b o hbf ((other b fun q=>hTf (q▸hbf)).trans hb)⟩
 by_cases hq:T'=T
 ·subst hq;obtain⟨o2,e2⟩:∃o2,(s.heap.update T' (gw (·.setIfInBounds 3 aX))).get? T'=some o2:=⟨_,ck _ hT (eS (dE hdT _))⟩;rw[e2] at x3';cases x3'
 ·rw[←other T' hq];exact x3'
end
end L2
namespace L2
open PySem PySem.Spec PyProof.Rows
def gR(P:ag)(w:av)(base:Ψ):sd:=fun outer H s E ev s'=>∃(e T C:ζ) (dx:Option ζ) (H':Hp),ev=.ref e/\s'.os=s.os/\kC s'.gens/\Un (fQ outer) [] H H' s.heap s'.heap/\fF P w H' s'.heap ∧
 pR base s'.heap e T (.ref C) dx/\(H' e=none/\H' T=none)/\base.get? e=none/\(s.heap.get? e=none/\s.heap.get? T=none)/\E (.ref C) dx H'
theorem cM.there{P:ag}{w:av}{H:Hp}{h:Ψ}{a:ζ}{o:HO}(x:cM P w H h a o):∃ob,h.get? a=some ob:=by
 cases o with
 |lst xs=>obtain⟨_,_,_,_,e⟩:=x;exact⟨_,e⟩
 |tup xs=>obtain⟨_,_,_,ob,e,_⟩:=x;exact⟨_,e⟩
 |dK kvs=>obtain⟨_,_,_,_,o,_,_,e,_⟩:=x;exact⟨_,e⟩
 |dT kvs=>obtain⟨_,_,_,_,o,_,_,e,_⟩:=x;exact⟨_,e⟩
 |set S n=>obtain⟨o,_,_,_,e,_⟩:=x;exact⟨_,e⟩
 |ins C dx fs=>obtain⟨_,_,_,e,_⟩:=x;exact⟨_,e⟩
 |own y=>exact x
 |xd fs=>obtain⟨_,⟨_,_,_,e,_⟩,_⟩:=x;exact⟨_,e⟩
 |De lo hi=>obtain⟨_,_,_,e⟩:=x;exact⟨_,e⟩
 |dZ ob u=>obtain⟨e,_⟩:=x;exact⟨_,e⟩
 |wO ps=>exact⟨_,(show h.get? a=some _ from x)⟩
 |met f y=>exact⟨_,(show h.get? a=some _ from x)⟩
 |ext φ=>exact x.2.1
section
variable {X:Cx} {pins:List (ζ×aH)} {σ:St} {H:Hp} {s:θ}
theorem Inv.left(I:Inv X pins σ H s)(hex:X.ex=[])(hst:X.stack=X.env::X.outer)(mj:X.env.frame=some X.env.locals){e T₀:ζ}{cls:ε}{dx:Option ζ}{h':Ψ}(L:tE X.base X.stack e T₀ cls dx s.heap h')
  (he:X.s₀.heap.get? e=none) (hT:X.s₀.heap.get? T₀=none) (hHe:H e=none) (hHT:H T₀=none):
  Un (fQ X.outer) [] X.H₀ H X.s₀.heap h'/\fF X.prog X.w H h':=by
 have hloc:X.s₀.heap.get? X.env.locals=none:=fq I.ok.above;have sub:∀b,b∈fQ X.stack->b=X.env.locals∨b∈fQ X.outer:=fun b hb=>Ω.mp (I.ui b hb);have ne:∀{b c:ζ} {o:aH},X.s₀.heap.get? b=some o->X.s₀.heap.get? c=none->b≠c:=fun h1 h2 z=>by
  rw[z,h2] at h1;cases h1
 have mX:∀b:ζ,b∉X.ex:=fun b z=>by
  rw[hex] at z;cases z
 have supF:∀b,b∈fQ X.outer->b∈fQ X.stack:=fun b hb=>by
  rw[hst];unfold fQ;rw[fH,mj];exact Γ _ hb
 refine⟨⟨fun b o h1 h2 h3 _=>?_,fun b o h1 h2 h3 _=>?_,fun b o h1 h2 _=>I.base.free b o h1 h2 (mX b),fun b o h1 _=>?_,I.base.iE,I.base.kQ,I.base.oC⟩,fun a o ha=>?_⟩
 ·have k1:=I.base.keep b o h1 h2 h3 (mX b);refine L.keep b o (ne h1 he) (ne h1 hT) (fun z=>?_) k1;rcases sub b z with z|z
  ·exact ne h1 hloc z
  ·exact h3 z
 ·obtain⟨sl,k1⟩:=I.base.slot b o h1 h2 h3 (mX b);obtain⟨sl',k2⟩:=L.slot b _ (supF b h3) k1;exact⟨sl',k2⟩
 ·obtain⟨o',k1⟩:=I.base.there b o h1 (mX b);by_cases hb:b∈fQ X.stack
  ·obtain⟨sl,k2⟩:=L.slot b o' hb k1;exact⟨_,k2⟩
  ·exact⟨o',L.keep b o' (ne h1 he) (ne h1 hT) hb k1⟩
 ·refine (I.bJ a o ha).m8 (fun b u hb q=>?_) (fun _ q=>q) fun _ _ q=>q;have hHb:H b≠none:=by
   rcases hb with rfl|hb
   ·rw[ha];simp
   ·rw[hb];simp
  exact L.keep b u (fun z=>hHb (z▸hHe)) (fun z=>hHb (z▸hHT)) (fun z=>hHb (I.lQ b z)) q
theorem Inv.fly(I:Inv X pins σ H s)(hex:X.ex=[])(hst:X.stack=X.env::X.outer)(mj:X.env.frame=some X.env.locals){e C:ζ}{oe:aH}{vs:Array ε}{E:XK}(he:s.heap.get? e=some oe)(hc:oe.cls=.ref C)(hd:oe.data=.fields vs)(h1:vs[1]?=some .none)(h2:vs[2]?=some .none)
  (h0:X.s₀.heap.get? e=none) (hHe:H e=none) (q:E (.ref C) oe.dict H) {R:ε->θ->Prop}:
  ρ (model X.prog X.w) X.A (leaving X.env (.ref e)) (fun _ s'=>gR X.prog X.w X.base X.outer X.H₀ X.s₀ E (.ref e) s') R s:=by
 have hen:X.base.get? e=none:=by
  cases hq:X.base.get? e with
  |none=>rfl
  |some o=>
   have:=(I.ok.bs e o hq).1;rw[h0] at this;cases this
 refine Qj (base:=X.base) (by rw[I.ok.frames,hst]) (by rw[←hst];exact I.stack) mj he I.bk hen hd h1 h2 fun h' L=>?_;rw[←hst,hc] at L;obtain⟨u,ok⟩:=I.left hex hst mj L h0 h0 hHe hHe;obtain⟨T,tr,hT⟩:=L.yC;have hTs:X.s₀.heap.get? T=none:=by
  cases hq:X.s₀.heap.get? T with
  |none=>rfl
  |some o=>
   obtain⟨o',e'⟩:=I.base.there T o hq (by rw[hex];simp);rw[hT] at e';cases e'
 have hHT:H T=none:=by
  cases hq:H T with
  |none=>rfl
  |some o=>
   obtain⟨ob,e'⟩:=cM.there (I.bJ T o hq);rw[hT] at e';cases e'
 exact⟨e,T,C,oe.dict,H,rfl,I.os,I.bare,u,ok,tr,⟨hHe,hHT⟩,hen,⟨h0,hTs⟩,q⟩
theorem Q0{E:XK}(hex:X.ex=[])(hst:X.stack=X.env::X.outer)(mj:X.env.frame=some X.env.locals)
  (hxe:∀e s',ρ (model X.prog X.w) X.A (leaving X.env e) (fun _ s''=>gR X.prog X.w X.base X.outer X.H₀ X.s₀ E e s'') (fun e' s''=>gR X.prog X.w X.base X.outer X.H₀ X.s₀ E e' s'') s'->X.xe e s'):mx (gR X.prog X.w X.base) X E:=by
 intro pins σ H s ev s' I h;obtain⟨e,T,C,dx,H',rfl,os,bare,u,ok,tr,⟨hHe,hHT⟩,hen,⟨he0,hT0⟩,q⟩:=h;have I':Inv X pins σ H' s':=I.CF (ch:=[]) os u ok bare (fun b z=>absurd z (by simp));have s0:∀{b:ζ},s.heap.get? b=none->X.s₀.heap.get? b=none:=fun {b} hb=>by
  cases hq:X.s₀.heap.get? b with
  |none=>rfl
  |some o=>
   obtain⟨o',e'⟩:=I.base.there b o hq (by rw[hex];simp);rw[hb] at e';cases e'
 refine hxe _ _ (Qi (base:=X.base) (by rw[I.ok.frames,hst]) (by rw[←hst];exact I'.stack) mj tr I'.bk hen fun h' L=>?_);rw[←hst] at L;obtain⟨u',ok'⟩:=I'.left hex hst mj L (s0 he0) (s0 hT0) hHe hHT;obtain⟨T',tr',hT'⟩:=L.yC;have hTs:X.s₀.heap.get? T'=none:=by
  cases hq:X.s₀.heap.get? T' with
  |none=>rfl
  |some o=>
   obtain⟨o',e'⟩:=I'.base.there T' o hq (by rw[hex];simp);rw[hT'] at e';cases e'
 have hHT':H' T'=none:=by
  cases hq:H' T' with
  |none=>rfl
  |some o=>
   obtain⟨ob,e'⟩:=cM.there (I'.bJ T' o hq);rw[hT'] at e';cases e'
 exact⟨e,T',C,dx,H',rfl,I'.os,I'.bare,u',ok',tr',⟨hHe,hHT'⟩,hen,⟨s0 he0,hTs⟩,q⟩
theorem QZ{P:ag}{w:av}{K:η}{mg:ν->Option ε}{base:Ψ}{N:List ν}{qual:ν}{scope:eV}{f:ζ}{cd:ε}{A:aJ}{outer:List dq}{s:θ}{H:Hp}{E:XK}:
  mx (gR P w base) (iJ (gR P w base) P w K mg base N qual scope f cd A outer s H E) E:=Q0 rfl rfl rfl fun e s' h=>h
theorem Jy{P:ag}{w:av}{K:η}{mg:ν->Option ε}{base:Ψ}{N:List ν}{qual:ν}{scope:eV}{f:ζ}{cd:ε}{A:aJ}{outer:List dq}{s:θ}{H:Hp}{E:XK}:
  lU (model P w) (iJ (gR P w base) P w K mg base N qual scope f cd A outer s H E).A (iJ (gR P w base) P w K mg base N qual scope f cd A outer s H E).env (iJ (gR P w base) P w K mg base N qual scope f cd A outer s H E).xe:=lU.leaving
end
end L2
namespace L2
open PySem PySem.Spec PyProof.Rows
def M6(K:η)(C:ζ)(bmB:List ε)(newId:String):Prop:=∀h:Ψ,K.In h->∃nm q N bs bm hdct sn sub ab col dd k0 k1 k2 k3 k5 mN,h.get? C=some (excClassObj nm q C N bs bm hdct sn sub ab col dd k0 k1 k2 k3 k5 newId)/\h.Ns N mN/\mN "__init__" = none/\OwnTail h bmB bm
structure Body(X:Cx)(E:XK):Prop where
 ex:X.ex=[]
 st:X.stack=X.env::X.outer
 fr:X.env.frame=some X.env.locals
 xe:∀e s',ρ (model X.prog X.w) X.A (leaving X.env e) (fun _ s''=>gR X.prog X.w X.base X.outer X.H₀ X.s₀ E e s'') (fun e' s''=>gR X.prog X.w X.base X.outer X.H₀ X.s₀ E e' s'') s'->X.xe e s'
theorem Ee{P:ag}{w:av}{K:η}{mg:ν->Option ε}{base:Ψ}{N:List ν}{qual:ν}{scope:eV}{f:ζ}{cd:ε}{A:aJ}{outer:List dq}{s:θ}{H:Hp}{E:XK}:
  Body (iJ (gR P w base) P w K mg base N qual scope f cd A outer s H E) E:=⟨rfl,rfl,rfl,fun _ _ h=>h⟩
section
variable {X:Cx} {E:XK}
theorem Body.throw(B:Body X E){pins:List (ζ×aH)}{σ:St}{H:Hp}{s:θ}{e C:ζ}{oe:aH}{vs:Array ε}(I:Inv X pins σ H s)(he:s.heap.get? e=some oe)(hc:oe.cls=.ref C)(hd:oe.data=.fields vs)(h1:vs[1]?=some .none)(h2:vs[2]?=some .none)
  (h0:X.s₀.heap.get? e=none) (hHe:H e=none) (q:E (.ref C) oe.dict H):X.xe (.ref e) s:=B.xe _ _ (I.fly B.ex B.st B.fr he hc hd h1 h2 h0 hHe q)
theorem Ed{pins:List (ζ×aH)}{σ:St}{H:Hp}{s:θ}(I:Inv X pins σ H s){e:ζ}(h:s.heap.get? e=none):H e=none:=by
 cases hq:H e with
 |none=>rfl
 |some o=>
  obtain⟨ob,e'⟩:=cM.there (I.bJ e o hq);rw[h] at e';cases e'
theorem Ec{pins:List (ζ×aH)}{σ:St}{H:Hp}{s:θ}(B:Body X E)(I:Inv X pins σ H s){e:ζ}(h:s.heap.get? e=none):X.s₀.heap.get? e=none:=by
 cases hq:X.s₀.heap.get? e with
 |none=>rfl
 |some o=>
  obtain⟨o',e'⟩:=I.base.there e o hq (by rw[B.ex];simp);rw[h] at e';cases e'
theorem QY{x:ν}{C:ζ}{np cpos pos:aN}{bmB:List ε}{Bn newId initId:String}(B:Body X E)(hc:X.calm=true)(F:ExcBaseFacts Bn newId initId bmB)(O:M6 X.K C bmB newId)(hg:Gl X x)(hm:X.mg x=some (.ref C))(hdb:(x==("__debug__":ν))=false:=by decide):
  PS X (.Raise (some (.Call (.Name x np) [] [] cpos)) none pos) (fun _ _ H=>E (.ref C) none H):=by
 intro pins s σ H D I h;obtain⟨nm,q,N,bs,bm,hdct,sn,sub,ab,col,dd,k0,k1,k2,k3,k5,mN,hC,hn,hni,T⟩:=O s.heap I.hZ;refine wpAny_Raise_call_subT (C:=C) (nm:=nm) (q:=q) (N:=N) (bs:=bs) (bm:=bm) (hdct:=hdct) (sn:=sn) (sub:=sub) (ab:=ab) (col:=col) (dd:=dd) (k0:=k0) (k1:=k1) (k2:=k2) (k3:=k3) (k5:=k5)
  F (mN:=mN) (T.hasType F.hasBase) (I.ok.hd hc) rfl hni (wt I hg hm ⟨rfl,?_⟩ hdb)
 refine evalArgs_empty ⟨rfl,aI _,hC,hn,T,fun h' e hm'=>?_⟩;obtain⟨t,he,_,_⟩:=hm'.there;have I2:Inv X pins σ H { s with heap:=h' }:=I.kept (t':=s.toks) hm'.keeps;exact B.throw I2 he rfl rfl rfl rfl (Ec B I hm'.new) (Ed I hm'.new) h
end
end L2
namespace L3
open PySem PySem.Spec PyProof.Rows L2
def kU:HO->Bool
 |.tup _=>true
 |.dZ _ (.lst _)=>true
 |.dZ _ (.tup _)=>true
 |.dZ _ (.xd _)=>true
 |.dZ _ (.ext _)=>true
 |_=>false
def hide(H:Hp):Hp:=fun a=>match H a with
 |some o=>if kU o then some o else none
 |none=>none
def joined(H H':Hp):Hp:=fun a=>match H a with
 |some o=>if kU o then H' a else some o
 |none=>H' a
section
variable {P:ag} {w:av} {H H':Hp} {h h':Ψ} {a b:ζ} {o:HO} {fs:List ζ}
theorem zr(e:H a=none):hide H a=none:=by simp[hide,e]
theorem rb(e:H a=some o)(v:kU o=true):hide H a=some o:=by simp[hide,e,v]
theorem Jx(e:H a=some o)(v:kU o=false):hide H a=none:=by simp[hide,e,v]
theorem Eb(e:hide H a=some o):H a=some o/\kU o=true:=by
 unfold hide at e;cases q:H a with
 |none=>simp[q] at e
 |some u=>
  simp only[q] at e;cases v:kU u with
  |true=>
   rw[v,if_pos rfl] at e;cases e;exact⟨rfl,v⟩
  |false=>
   rw[v] at e;simp at e
theorem zq(e:H a=none):joined H H' a=H' a:=by simp[joined,e]
theorem AV(e:H a=some o)(v:kU o=true):joined H H' a=H' a:=by simp[joined,e,v]
theorem v7(e:H a=some o)(v:kU o=false):joined H H' a=some o:=by simp[joined,e,v]
theorem QX{H2:Hp}(v:kU o=true)(x:cM P w H h a o):cM P w H2 h a o:=by
 cases o with
 |tup xs=>obtain⟨z,its,r,p⟩:=x;exact⟨z,its,r,p⟩
 |dZ ob u=>
  cases u with
  |lst xs=>obtain⟨e,z,its,n,r,p⟩:=x;exact⟨e,z,its,n,r,p⟩
  |tup xs=>obtain⟨e,z,its,r,p⟩:=x;exact⟨e,z,its,r,p⟩
  |xd fs=>obtain⟨e,mA,r,p⟩:=x;exact⟨e,mA,r,p⟩
  |ext φ=>exact x
  |_=>cases v
 |_=>cases v
theorem QV(ok:fF P w H h):fF P w (hide H) h:=fun a o e=>by
 obtain⟨e1,v⟩:=Eb e;exact QX v (ok a o e1)
variable (ok:fF P w H h) (hfs:∀b∈fs,H b=none) (u:Un fs [] (hide H) H' h h') (ok':fF P w H' h')
include ok u
theorem Jw(e:H b=some o)(v:kU o=false):H' b=none:=by
 obtain⟨ob,q⟩:=cM.there (ok b o e);exact u.free b ob q (Jx e v) (by simp)
theorem uw(e:H' b=some o):joined H H' b=some o:=by
 cases q:H b with
 |none=>rw[zq q];exact e
 |some x=>
  cases v:kU x with
  |true=>rw[AV q v];exact e
  |false=>
   rw[Jw ok u q v] at e;cases e
include hfs ok'
theorem Ea:Un fs [] H (joined H H') h h'/\fF P w (joined H H') h':=by
 have kept:∀b x ob,H b=some x->kU x=false->h.get? b=some ob->h'.get? b=some ob:=fun b x ob e v q=>
  u.keep b ob q (Jx e v) (fun z=>by rw[hfs b z] at e;cases e) (by simp)
 refine⟨⟨fun b ob q n h3 h4=>u.keep b ob q (zr n) h3 h4,fun b ob q n h3 h4=>u.slot b ob q (zr n) h3 h4,fun b ob q n h3=>by rw[zq n];exact u.free b ob q (zr n) h3,
  fun b ob q h3=>u.there b ob q h3,fun b xs e=>uw ok u (u.iE b xs (rb e rfl)),fun b ob x e=>?_,fun b ps e=>⟨#[],by rw[Array.append_empty];exact v7 e rfl⟩⟩,fun b x e=>?_⟩
 ·cases v:kU (.dZ ob x) with
  |true=>exact uw ok u (u.kQ b ob x (rb e v))
  |false=>exact v7 e v
 ·have mono:H' b=some x->cM P w (joined H H') h' b x:=fun z=>(ok' b x z).m8 (fun _ _ _ q=>q) (fun c q=>uw ok u q) (fun c xs q=>uw ok u q);cases q:H b with
  |none=>
   rw[zq q] at e;exact mono e
  |some y=>
   cases v:kU y with
   |true=>
    rw[AV q v] at e;exact mono e
   |false=>
    rw[v7 q v] at e;obtain rfl:=aO e;refine (ok b _ q).m8 (fun c ob hc z=>?_) (fun c z=>v7 z rfl) (fun c xs z=>uw ok u (u.iE c xs (rb z rfl)));rcases hc with rfl|hc
    ·exact kept _ _ _ q v z
    ·exact kept _ _ _ hc rfl z
end
section
variable {K:η} {H:Hp}
theorem cL.qd{a:ζ}{xs:List V}(h:cL K H a xs):cL K (hide H) a xs:=by
 rcases h with (h|⟨o,h⟩)|h
 ·exact .inl (.inl (rb h rfl))
 ·exact .inl (.inr ⟨o,rb h rfl⟩)
 ·exact .inr h
theorem pj.qd{a:ζ}{xs:List V}(h:pj K H a xs):pj K (hide H) a xs:=by
 rcases h with⟨o,h⟩|h
 ·exact .inl ⟨o,rb h rfl⟩
 ·exact .inr h
mutual
theorem Hv.qd:∀{d:D} {v:V},Hv K H d v->Hv K (hide H) d v
 |.aB,_,h=>by simpa [Hv] using h
 |.bl _,_,h=>by simpa [Hv] using h
 |.int _,_,h=>by simpa [Hv] using h
 |.str _,_,h=>by simpa [Hv] using h
 |.obj _,_,h=>by simpa [Hv] using h
 |.dc a,v,h=>by
  unfold Hv at h ⊢;obtain⟨e,ob,φ,q,c⟩:=h;exact⟨e,ob,φ,rb q rfl,c⟩
 |.tup ds,v,h=>by
  unfold Hv at h ⊢;obtain⟨a,vs,e,q,r⟩:=h;exact⟨a,vs,e,cL.qd q,aR.qd r⟩
 |.fy ds,v,h=>by
  unfold Hv at h ⊢;obtain⟨a,vs,e,q,r⟩:=h;exact⟨a,vs,e,pj.qd q,aR.qd r⟩
theorem aR.qd:∀{ds:List D} {vs:List V},aR K H ds vs->aR K (hide H) ds vs
 |[],_,h=>by simpa [aR] using h
 |d::ds,vs,h=>by
  unfold aR at h ⊢;obtain⟨v,r,e,q,z⟩:=h;exact⟨v,r,e,Hv.qd q,aR.qd z⟩
end
end
abbrev iS:Gp:=fun _=>none
def both(G1 G':Gp):Gp:=fun a=>match G1 a with
 |some o=>some o
 |none=>G' a
abbrev E3:=ν->List (ν×Int)->Prop
def dG(K:η)(x:ν)(C:ζ):Prop:=bw K aS x=some (some (.ref C))
def uU(H:Hp)(dx:Option ζ)(fs:List (ν×Int)):Prop:=(dx=none/\fs=[])∨∃d o,dx=some d/\H d=some (.dZ o (.xd (fs.map fun p=>(p.1,V.int p.2))))
def kP(K:η)(E:E3):XK:=fun cls dx H=>∃x C fs,cls=.ref C/\dG K x C/\E x fs/\uU H dx fs
abbrev qh:=List D->V3->E3->Prop
def MM(K:η)(sp:qh):Sp:=fun vs H Q E=>∃ds Q3 E',aR K H ds vs/\(∀a o,H a=some o->kU o=true)/\sp ds Q3 E'/\(∀v H' d G',Hv K H' d v->Step H iS H' G'->aV K G' H'->Q3 d G'->Q v H')/\∀cls dx H',kP K E' cls dx H'->E cls dx H'
abbrev uT(P:ag)(w:av)(K:η)(mg:ν->Option ε)(base:Ψ)(k:Nat)(f:ζ)(fd:aq)(ps:List ν)(sp:qh):Prop:=j5 P w K mg base (gR P w base) k f fd ps (MM K sp)
structure Joins(G1 G' G2:Gp):Prop where
 old:Sub G1 G2
 new:Sub G' G2
 out:∀a,G' a≠none->G1 a=none
def qe(sp:qh)(E:E3)(t:dB):aQ:=fun τ G Q=>t τ G fun ds G1=>sp ds (fun d G'=>∀G2,Joins G1 G' G2->Q d G2) E
section
variable {X:Cx} {k:Nat} {f:ζ} {fd:aq} {ps:List ν} {sp:qh} {E:E3} {x:ν} {p pos:aN} {e:υ} {es:List υ} {t:dB}
theorem Jv{K:η}{P:ag}{w:av}{fs:List ζ}{H H':Hp}{h h':Ψ}{G1 G':Gp}{d:D}{v:V}(ok:fF P w H h)(hfs:∀b∈fs,H b=none)(u:Un fs [] (hide H) H' h h')(ok':fF P w H' h')
  (R1:aV K G1 H) (hv:Hv K H' d v) (S:Step (hide H) iS H' G') (R':aV K G' H'):
  Hv K (joined H H') d v/\Step H G1 (joined H H') (both G1 G')/\aV K (both G1 G') (joined H H')/\Joins G1 G' (both G1 G'):=by
 have E2:Ext H' (joined H H'):=⟨fun b xs e=>uw ok u e,fun b o x e=>uw ok u e⟩;have E1:Ext H (joined H H'):=by
  obtain⟨u2,_⟩:=Ea ok hfs u ok';exact⟨u2.iE,u2.kQ⟩
 have outG:∀a,G' a≠none->H a=none:=fun a n=>by
  have z:hide H a=none:=S.new a rfl n;cases q:H a with
  |none=>rfl
  |some o=>
   cases v:kU o with
   |true=>rw[rb q v] at z;cases z
   |false=>
    have:=Jw ok u q v;cases q':G' a with
    |none=>exact absurd q' n
    |some g=>
     obtain⟨o',z',_⟩:=(R' a g q').mut;rw[this] at z';cases z'
 have out1:∀a,G' a≠none->G1 a=none:=fun a n=>R1.free (outG a n);refine⟨hv.ext E2,⟨fun a o e n=>?_,fun a n=>?_,fun a n q=>?_⟩,fun a g e=>?_,⟨fun a o e=>by simp[both,e],fun a o e=>by simp[both,out1 a (by rw[e];simp),e],out1⟩⟩
 ·cases v:kU o with
  |true=>
   rw[AV e v];exact S.fr a o (rb e v) rfl
  |false=>exact v7 e v
 ·cases q:H a with
  |none=>exact absurd q n
  |some o=>
   cases v:kU o with
   |true=>
    rw[AV q v];exact S.oW a (by rw[rb q v];simp)
   |false=>rw[v7 q v];simp
 ·simp only[both,n] at q;exact outG a q
 ·cases q:G1 a with
  |some o=>
   simp only[both,q] at e;cases e;obtain⟨o',z,h1,h2⟩:=(R1 a g q).mut;have hv:kU o'=false:=by
    cases o' with
    |tup xs=>exact absurd rfl (h1 xs)
    |dZ ob y=>exact absurd rfl (h2 ob y)
    |_=>rfl
   exact (R1 a g q).ext E1 (by rw[v7 z hv,z])
  |none=>
   simp only[both,q] at e;have hn:=outG a (by rw[e];simp);exact (R' a g e).ext E2 (by rw[zq hn])
theorem QU(G1:Gp):both G1 iS=G1:=by
 funext a;unfold both;cases G1 a<;>rfl
theorem QR{H H':Hp}{fs:List ζ}{h h':Ψ}(u:Un fs [] (hide H) H' h h'):Step (hide H) iS H' iS:=by
 have fr:∀a o,hide H a=some o->H' a=some o:=fun a o e=>by
  obtain⟨_,v⟩:=Eb e;cases o with
  |tup xs=>exact u.iE a xs e
  |dZ ob y=>exact u.kQ a ob y e
  |_=>cases v
 refine⟨fun a o e _=>fr a o e,fun a n=>?_,fun a _ q=>absurd rfl q⟩;cases q:hide H a with
 |none=>exact absurd q n
 |some o=>rw[fr a o q];simp
def BB(K:η)(E:E3)(H:Hp)(G:Gp):XK:=fun cls dx H'=>kP K E cls dx H'/\aV K G H'/\Step H G H' G
theorem gR.mono{P:ag}{w:av}{base:Ψ}{outer:List dq}{H:Hp}{s s':θ}{E E':XK}{ev:ε}(h:gR P w base outer H s E ev s')(m:∀cls dx H',E cls dx H'->E' cls dx H'):gR P w base outer H s E' ev s':=by
 obtain⟨e,T,C,dx,H',a1,a2,a3,a4,a5,a6,a7,a8,a9,q⟩:=h;exact⟨e,T,C,dx,H',a1,a2,a3,a4,a5,a6,a7,a8,a9,m _ _ _ q⟩
theorem gR.qd{P:ag}{w:av}{K:η}{base:Ψ}{outer:List dq}{H:Hp}{s s':θ}{G1:Gp}{ev:ε}(ok:fF P w H s.heap)(hfs:∀b∈fQ outer,H b=none)(R1:aV K G1 H)(h:gR P w base outer (hide H) s (kP K E) ev s'):
  gR P w base outer H s (BB K E H G1) ev s':=by
 obtain⟨e,T,C,dx,H',rfl,os,bare,u,ok',tr,⟨hHe,hHT⟩,hen,⟨he0,hT0⟩,x,C',fs,ec,cn,q,dd⟩:=h;obtain⟨u2,ok2⟩:=Ea ok hfs u ok';obtain⟨_,z2,z3,_⟩:=Jv (G':=iS) (d:=.aB) (v:=.aB) ok hfs u ok' R1 (by simp[Hv]) (QR u) (fun _ _ e=>nomatch e);rw[QU] at z2 z3;have out:∀b,s.heap.get? b=none->H' b=none->joined H H' b=none:=fun b hb hn=>by
  cases hq:H b with
  |none=>rw[zq hq];exact hn
  |some o=>
   obtain⟨ob,e'⟩:=cM.there (ok b o hq);rw[hb] at e';cases e'
 refine⟨e,T,C,dx,joined H H',rfl,os,bare,u2,ok2,tr,⟨out _ he0 hHe,out _ hT0 hHT⟩,hen,⟨he0,hT0⟩,⟨x,C',fs,ec,cn,q,?_⟩,z3,z2⟩;rcases dd with⟨d1,d2⟩|⟨d,o,d1,d2⟩
 ·exact .inl ⟨d1,d2⟩
 ·exact .inr ⟨d,o,d1,uw ok u d2⟩
theorem Ju{pins:List (ζ×aH)}{σ:L2.St}{H:Hp}{s:θ}{Q:VK}{G1:Gp}{Q3:V3}{ds:List D}{us:List ε}{vs:List V}{XE:ε->θ->Prop}(F:uT X.prog X.w X.K X.mg X.base k f fd ps sp)(hr:dW k X.A)(hb:Binds X.K fd ps [])
  (hx:∀ev s',gR X.prog X.w X.base X.stack H s (BB X.K E H G1) ev s'->XE ev s')
  (I:Inv X pins σ H s) (r:bh vs us) (hd:aR X.K H ds vs) (R1:aV X.K G1 H) (h:sp ds (fun d G'=>∀G2,Joins G1 G' G2->Q3 d G2) E) (kk:∀v H' d G',Hv X.K H' d v->Step H G1 H' G'->aV X.K G' H'->Q3 d G'->Q v H'):
  ρ (model X.prog X.w) X.A (call (.ref f) us) (EP X pins σ Q) XE s:=by
 have hq:MM X.K sp vs (hide H) (fun v H'=>∃d G',Hv X.K H' d v/\Step (hide H) iS H' G'/\aV X.K G' H'/\∀G2,Joins G1 G' G2->Q3 d G2) (kP X.K E):=
  ⟨ds,_,E,hd.qd,fun a o e=>(Eb e).2,h,fun v H' d G' a b c q=>⟨d,G',a,b,c,q⟩,fun _ _ _ z=>z⟩
 have hl:(us++[]).length=ps.length:=by rw[bV,←r.length];exact F.len _ _ _ _ hq
 have e0:wL X.prog X.w X.K X.mg X.base X.A X.stack s (hide H):=⟨I.ok.frames,I.ok.mod,fun b o e=>⟨(I.bs b o e).1,zr (I.bs b o e).2⟩,aD I.ok.uM I.sz,I.stack,fun b hb=>zr (I.lQ b hb),QV I.bJ,I.bare⟩;have hb':=hb s us I.hZ hl;rw[bV] at hb';refine i8 (fV (F.run X.A X.stack s (hide H) ⟨us,[]⟩ us vs _ (kP X.K E) hr e0 hb' r hq) fun r s' hq'=>?_);cases r with
 |error e=>exact hx e s' (gR.qd I.bJ I.lQ R1 hq')
 |ok fl=>
  cases fl with
  |ret u=>
   obtain⟨v,H',os,bare,un,bJ,rv,d,G',a,b,c,q⟩:=hq';obtain⟨un2,ok2⟩:=Ea I.bJ I.lQ un bJ;obtain⟨z1,z2,z3,z4⟩:=Jv I.bJ I.lQ un bJ R1 a b c;exact I.after ⟨v,joined H H',os,bare,un2,ok2,rv,kk v _ d _ z1 z2 z3 (q _ z4)⟩
  |next=>exact cI hq'
  |brk=>exact cI hq'
  |cont=>exact cI hq'
theorem QQ(F:uT X.prog X.w X.K X.mg X.base k f fd ps sp)(hr:dW k X.A)(hx:mx (gR X.prog X.w X.base) X (kP X.K E))(hm:X.mg x=some (.ref f))(hk:bW X.K (.ref f)=true)(hb:Binds X.K fd ps [])(ha:kG X (e::es) t)(hg:Gl X x:=by rfl)
  (hdb:(x==("__debug__":ν))=false:=by decide) (he:notStar e=true:=by rfl) (hpl:es.all notStar=true:=by rfl):
  bN X (.Call (.Name x p) (e::es) [] pos) (qe sp E t):=by
 intro pins s σ H Q I ⟨τ,G,Q3,RS,RG,h,kk⟩;refine eR (wt I hg hm ?_ hdb);refine ik (h₀:=X.base) I.ok.mod.uD hk (bO (ha pos pins s σ H (fun vs H1=>∃ds G1,aR X.K H1 ds vs/\Step H G H1 G1/\aV X.K G1 H1/\sp ds (fun d G'=>∀G2,Joins G1 G' G2->Q3 d G2) E) I
  ⟨τ,G,_,RS,RG,h,fun vs H1 ds G1 a b c q=>⟨ds,G1,a,b,c,q⟩⟩) fun us s1 ⟨vs,H1,I1,r,ds,G1,hd,S1,R1,q⟩=>⟨I1.hZ,?_⟩) (fP he) (mi hpl)
 exact Ju F hr hb (fun ev s' h=>hx pins σ H1 s1 ev s' I1 (gR.mono h fun _ _ _ z=>z.1)) I1 r hd R1 q fun v H' d G' a b c q=>kk v H' d G' a (S1.trans b) c q
end
section
variable {P:ag} {w:av} {K:η} {mg:ν->Option ε} {base:Ψ}
theorem fnX{x qual:ν}{st:aM}{f:ζ}{fd:aq}{N ps:List ν}{k:Nat}{sp:qh}(F:dR K x qual st f fd)(S:bp N ps (Ξ st))(hN:ps.length≤N.length)(len:∀ds Q E,sp ds Q E->ds.length=ps.length)(tb:E3->ao)
  (ia:∀(cdv:ε) (A:aJ) (outer:List dq) (s:θ) (H:Hp) (E:XK) (E':E3),dW k (A.deeper (envOfC qual (Ξ st) s.heap.objs.size f cdv))->(∀cls dx H',kP K E' cls dx H'->E cls dx H') ->
   jC (iJ (gR P w base) P w K mg base N qual (Ξ st) f cdv A outer s H E) (fu st) (tb E'))
  (tQ:∀ds Q E,sp ds Q E->tb E (bj Q) (br N ds) iS):uT P w K mg base (k+1) f fd ps sp:=by
 obtain⟨oc,od,kV,doc,pm,an,cdv,ct,osl,rfl,lk,g7⟩:=F.ex;refine L9 lk g7 S (fun vs H Q E h=>?_) (fun A outer s H vs Q E hr h=>?_)
 ·obtain⟨ds,Q3,E',h1,_,h3,_⟩:=h;rw[←h1.length];exact len _ _ _ h3
 ·obtain⟨ds,Q3,E',h1,h2,h3,h4,h5⟩:=h;refine⟨_,ia cdv A outer s H E E' hr h5,br N ds,iS,bj Q3,.start h1 ?_,(fun _ _ e=>nomatch e),tQ _ _ _ h3,⟨?_,?_,?_,?_⟩⟩
  ·rw[←h1.length,len _ _ _ h3];exact hN
  ·exact fun τ σ G' H' a b c ⟨G0,s0,q⟩=>h4 _ H' .aB G0 (by simp[Hv]) (b.trans (.sub s0)) (c.sub s0) q
  ·exact fun τ σ G' H' a b c q=>q.elim
  ·exact fun τ σ G' H' a b c q=>q.elim
  ·exact fun d v G' H' a b c ⟨G0,s0,q⟩=>h4 _ H' d G0 a (b.trans (.sub s0)) (c.sub s0) q
end
theorem Bu{P:ag}{w:av}{K:η}{mg:ν->Option ε}{base:Ψ}{N:List ν}{qual:ν}{scope:eV}{f:ζ}{cd:ε}{A:aJ}{outer:List dq}{s:θ}{H:Hp}{E:XK}{E':E3}(h:∀cls dx H',kP K E' cls dx H'->E cls dx H'):
  mx (gR P w base) (iJ (gR P w base) P w K mg base N qual scope f cd A outer s H E) (kP K E'):=fun pins σ H1 s1 ev s' I q=>QZ pins σ H1 s1 ev s' I (gR.mono q h)
end L3
namespace L2
open PySem PySem.Spec PyProof.Rows
structure fD(k:Nat)(A:aJ):Prop where
 dp:A.depth+3*k+5<recursionLimit
 un:A.units+16*k+200<cLine
theorem fD.mono{j k:Nat}{A:aJ}(r:fD k A)(h:j≤k):fD j A:=⟨by have:=r.dp;lia,by have:=r.un;lia⟩
theorem fD.deeper{k:Nat}{A:aJ}(r:fD (k+1) A)(env:dq):fD k (A.deeper env):=
 ⟨by have:=r.dp;show A.depth+1+3*k+5<_;lia,by have:=r.un;show A.units+3+16*k+200<_;lia⟩
theorem fD.depth{k:Nat}{A:aJ}(r:fD k A):A.depth<recursionLimit:=by have:=r.dp;lia
theorem fD.units{k:Nat}{A:aJ}(r:fD k A):A.units+64<cLine:=by have:=r.un;lia
theorem fD.mark{k:Nat}{A:aJ}{v:Option ε}(r:fD k A):fD k (A.mark v):=⟨r.dp,r.un⟩
theorem dW.h{k:Nat}{A:aJ}(r:dW k A):fD k A:=⟨r.dp,r.un⟩
structure tF(P:ag)(w:av)(K:η)(mg:ν->Option ε)(base:Ψ)(k:Nat)(f:ζ)(fd:aq)(ps:List ν)(sp:Sp):Prop where
 len:∀vs H Q E,sp vs H Q E->vs.length=ps.length
 run:∀(A:aJ) (outer:List dq) (s:θ) (H:Hp) (args:Args) (us:List ε) (vs:List V) (Q:VK) (E:XK),fD k A->wL P w K mg base A outer s H->pV s fd args (ps.zip us)->bh vs us->sp vs H Q E ->
  iL (model P w) A (.call (.ref f) args) (CR se outer P w H s Q E) s
section
variable {P:ag} {w:av} {K:η} {mg:ν->Option ε} {base:Ψ} {j k:Nat} {f:ζ} {fd:aq} {ps:List ν} {sp:Sp}
theorem tF.mono(F:tF P w K mg base j f fd ps sp)(h:j≤k):tF P w K mg base k f fd ps sp:=⟨F.len,fun A outer s H args us vs Q E hr=>F.run A outer s H args us vs Q E (hr.mono h)⟩
end
def Dt(P:ag)(w:av)(K:η)(mg:ν->Option ε)(base:Ψ)(N:List ν)(qual:ν)(scope:eV)(f:ζ)(cd:ε)(A:aJ)(outer:List dq)(s:θ)(H:Hp)(E:XK):Cx:=
 { iJ se P w K mg base N qual scope f cd A outer s H E with calm:=false,xe:=fun _ _=>False }
section
variable {P:ag} {w:av} {K:η} {mg:ν->Option ε} {base:Ψ} {N:List ν} {qual:ν} {scope:eV} {f:ζ} {cd:ε} {A:aJ} {outer:List dq} {s s1:θ} {H H1:Hp} {E:XK} {pins:List (ζ×aH)} {σ:St}
theorem Inv.loud(I:Inv (iJ se P w K mg base N qual scope f cd { A with handled:=none } outer s H E) pins σ H1 s1)(hf:A.frames=some outer):Inv (Dt P w K mg base N qual scope f cd A outer s H E) pins σ H1 s1:=by
 obtain⟨ok,a1,a2,a3,a4,a5,a6,a7,a8,a9,a10⟩:=I;obtain⟨o1,o2,o3,o4,o5,o6,o7,o8,_,_,o11,o12,o13,o14,o15,o16,o17,o18⟩:=ok;exact⟨⟨o1,o2,o3,o4,o5,o6,o7,o8,(fun z=>nomatch z),tP hf,o11,o12,o13,o14,o15,o16,o17,o18⟩,a1,a2,a3,a4,a5,a6,a7,a8,a9,a10⟩
end
theorem QP{P:ag}{w:av}{K:η}{mg:ν->Option ε}{base:Ψ}{k:Nat}{x qual:ν}{st:aM}{f:ζ}{fd:aq}{N ps:List ν}{sp:Sp}(F:dR K x qual st f fd)(S:bp N ps (Ξ st))(len:∀vs H Q E,sp vs H Q E->vs.length=ps.length)
  (ia:∀(cdv:ε) (A:aJ) (outer:List dq) (s:θ) (H:Hp) (vs:List V) (Q:VK) (E:XK),fD k (A.deeper (envOfC qual (Ξ st) s.heap.objs.size f cdv))->sp vs H Q E ->
   ∃t,nZ (Dt P w K mg base N qual (Ξ st) f cdv A outer s H E) (fu st) t/\t { nx:=fun _ H'=>Q .aB H',rt:=Q } (start N vs) H):
  tF P w K mg base (k+1) f fd ps sp:=by
 obtain⟨oc,od,kV,doc,pm,an,cdv,ct,osl,rfl,lk,g7⟩:=F.ex;refine⟨len,fun A outer s H args us vs Q E hr e0 hb r uH=>?_⟩;have hl:=len _ _ _ _ uH;have KX:K.In s.heap:=e0.mod.uD.keeps fun b o e=>(e0.bs b o e).1;have lim:s.heap.NoLimit:=e0.mod.nolimit.keeps fun b o e=>(e0.bs b o e).1;have hkind:∀y∈ps.zip us,(Ξ st).names.lookup y.1=some .local∨((Ξ st).names.lookup y.1=some .cell/\((cellsFrom (s.heap.objs.size+1) (Ξ st).names []).lookup y.1).isSome=true):=fun⟨n,v⟩ hy=>by
  rcases S.par n (gj hy).1 with q|q
  ·exact .inl q
  ·exact .inr ⟨q,lj _ _ _ (.inl q)⟩
 refine lT hr.depth (KX _ _ lk) rfl S.co S.gen rfl (oj KX g7) (hb _ _ _ _ ?_);refine jm S.kind hkind fun env he s1 x=>?_;subst he;refine⟨lim.keeps x.toInCall.keep,codeAny_func ?_⟩;obtain⟨t,ht,hq⟩:=ia cdv A outer s H vs Q E (hr.deeper _) uH;have e1:wL P w K mg base { A with handled:=none } outer s H:=⟨e0.frames,e0.mod,e0.bs,e0.uM,e0.ml,e0.yh,e0.bJ,e0.bare⟩;have I0:Inv (iJ se P w K mg base N qual (Ξ st) f cdv { A with handled:=none } outer s H E) [] (start N vs) H s1:=Ma S rfl e1 hl r x;have I:=I0.loud (A:=A) e0.frames;refine cS (ht [] s1 (start N vs) H _ I hq) (fun fl s' hs=>?_) fun e s' hs=>hs.elim;have fin:∀{σ':St} {H':Hp} {v:V} {u:ε},Inv (Dt P w K mg base N qual (Ξ st) f cdv A outer s H E) [] σ' H' s'->RelV v u->Q v H'->CE outer P w H s Q u s':=
  fun {σ' H' v u} J rv q=>⟨v,H',J.os,J.bare,J.base,J.bJ,rv,q⟩
 cases fl with
 |ret u=>
  obtain⟨v,σ',H',J,rv,q⟩:=hs;exact fin J rv q
 |next=>
  obtain⟨σ',H',J,q⟩:=hs;exact fin (v:=V.aB) (u:=aX) J rfl q
 |brk=>
  obtain⟨_,_,_,q⟩:=hs;exact cI q
 |cont=>
  obtain⟨_,_,_,q⟩:=hs;exact cI q
section
variable {X:Cx} {k:Nat} {f:ζ} {fd:aq} {ps:List ν} {sp:Sp} {E:XK} {x:ν} {p pos:aN} {e:υ} {es:List υ} {t:TA}
theorem QN{pins:List (ζ×aH)}{σ:St}{H:Hp}{s:θ}{Q:VK}{us:List ε}{vs:List V}(F:tF X.prog X.w X.K X.mg X.base k f fd ps sp)(hr:fD k X.A)(hb:Binds X.K fd ps [])
  (I:Inv X pins σ H s) (r:bh vs us) (h:sp vs H Q E):ρ (model X.prog X.w) X.A (call (.ref f) us) (EP X pins σ Q) X.xe s:=by
 have hl:(us++[]).length=ps.length:=by rw[bV,←r.length];exact F.len _ _ _ _ h
 have hb':=hb s us I.hZ hl;rw[bV] at hb';refine i8 (fV (F.run X.A X.stack s H ⟨us,[]⟩ us vs Q E hr I.MV hb' r h) fun r s' hq=>?_);cases r with
 |error e=>exact cI hq
 |ok fl=>
  cases fl with
  |ret u=>exact I.after hq
  |next=>exact cI hq
  |brk=>exact cI hq
  |cont=>exact cI hq
theorem P7(F:tF X.prog X.w X.K X.mg X.base k f fd ps sp)(hr:fD k X.A)(hg:Gl X x)(hm:X.mg x=some (.ref f))(hk:bW X.K (.ref f)=true)(hb:Binds X.K fd ps [])
  (ha:PA X (e::es) t) (hdb:(x==("__debug__":ν))=false:=by decide) (he:bI (e::es) X.env=(false,eval e X.env)::bI es X.env:=by rfl) (hpl:(backTo pos (bI es X.env)).any (·.1)=false:=by rfl):
  PE X (.Call (.Name x p) (e::es) [] pos) (Ax sp [] E t):=by
 intro pins s σ H Q I h;refine eR (wt I hg hm ?_ hdb);refine ik (h₀:=X.base) I.ok.mod.uD hk (bO (ha pos pins s σ H _ I h) fun us s1 ⟨vs,H1,I1,r,q⟩=>⟨I1.hZ,?_⟩) he hpl;have q':sp (vs++[]) H1 Q E:=q;rw[bV] at q';exact QN F hr hb I1 r q'
end
end L2
namespace L3
open PySem PySem.Spec PyProof.Rows L2
abbrev zT(P:ag)(w:av)(K:η)(mg:ν->Option ε)(base:Ψ)(k:Nat)(f:ζ)(fd:aq)(ps:List ν)(sp:eO):Prop:=tF P w K mg base k f fd ps (nH K sp)
theorem P6{X:Cx}{k:Nat}{f:ζ}{fd:aq}{ps:List ν}{sp:eO}{x:ν}{p pos:aN}{e:υ}{es:List υ}{t:dB}(F:zT X.prog X.w X.K X.mg X.base k f fd ps sp)(hr:fD k X.A)(hm:X.mg x=some (.ref f))(hk:bW X.K (.ref f)=true)(hb:Binds X.K fd ps [])(ha:kG X (e::es) t)(hg:Gl X x:=by rfl)
  (hdb:(x==("__debug__":ν))=false:=by decide) (he:notStar e=true:=by rfl) (hpl:es.all notStar=true:=by rfl):
  bN X (.Call (.Name x p) (e::es) [] pos) (bo sp t):=jJ (P7 (E:=E0) F hr hg hm hk hb ha hdb (fP he) (mi hpl)) fun σ H Q h=>LG h
theorem aaU{P:ag}{w:av}{K:η}{mg:ν->Option ε}{base:Ψ}{x qual:ν}{st:aM}{f:ζ}{fd:aq}{N ps:List ν}{k:Nat}{sp:eO}(F:dR K x qual st f fd)(S:bp N ps (Ξ st))(hN:ps.length≤N.length)(len:∀ds G Q,sp ds G Q->ds.length=ps.length)(tb:ao)
  (ia:∀(cdv:ε) (A:aJ) (outer:List dq) (s:θ) (H:Hp) (E:XK),fD k (A.deeper (envOfC qual (Ξ st) s.heap.objs.size f cdv)) ->
   jC (Dt P w K mg base N qual (Ξ st) f cdv A outer s H E) (fu st) tb)
  (tQ:∀ds G Q,sp ds G Q->tb (bj Q) (br N ds) G):zT P w K mg base (k+1) f fd ps sp:=by
 refine QP F S (fun vs H Q E h=>?_) (fun cdv A outer s H vs Q E hr h=>?_)
 ·obtain⟨ds,G,Q3,h1,h2,h3,h4⟩:=h;rw[←h1.length];exact len _ _ _ h3
 ·obtain⟨ds,G,Q3,h1,h2,h3,h4⟩:=h;refine⟨_,ia cdv A outer s H E hr,br N ds,G,bj Q3,.start h1 ?_,h2,tQ _ _ _ h3,⟨?_,?_,?_,?_⟩⟩
  ·rw[←h1.length,len _ _ _ h3];exact hN
  ·exact fun τ σ G' H' a b c ⟨G0,s0,q⟩=>h4 _ H' .aB G0 (by simp[Hv]) (b.trans (.sub s0)) (c.sub s0) q
  ·exact fun τ σ G' H' a b c q=>q.elim
  ·exact fun τ σ G' H' a b c q=>q.elim
  ·exact fun d v G' H' a b c ⟨G0,s0,q⟩=>h4 _ H' d G0 a (b.trans (.sub s0)) (c.sub s0) q
end L3
namespace L3
open PySem PySem.Spec PyProof.Rows L2
abbrev Ao:=S3->Gp->E3
abbrev Ar:=Ao->aQ
abbrev uP:=Ao->ao
def xi(X:Cx)(pins:List (ζ×aH))(H:Hp)(G:Gp)(KX:Ao)(XE:ε->θ->Prop):Prop:=
 ∀(σ1:L2.St) (τ1:S3) (H1:Hp) (s1:θ) (G1:Gp) (ev:ε) (s':θ),Inv X pins σ1 H1 s1->eB X.K τ1 σ1 H1->aV X.K G1 H1->Step H G H1 G1->gR X.prog X.w X.base X.stack H1 s1 (BB X.K (KX τ1 G1) H1 G1) ev s'->XE ev s'
theorem xi.step{X:Cx}{pins:List (ζ×aH)}{H H1:Hp}{G G1:Gp}{KX:Ao}{XE:ε->θ->Prop}(x:xi X pins H G KX XE)(S:Step H G H1 G1):xi X pins H1 G1 KX XE:=
 fun σ1 τ1 H2 s2 G2 ev s' a b c d e=>x σ1 τ1 H2 s2 G2 ev s' a b c (S.trans d) e
def M5(X:Cx)(e:υ)(t:Ar):Prop:=
 ∀(pins:List (ζ×aH)) (s:θ) (σ:L2.St) (H:Hp) (Q:VK) (XE:ε->θ->Prop) (τ:S3) (G:Gp) (Q3:V3) (KX:Ao),Inv X pins σ H s->eB X.K τ σ H->aV X.K G H->t KX τ G Q3 ->
  (∀v H' d G',Hv X.K H' d v->Step H G H' G'->aV X.K G' H'->Q3 d G'->Q v H')->xi X pins H G KX XE->ρ (model X.prog X.w) X.A (eval e X.env) (EP X pins σ Q) XE s
def As(X:Cx)(st:List aM)(t:uP):Prop:=
 ∀(pins:List (ζ×aH)) (s:θ) (σ:L2.St) (H:Hp) (D2:Ends) (XE:ε->θ->Prop) (τ:S3) (G:Gp) (D3:g0) (KX:Ao),Inv X pins σ H s->eB X.K τ σ H->aV X.K G H->t KX D3 τ G->pS X.K H G D3 D2->xi X pins H G KX XE ->
  ρ (model X.prog X.w) X.A (execs st X.env) (SP X pins D2) XE s
section
variable {X:Cx} {k:Nat} {f:ζ} {fd:aq} {ps:List ν} {sp:qh} {x:ν} {p pos:aN} {a b e c:υ} {es:List υ} {t:dB} {te:aQ} {tx:Ar} {tax:TAX} {tc:cU} {ta tb tr:uP} {sa sb rest:List aM}
def yE(tx:Ar)(tr:uP):uP:=fun KX D τ G=>tx KX τ G fun _ G1=>tr KX D τ G1
theorem P5(h:M5 X e tx)(hr:As X rest tr)(hs:swapsWith e none pos.line X.env=pure false:=by rfl):As X (.Expr e pos::rest) (yE tx tr):=by
 intro pins s σ H D2 XE τ G D3 KX I RS RG ht EL xx;refine i7 (wpAny_Expr_any (bO (h pins s σ H (fun v H1=>∃d G1,Hv X.K H1 d v/\Step H G H1 G1/\aV X.K G1 H1/\tr KX D3 τ G1) XE τ G _ KX I RS RG ht (fun v H' d G' a b c q=>⟨d,G',a,b,c,q⟩) xx) fun v s1 ⟨x,H1,I1,r1,d,G1,hd,S1,R1,q1⟩=>?_) I.quiet hs);exact hr pins s1 σ H1 D2 XE τ G1 D3 KX I1 (RS.ext (S1.ext RG)) R1 q1 (EL.step S1) (xx.step S1)
def yD:uP:=fun _ D τ G=>D.nx τ G
theorem P4:As X [] yD:=fun _ _ σ H D2 XE τ G D3 KX I RS RG h EL _=>gi ⟨σ,H,I,EL.nx τ σ G H RS (.refl H G) RG h⟩
end
end L3
namespace L2
open PySem PySem.Spec PyProof.Rows
open Builtin Builtin.ObjectAttr
open Sem (wp)
abbrev gM:List ε:=[.type "ValueError",.type "Exception",.type "BaseException",.type "object"]
def yG(es:Array kl):Bool:=es.toList.all fun e=>match e.key with
 |.str _ _=>true
 |_=>false
theorem P2{es:Array kl}(h:yG es=true):StrKeys es:=fun e he=>by
 have:=lO.mp h e (by simpa using he);cases q:e.key with
 |str n t=>exact⟨n,t,rfl⟩
 |_=>rw[q] at this;cases this
def MB(K:η)(N:ζ)(init:Option ε):Bool:=match K.lookup N with
 |some ⟨_,_,.dict es _,_⟩=>yG es&&nsFind es "__init__" == init
 |_=>false
theorem P1{K:η}{h:Ψ}{N:ζ}{init:Option ε}(X:K.In h)(e:MB K N init=true):∃m,h.Ns N m/\m "__init__" = init:=by
 unfold MB at e;split at e
 ·rename_i c d es ep sl ho;rw[cR] at e;exact⟨nsFind es,⟨_,es,ep,X _ _ ho,rfl,P2 e.1,fun _=>rfl⟩,beq_iff_eq.mp e.2⟩
 ·cases e
def excIn(K:η)(C:ζ)(bm:List ε)(init:Option ε)(newId:String):Bool:=match K.lookup C with
 | some ⟨.type "type",_,.cls cd,sl⟩=>(match cd.mro,sl.toList with
  |.ref C'::bm',[_,_,_,_,some (.builtin n),_]=>C'==C&&bm'==bm && !cd.hasDel&&cd.hasDict&&n==newId&&MB K cd.ns init
  | _,_=>false)
 |_=>false
theorem AU{K:η}{h:Ψ}{C:ζ}{bm:List ε}{init:Option ε}{newId:String}(X:K.In h)(q:excIn K C bm init newId=true):∃nm qn N bs sn sub ab col dd k0 k1 k2 k3 k5 mN,
  h.get? C=some (excClassObj nm qn C N bs bm true sn sub ab col dd k0 k1 k2 k3 k5 newId)/\h.Ns N mN/\mN "__init__" = init:=by
 unfold excIn at q;split at q
 ·rename_i dd cd sl ho;split at q
  ·rename_i C' bm' k0 k1 k2 k3 n k5 hm hs;simp only[cR,beq_iff_eq,Bool.not_eq_true'] at q;obtain⟨⟨⟨⟨⟨rfl,rfl⟩,hdel⟩,hdct⟩,rfl⟩,hns⟩:=q;obtain⟨nm,bs,mro,ns,qn,hd,sn,sub,ab,col,del⟩:=cd;dsimp only at hm hdel hdct hns;subst hm hdel hdct;have hsl:sl = #[k0,k1,k2,k3,some (.builtin n),k5]:=by
    obtain⟨l⟩:=sl;simp only at hs;rw[hs]
   subst hsl;obtain⟨m,h1,h2⟩:=P1 X hns;exact⟨nm,qn,ns,bs,sn,sub,ab,col,dd,k0,k1,k2,k3,k5,m,X _ _ ho,h1,h2⟩
  ·cases q
 ·cases q
structure qj(K:η)(C B:ζ)(init:Option ε):Prop where
 cls:excIn K C (.ref B::gM) init "ValueError.__new__" = true
 base:excIn K B gM none "ValueError.__new__" = true
theorem qj.own{K:η}{C B:ζ}{init:Option ε}(x:qj K C B init){h:Ψ}(X:K.In h):∃nm qn N bs sn sub ab col dd k0 k1 k2 k3 k5 mN,
  h.get? C=some (excClassObj nm qn C N bs (.ref B::gM) true sn sub ab col dd k0 k1 k2 k3 k5 "ValueError.__new__")/\h.Ns N mN/\mN "__init__" = init/\OwnTail h gM (.ref B::gM):=by
 obtain⟨nm,qn,N,bs,sn,sub,ab,col,dd,k0,k1,k2,k3,k5,mN,h1,h2,h3⟩:=AU X x.cls;obtain⟨nm',qn',N',bs',sn',sub',ab',col',dd',k0',k1',k2',k3',k5',mN',h1',h2',h3'⟩:=AU X x.base;exact⟨nm,qn,N,bs,sn,sub,ab,col,dd,k0,k1,k2,k3,k5,mN,h1,h2,h3,.own h1' h2' h3' .base⟩
structure xj(K:η)(C B:ζ)(names:List ν):Prop where
 sa:bX K (.ref C) "__setattr__" = some (some (.builtin "object.__setattr__"))
 obj:jo K C (.type "object")=some true
 mro:∃cd,jq K C=some cd/\cd.mro=.ref C::.ref B::gM/\cd.hasDict=true
 nm:∀n∈names,bX K (.ref C) n=some none
section
variable {prog:ag} {w:av} {A:aJ} {E:ε->θ->Prop} {s:θ} {K:η} {C B x:ζ} {names:List ν} {name:ν} {v:ε} {mA:ν->Option ε}
theorem P0{h:Ψ}(I:h.Inst x C mA):∃ox od,nC h x ox C od:=by
 obtain⟨o,hx,hc,hnc,hd⟩:=I;have hn:kx o=true:=by
  unfold kx;split
  ·rename_i c q;exact absurd q (hnc c)
  ·rfl
 rcases hd with⟨hd,_⟩|⟨d,hd,_,od,es,ep,wZ,_⟩
 ·exact⟨o,none,hx,hc,hn,by rw[hd];trivial⟩
 ·exact⟨o,some od,hx,hc,hn,by rw[hd];exact wZ⟩
theorem PZ{ns:List ν}{Q:Unit->θ->Prop}(S:xj K C B names)(hn:name∈names)(X:K.In s.heap)(I:s.heap.Inst x C mA)(hw:Within mA ns)(hsz:ns.length≤1000)
  (hq:∀h' tk',h'.Inst x C (fun y=>if y=name then some v else mA y) ->
   (∀b o,b≠x->(∀o₀ dx,s.heap.get? x=some o₀->o₀.dict=some dx->b≠dx)->s.heap.get? b=some o->h'.get? b=some o) ->
   (∀o₀,s.heap.get? x=some o₀->∃o₁,h'.get? x=some o₁/\o₁.cls=o₀.cls/\o₁.data=o₀.data/\o₁.slots=o₀.slots/\(∀dx,o₀.dict=some dx->o₁.dict=some dx)/\(o₀.dict=none->o₁.dict=some s.heap.objs.size))->Q () { s with heap:=h',toks:=tk' }):
  ρ (model prog w) A (setAttr (.ref x) name v) Q E s:=by
 obtain⟨ox,od,IA⟩:=P0 I;obtain⟨cd,g7,hmro,hdct⟩:=S.mro;refine PySem.W.set_plain X IA S.sa ?_;have X':K.In ({ s with toks:=s.toks+1 }:θ).heap:=X;have IA':nC ({ s with toks:=s.toks+1 }:θ).heap x ox C od:=IA;have SF:=PySem.F.store_object;have sub:PySem.W.Looks (model prog w) ({ s with toks:=s.toks+1 }:θ).heap (isInstance (.ref x) (.type "object")) true:=IA'.type.andThen (PySem.W.looks_mroIn X' S.obj);have hm:PySem.W.Looks (model prog w) ({ s with toks:=s.toks+1 }:θ).heap (mroOf (.ref C)) cd.mro:=(ua X' g7).andThen .now;refine mD SF.slot.plain SF.entry (@PySem.W.check_slot (model prog w) _ _ { s with toks:=s.toks+1 } "object.__setattr__" "object" "__setattr__" (.ref x) [.str name s.toks,v] [] _ SF.kind SF.split sub (SF.args (.ref x) (.str name s.toks) v) ?_);rw[PySem.W.osa_eq,refuse_eq];refine δ (δ (IA'.type.here (δ (hm.here ?_))));rw[hmro,refuseLoop_ref,refuseLoop_ref,PySem.F.store_ValueError.passes];refine μ (δ (IA'.type.here (δ ((PySem.W.looks_findIn X' (S.nm name hn)).here (δ (μ ?_))))));obtain⟨o,hx,hc,hnc,hd⟩:=I;obtain⟨hp,g,dr,tk0,os⟩:=s;dsimp only at hx X IA hq hd X' IA';have LC:=ua (M:=model prog w) X' g7;obtain⟨oc,odi,oda,osl⟩:=o;dsimp only at hc hnc hd;subst hc;show ρ _ _ (storeInOwnDict (.ref x) (.ref C) (.str name tk0) name v false) _ _ _;refine δ (μ (δ (δ (wpAny_loadPart hx (δ (LC.here ?_))))));rw[hdct];rcases hd with⟨hdn,hmA⟩|⟨dx,hdx,cK,hns⟩
 ·subst hdn;have hx₁:(hp.push { cls:=.type "dict",data:=.dict #[]}).get? x=some ⟨.ref C,none,oda,osl⟩:=ι _ hx;have hxs:x≠hp.objs.size:=bf (Θ hx);have hgd:((hp.push { cls:=.type "dict",data:=.dict #[]}).update x fun o=>{ o with dict:=some hp.objs.size }).get? hp.objs.size
     = some { cls:=.type "dict",data:=.dict #[]}:=
    (uf _ _ _ _ hxs.symm).trans (Ψ.get?_push_at rfl rfl)
  have hnd:((hp.push { cls:=.type "dict",data:=.dict #[]}).update x fun o=>{ o with dict:=some hp.objs.size }).Ns hp.objs.size (fun _=>none):=
    ⟨_,#[],_,hgd,rfl,fun e he=>absurd he (by simp),fun _=>rfl⟩
  have core:ρ (model prog w) A.in1 (storeInDict hp.objs.size (.str name tk0) name v) (fun fin s'=>match fin with | .done f=>(match f with | .ret _=>Q () s' | _=>False) | .again c'=>False) (fun e s'=>E e s') ⟨(hp.push { cls:=.type "dict",data:=.dict #[]}).update x fun o=>{ o with dict:=some hp.objs.size },g,dr,tk0+1,os⟩:=by
   unfold storeInDict newKeyGuard;refine δ (μ (δ (wpAny_nsSet1 (Ψ.Ns1.of_empty hnd) fun h' hn' hs=>?_)));obtain⟨oD,esD,epD,hoD,hdD,hcD⟩:=hn'.count (vR name v Within.nil);refine δ (wpAny_lookBehind hoD (by rw[hdD];exact pastItsLine_dict (aD hcD (by rw[az,gp,cq];lia))) ?_);refine μ ?_;have hx':h'.get? x=some ⟨.ref C,some hp.objs.size,oda,osl⟩:=by
    refine (hs.2 x hxs).trans (ck _ hx₁ ?_);have mj:=(Ψ.get?_some_iff.mp hx).2;cases oda<;>first|rfl|exact mj
   refine hq h' _ ⟨_,hx',rfl,hnc,.inr ⟨hp.objs.size,rfl,hxs.symm,?_⟩⟩ (fun b ob hbx _ hb=>?_)
    (fun o₀ h₀=>by obtain rfl:=aO (hx.symm.trans h₀);exact⟨_,hx',rfl,rfl,rfl,fun dx e=>(nomatch e),fun _=>rfl⟩)
   ·obtain⟨o',es,ep,e1,e2,e3,eu,e4⟩:=hn';exact⟨o',es,ep,e1,e2,e3,eu,fun y=>by rw[e4 y];by_cases hy:y=name<;>simp[hy,hmA]⟩
   ·exact (hs.2 b (bf (Θ hb))).trans ((uf _ _ _ _ hbx).trans (ι _ hb))
  rw[if_neg (by decide)];dsimp only;rw[if_neg (by simp[typeHasDict])];split
  ·first
    | (rename_i q;exact absurd q (hnc _))
    | (rename_i q _;exact absurd q (hnc _))
    | (rename_i q _ _;exact absurd q (hnc _))
    | (exfalso;simp_all)
  ·refine δ (wpAny_alloc' ?_);refine δ (wpAny_update' hx₁ ?_);refine μ (a:=some hp.objs.size) ?_;show ρ _ _ (storeInDict hp.objs.size (.str name tk0) name v) _ _ _;refine cS core (fun fin s' z=>?_) fun _ _ z=>z;cases fin with
   |done f=>
    cases f with
    |ret r=>exact z
    |_=>exact z.elim
   |again c=>exact z.elim
 ·subst hdx;refine μ (a:=some dx) ?_;show ρ _ _ (storeInDict dx (.str name tk0) name v) _ _ _;unfold storeInDict newKeyGuard;refine δ (μ (δ (wpAny_nsSet1 hns fun h' hn' hs=>?_)));obtain⟨oD,esD,epD,hoD,hdD,hcD⟩:=hn'.count (vR name v hw);refine δ (wpAny_lookBehind hoD (by rw[hdD];exact pastItsLine_dict (aD hcD (by rw[az,cq];lia))) ?_);refine μ ?_;have hx':=(hs.2 x cK.symm).trans hx;refine hq h' _ ⟨_,hx',rfl,hnc,.inr ⟨dx,rfl,cK,hn'⟩⟩ (fun b ob _ hbd hb=>(hs.2 b (hbd _ dx hx rfl)).trans hb)
   (fun o₀ h₀=>by obtain rfl:=aO (hx.symm.trans h₀);exact⟨_,hx',rfl,rfl,rfl,fun _ e=>e,fun e=>(nomatch e)⟩)
end
end L2
namespace L2
open PySem PySem.Spec PyProof.Rows
open Sem (wp)
structure Hd(l:List dq)(e T:ζ)(h h':Ψ):Prop where
 keep:∀b o,b≠e->b≠T->b∉fQ l->h.get? b=some o->h'.get? b=some o
 slot:∀b o,b∈fQ l->h.get? b=some o->∃sl,h'.get? b=some { o with slots:=sl }
theorem tE.Nj{base:Ψ}{l:List dq}{e T:ζ}{cls:ε}{dx:Option ζ}{h h':Ψ}(L:tE base l e T cls dx h h'):Hd l e T h h':=⟨L.keep,L.slot⟩
section
variable {M:Model} {A:aJ} {E:ε->θ->Prop} {s:θ}
theorem PY{base:Ψ}{env:dq}{outer:List dq}{L e T:ζ}{cls:ε}{dx:Option ζ}{Q:Unit->θ->Prop}
  (mj:A.frames=some (env::outer)) (hl:s.heap.FunFrames base (env::outer)) (hf:env.frame=some L) (ht:pR base s.heap e T cls dx) (hkb:base.StaysIn s.heap) (hen:base.get? e=none)
  (h:∀h',tE base (env::outer) e T cls dx s.heap h'->Q () { s with heap:=h' }):ρ M A (noteFrame (.ref e) env) (fun _ s'=>ρ M A (setFlight (.ref e) none) Q E s') E s:=by
 obtain⟨⟨oe,vs,he,hcls,hdx,hd,h1,h2⟩,hnT,hTe,oT,ts,hT,hdT,h3⟩:=ht;subst hcls hdx;unfold noteFrame;simp only[hf];refine δ (bA he hd h1 ?_);rw[if_pos (show (aF T != aX)=true from by simp)];refine δ (bA hT hdT h3 ?_);rw[if_neg (show ¬((aX==rawInt L)=true) from by simp[rawInt])];refine δ (fJ hT hdT (aG.mp h3).1 ?_);have other:∀b,b≠T->(s.heap.update T (gw (·.setIfInBounds 3 aX))).get? b=s.heap.get? b:=fun b hb=>bB _ _ (dy hb);have noRecord:∀b o,s.heap.get? b=some o->(∀vs,o.data≠.fields vs)->b≠T:=fun b o hb hnf q=>by
  rw[q,hT] at hb;injection hb with hb;subst hb;exact hnf ts hdT
 have hTf:T∉fQ (env::outer):=fun hm=>by
  obtain⟨_,o,ho,hnf⟩:=hl.mem hm;rw[hT] at ho;injection ho with ho;subst ho;exact hnf ts hdT
 refine uC mj (hl.of_keeps fun b o hb hnf=>⟨o,(other b (noRecord b o hb hnf)).trans hb,rfl⟩) hf ((other e (dy hTe)).trans he)
  (fun b o hbo=>(other b fun q=>by rw[q,hnT] at hbo;cases hbo).trans (hkb b o hbo)) hen hd (aG.mp h1).1 h2
  fun h' ⟨x1,x2,⟨T',x3,x3'⟩,x4,x5⟩=>h h' ⟨x1,x2,⟨T',x3,?_⟩,fun b o hbe hbT hbf hb=>x4 b o hbe hbe hbf ((other b hbT).trans hb),fun b o hbf hb=>x5 b o hbf ((other b fun q=>hTf (q▸hbf)).trans hb)⟩
 by_cases hq:T'=T
 ·subst hq;obtain⟨o2,e2⟩:∃o2,(s.heap.update T' (gw (·.setIfInBounds 3 aX))).get? T'=some o2:=⟨_,ck _ hT (eS (dE hdT _))⟩;rw[e2] at x3';cases x3'
 ·rw[←other T' hq];exact x3'
theorem HL{base:Ψ}{e T:ζ}{cls:ε}{dx:Option ζ}{Q:Unit->θ->Prop}(ht:pR base s.heap e T cls dx)
  (h:∀h',(∀b o,b≠T->s.heap.get? b=some o->h'.get? b=some o)->pR base h' e T cls dx->Q () { s with heap:=h' }):ρ M A (setFlight (.ref e) none) Q E s:=by
 obtain⟨⟨oe,vs,he,hcls,hdx,hd,h1,h2⟩,hnT,hTe,oT,ts,hT,hdT,h3⟩:=ht;unfold setFlight;refine δ (bA he hd h1 ?_);rw[if_pos (show (aF T != aX)=true from by simp)];have hz:=(aG.mp h3).1;refine fJ hT hdT hz (h _ (fun b o hb q=>(bB _ _ (dy hb)).trans q) ⟨⟨oe,vs,(bB _ _ hTe).trans he,hcls,hdx,hd,h1,h2⟩,hnT,hTe,_,_,ck _ hT (eS (dE hdT _)),dE hdT _,?_⟩);simp[hz]
theorem zY{nm q:ν}{C N B:ζ}{bs bm:List ε}{hdct:Bool}{sn:List ν}{sub:List ε}{ab:Bool}{col:Option Bool}{dd:Option ζ}{k0 k1 k2 k3 k5:Option ε}{newId:String}
  {nm' q':ν} {N':ζ} {bs' bm':List ε} {hdct':Bool} {sn':List ν} {sub':List ε} {ab':Bool} {col':Option Bool} {dd':Option ζ} {k0' k1' k2' k3' k5':Option ε} {newId':String}
  {h:Ψ} {g:Array GenState} {d:Drawn} {t:Nat} {os:OsState} {e:ζ} {oe:aH} {Q:Bool->θ->Prop}
  (hC:h.get? C=some (excClassObj nm q C N bs bm hdct sn sub ab col dd k0 k1 k2 k3 k5 newId)) (hB:h.get? B=some (excClassObj nm' q' B N' bs' bm' hdct' sn' sub' ab' col' dd' k0' k1' k2' k3' k5' newId'))
  (he:h.get? e=some oe) (hcls:oe.cls=.ref C) (kn:bm'.contains (.type "BaseException")=true) (hsub:(aF C::bm).contains (.ref B)=true)
  (hq:Q true ⟨h,g,d,t,os⟩):ρ M A (excMatches (.ref e) (.ref B)) Q E ⟨h,g,d,t,os⟩:=by
 have hcB:(aF B::bm').contains (.type "BaseException")=true:=by rw[ou,kn,u9]
 have f:=tc_notTuple;unfold excMatches
 repeat (first|(with_reducible refine fx he ?_;rw[hcls])|with_reducible refine fx hB ?_|(with_reducible refine jD hB ?_;rw[hcB])|(with_reducible refine jD hC ?_;rw[hsub])|wp_step)
 exact hq
end
section
variable {X:Cx} {pins:List (ζ×aH)} {σ:St} {H:Hp} {s:θ} {h':Ψ} {e T:ζ}
structure Frame(X:Cx):Prop where
 ex:X.ex=[]
 st:X.stack=X.env::X.outer
 fr:X.env.frame=some X.env.locals
theorem Inv.Ad(I:Inv X pins σ H s)(F:Frame X)(L:Hd X.stack e T s.heap h')(he:X.s₀.heap.get? e=none)(hT:X.s₀.heap.get? T=none)(hHe:H e=none)(hHT:H T=none)
  (hp:∀p∈X.pn++pins,p.1≠e/\p.1≠T) (eo:∃oe vs,s.heap.get? e=some oe/\oe.data=.fields vs) (To:∃oe vs,s.heap.get? T=some oe/\oe.data=.fields vs):Inv X pins σ H { s with heap:=h' }:=by
 have hloc:X.s₀.heap.get? X.env.locals=none:=fq I.ok.above;have sub:∀b,b∈fQ X.stack->b=X.env.locals∨b∈fQ X.outer:=fun b hb=>Ω.mp (I.ui b hb);have ne:∀{b c:ζ} {o:aH},X.s₀.heap.get? b=some o->X.s₀.heap.get? c=none->b≠c:=fun h1 h2 z=>by
  rw[z,h2] at h1;cases h1
 have mX:∀b:ζ,b∉X.ex:=fun b z=>by
  rw[F.ex] at z;cases z
 have inStk:X.env.locals∈fQ X.stack:=by
  rw[F.st];unfold fQ;rw[fH,F.fr];exact aa
 have supF:∀b,b∈fQ X.outer->b∈fQ X.stack:=fun b hb=>by
  rw[F.st];unfold fQ;rw[fH,F.fr];exact Γ _ hb
 have noF:∀{b:ζ} {o:aH},s.heap.get? b=some o->(∀vs,o.data≠.fields vs)->b≠e/\b≠T:=fun {b o} hb hn=>⟨fun z=>by
  obtain⟨oe,vs,q1,q2⟩:=eo;rw[z,q1] at hb;cases hb;exact hn vs q2,fun z=>by
  obtain⟨oe,vs,q1,q2⟩:=To;rw[z,q1] at hb;cases hb;exact hn vs q2⟩
 have cellK:∀c v,s.heap.IsCell c v->h'.IsCell c v:=fun c v hc=>by
  obtain⟨o,ho,hd⟩:=hc;by_cases hb:c∈fQ X.stack
  ·obtain⟨sl,k2⟩:=L.slot c o hb ho;exact⟨_,k2,hd⟩
  ·obtain⟨n1,n2⟩:=noF ho (fun vs q=>by rw[hd] at q;cases q);exact⟨o,L.keep c o n1 n2 hb ho,hd⟩
 refine⟨I.ok,I.os,I.bare,⟨fun b o h1 h2 h3 _=>?_,fun b o h1 h2 h3 _=>?_,I.base.free,fun b o h1 hx=>?_,I.base.iE,I.base.kQ,I.base.oC⟩,?_,fun x c hc=>?_,I.free,I.ko,fun p hp'=>?_,fun a o ha=>?_,I.len⟩
 ·have k1:=I.base.keep b o h1 h2 h3 (mX b);refine L.keep b o (ne h1 he) (ne h1 hT) (fun z=>?_) k1;rcases sub b z with z|z
  ·exact ne h1 hloc z
  ·exact h3 z
 ·obtain⟨sl,k1⟩:=I.base.slot b o h1 h2 h3 (mX b);obtain⟨sl',k2⟩:=L.slot b _ (supF b h3) k1;exact⟨sl',k2⟩
 ·obtain⟨o',k1⟩:=I.base.there b o h1 (mX b);by_cases hb:b∈fQ X.stack
  ·obtain⟨sl,k2⟩:=L.slot b o' hb k1;exact⟨_,k2⟩
  ·exact⟨o',L.keep b o' (ne h1 he) (ne h1 hT) hb k1⟩
 ·obtain⟨m,⟨o,es,ep,ho,r⟩,hl⟩:=I.loc;obtain⟨sl,k2⟩:=L.slot _ o inStk ho;refine⟨m,⟨_,es,ep,k2,r⟩,fun i x v h1 h2 h3=>?_⟩;obtain⟨u,ru,lk⟩:=hl i x v h1 h2 h3;refine⟨u,ru,?_⟩;rcases lk with lk|⟨kd,c,hc,ic⟩
  ·exact .inl lk
  ·exact .inr ⟨kd,c,hc,cellK c _ ic⟩
 ·obtain⟨v,hv⟩:=I.cell x c hc;exact⟨v,cellK c v hv⟩
 ·obtain⟨q1,q2,q3,q4,q5⟩:=I.pin p hp';refine⟨L.keep p.1 p.2 (hp p hp').1 (hp p hp').2 (fun z=>?_) q1,q2,q3,q4,q5⟩;rcases sub _ z with z|z
  ·exact q3 z
  ·exact q4 z
 ·refine (I.bJ a o ha).m8 (fun b u hb q=>?_) (fun _ q=>q) fun _ _ q=>q;have hHb:H b≠none:=by
   rcases hb with rfl|hb
   ·rw[ha];simp
   ·rw[hb];simp
  exact L.keep b u (fun z=>hHb (z▸hHe)) (fun z=>hHb (z▸hHT)) (fun z=>hHb (I.lQ b z)) q
theorem Inv.forget{m':ν->Option ε}{t':Nat}(I:Inv X pins σ H s)(hs:cQ X.env.locals s.heap h')(hn:h'.Ns X.env.locals m'):Inv X pins (aA X.N.length none) H { s with heap:=h',toks:=t' }:=by
 have hloc:X.s₀.heap.get? X.env.locals=none:=fq I.ok.above;have k:∀b o,b≠X.env.locals->s.heap.get? b=some o->h'.get? b=some o:=fun b o hb q=>(hs.2 b hb).trans q;have ne:∀{b:ζ} {o:aH},X.s₀.heap.get? b=some o->b≠X.env.locals:=fun h1 z=>by
  rw[z,hloc] at h1;cases h1
 refine⟨I.ok,I.os,I.bare,⟨fun b o h1 h2 h3 h4=>k b o (ne h1) (I.base.keep b o h1 h2 h3 h4),fun b o h1 h2 h3 h4=>?_,I.base.free,fun b o h1 h2=>?_,I.base.iE,I.base.kQ,I.base.oC⟩,⟨m',hn,fun i x v h1 h2 h3=>?_⟩,fun x c hc=>?_,I.free,I.ko,fun p hp=>?_,fun a o ha=>?_,by simp⟩
 ·obtain⟨sl,q⟩:=I.base.slot b o h1 h2 h3 h4;exact⟨sl,k _ _ (ne h1) q⟩
 ·obtain⟨o',q⟩:=I.base.there b o h1 h2;exact⟨o',k _ _ (ne h1) q⟩
 ·rw[g9] at h2;split at h2<;>cases h2
 ·obtain⟨v,o,ho,hd⟩:=I.cell x c hc;exact⟨v,o,k _ _ (I.yi x c hc) ho,hd⟩
 ·obtain⟨q1,q2,q3,q4,q5⟩:=I.pin p hp;exact⟨k _ _ q3 q1,q2,q3,q4,q5⟩
 ·refine (I.bJ a o ha).m8 (fun b u hb q=>k b u (fun z=>?_) q) (fun _ q=>q) fun _ _ q=>q;rcases hb with hb|hb
  ·rw[←hb,z,I.free] at ha;cases ha
  ·rw[z,I.free] at hb;cases hb
abbrev Cx.kX(X:Cx)(e:ζ):Cx:={ X with A:=X.A.mark (some (.ref e)),calm:=false,xe:=fun _ _=>False }
theorem Inv.kX(I:Inv X pins σ H s)(e:ζ):Inv (X.kX e) pins σ H s:=by
 obtain⟨ok,a1,a2,a3,a4,a5,a6,a7,a8,a9,a10⟩:=I;obtain⟨o1,o2,o3,o4,o5,o6,o7,o8,_,o10,o11,o12,o13,o14,o15,o16,o17,o18⟩:=ok;exact⟨⟨o1,o2,o3,o4,o5,o6,o7,o8,(fun z=>nomatch z),o10,o11,o12,o13,o14,o15,o16,o17,o18⟩,a1,a2,a3,a4,a5,a6,a7,a8,a9,a10⟩
theorem Inv.uncaught{e:ζ}(I:Inv (X.kX e) pins σ H s)(ok:X.Ok):Inv X pins σ H s:=by
 obtain⟨_,a1,a2,a3,a4,a5,a6,a7,a8,a9,a10⟩:=I;exact⟨ok,a1,a2,a3,a4,a5,a6,a7,a8,a9,a10⟩
theorem DB{P:ag}{w:av}{h:Ψ}{a:ζ}{o:HO}(ok:fF P w H h)(hn:H a=none)(new:cM P w (upd H a o) h a o):fF P w (upd H a o) h:=fun b u e=>by
 by_cases z:b=a
 ·subst z;rw[g6] at e;cases e;exact new
 ·rw[dA z] at e;refine (ok b u e).m8 (fun _ _ _ q=>q) (fun c q=>?_) fun c xs q=>?_
  ·rw[dA (fun z=>by rw[z,hn] at q;cases q)];exact q
  ·rw[dA (fun z=>by rw[z,hn] at q;cases q)];exact q
theorem Inv.Gk{a:ζ}{o:HO}(I:Inv X pins σ H s)(hn:H a=none)(h0:X.s₀.heap.get? a=none)(new:cM X.prog X.w (upd H a o) s.heap a o)(hl:a≠X.env.locals)(hc:∀x c,X.env.cells.lookup x=some c->c≠a)(hp:∀p∈X.pn++pins,p.1≠a):Inv X pins σ (upd H a o) s:=by
 refine⟨I.ok,I.os,I.bare,⟨I.base.keep,I.base.slot,fun b ob h1 h2 h3=>?_,I.base.there,fun b xs e=>?_,fun b x u e=>?_,fun b ps e=>?_⟩,I.loc,I.cell,by rw[dA hl.symm];exact I.free,fun x c e=>by rw[dA (hc x c e)];exact I.ko x c e,fun p hp'=>?_,DB I.bJ hn new,I.len⟩
 ·rw[dA (fun z=>by rw[z,h0] at h1;cases h1)];exact I.base.free b ob h1 h2 h3
 ·have:=I.base.iE b xs e;rw[dA (fun z=>by rw[z,hn] at this;cases this)];exact this
 ·have:=I.base.kQ b x u e;rw[dA (fun z=>by rw[z,hn] at this;cases this)];exact this
 ·obtain⟨more,q⟩:=I.base.oC b ps e;refine⟨more,?_⟩;rw[dA (fun z=>by rw[z,hn] at q;cases q)];exact q
 ·obtain⟨q1,q2,q3,q4,q5⟩:=I.pin p hp';exact⟨q1,by rw[dA (hp p hp')];exact q2,q3,q4,q5⟩
end
end L2
namespace L3
open PySem PySem.Spec PyProof.Rows L2
def wG(a C:ζ)(dx:Option ζ):Ψ->Prop:=fun h=>∃oe vs,h.get? a=some oe/\oe.cls=.ref C/\oe.dict=dx/\oe.data=.fields vs/\vs[2]?=some .none
def jY(x:ν)(fs:List (ν×Int)):η->ζ->Hp->Prop:=fun K a H=>∃C dx,dG K x C/\H a=some (.ext (wG a C dx))/\uU H dx fs
theorem uU.keep{H H':Hp}{dx:Option ζ}{fs:List (ν×Int)}(h:uU H dx fs)(k:∀b o u,H b=some (.dZ o u)->H' b=some (.dZ o u)):uU H' dx fs:=by
 rcases h with h|⟨d,o,h1,h2⟩
 ·exact .inl h
 ·exact .inr ⟨d,o,h1,k _ _ _ h2⟩
theorem PX{K:η}{H:Hp}{a:ζ}{x:ν}{fs:List (ν×Int)}(h:jY x fs K a H):uS K H a (.gen (jY x fs)):=
 ⟨h,by obtain⟨C,dx,_,e,_⟩:=h;exact⟨_,e,fun _=>nofun,fun _ _=>nofun⟩,fun H1 H2 t f e ⟨C,dx,h1,h2,h3⟩=>⟨C,dx,h1,e.trans h2,h3.keep f⟩⟩
def yy(K:η)(names:List ν)(B:ζ):Prop:=∀x∈names,∀C,dG K x C->∃init,qj K C B init
def Nq(names:List ν)(i:Nat)(tx:uP)(th:ζ->ao)(tr:ao):ao:=fun D τ G=>
 tx (fun τ1 G1 x fs=>x∈names/\∀p G2,eF G1 p (.gen (jY x fs)) G2->th p { nx:=fun _ _=>False,rt:=D.rt } (iX τ1 i (.obj p)) G2) { D with nx:=tr D } τ G
theorem PV{X:Cx}{i:Nat}{cx en:ν}{names:List ν}{body suite rest:List aM}{b₀:aM}{np hpos pos:aN}{tx:uP}{th:ζ->ao}{tr:ao}{B:ζ}(F:Frame X)(T7:yy X.K names B)(hm:X.mg cx=some (.ref B))(hN:X.N.Nodup)(hb:As X body tx)(hh:∀e,jC (X.kX e) (b₀::suite) (th e))(hr:jC X rest tr)
  (hi:X.N[i]?=some en:=by rfl) (hl:X.env.scope.names.lookup en=some .local:=by rfl) (hg:Gl X cx:=by rfl) (hdb:(cx==("__debug__":ν))=false:=by decide):
  jC X (.Try body [.ExceptHandler (some (.Name cx np)) (some en) (b₀::suite) hpos] [] [] pos::rest) (Nq names i tx th tr):=by
 intro pins s σ H D2 I ⟨τ,G,D3,RS,RG,ht,EL⟩;refine i7 (wpAny_Try_except ?_);have EL':pS X.K H G { D3 with nx:=tr D3 } { D2 with nx:=fun σ' H'=>FA X.K tr D2 σ' H' }:=⟨fun τ' σ' G' H' a b c q=>⟨τ',G',D3,a,c,q,EL.step b⟩,EL.bk,EL.ct,EL.rt⟩;refine cS (hb pins s σ H _ _ τ G _ _ I RS RG ht EL' ?exc) (fun fl s1 q=>?fin) (fun e s1 q=>q)
 case fin=>
  cases fl with
  |next=>
   obtain⟨σ',H',I',q⟩:=q;exact gi (hr pins s1 σ' H' D2 I' q)
  |ret u=>exact q
  |brk=>exact q
  |cont=>exact q
 case exc=>
  intro σ1 τ1 H1 s1 G1 ev s' I1 RS1 R1 S1 cxx;obtain⟨e,T,C,dx,H',rfl,os,bare,u,ok,tr',⟨hHe,hHT⟩,hen,⟨he0,hT0⟩,⟨x,C',fs,ec,cn,⟨hxn,kq⟩,dd⟩,R2,S2⟩:=cxx;cases ec;have I':Inv X pins σ1 H' s':=I1.CF (ch:=[]) os u ok bare (fun b z=>absurd z (by simp));have s0:∀{b:ζ},s1.heap.get? b=none->X.s₀.heap.get? b=none:=fun {b} hb=>by
   cases hq:X.s₀.heap.get? b with
   |none=>rfl
   |some o=>
    obtain⟨o',e'⟩:=I1.base.there b o hq (by rw[F.ex];simp);rw[hb] at e';cases e'
  have pne:∀p∈X.pn++pins,p.1≠e/\p.1≠T:=fun p hp=>by
   have q:=(I1.pin p hp).1;refine⟨fun z=>?_,fun z=>?_⟩
   ·rw[z,he0] at q;cases q
   ·rw[z,hT0] at q;cases q
  have eo:=tr'.obj;have To:=tr'.ent;refine PY (base:=X.base) (by rw[I'.ok.frames,F.st]) (by rw[←F.st];exact I'.stack) F.fr tr' I'.bk hen fun h2 L=>?_;rw[←F.st] at L;have I2:=I'.Ad F L.Nj (s0 he0) (s0 hT0) hHe hHT pne (by obtain⟨oe,vs,q1,_,_,q2,_⟩:=eo;exact⟨oe,vs,q1,q2⟩) (by obtain⟨oe,vs,q1,q2,_⟩:=To;exact⟨oe,vs,q1,q2⟩);obtain⟨T2,tr2,hT2⟩:=L.yC;obtain⟨oe,vs,q1,q2,q3,q4,q5,q6⟩:=tr2.obj;obtain⟨oT,ts,r1,r2,r3⟩:=tr2.ent;have Ic:=I2.kX e;obtain⟨init,ec⟩:=T7 x hxn C cn;refine wpAny_handleBy_cons (codeAny_handlers_test (wt (X:=X.kX e) Ic hg hm ?_ hdb)) (by intro q;cases q);obtain⟨nm,qn,N,bs,sn,sub,ab,col,dd',k0,k1,k2,k3,k5,mN,hC,_⟩:=AU Ic.hZ ec.cls;obtain⟨nm',qn',N',bs',sn',sub',ab',col',dd'',k0',k1',k2',k3',k5',mN',hB,_⟩:=AU Ic.hZ ec.base;refine zY hC hB q1 q2 (by decide +kernel) (by simp) ?_;refine codeAny_handlers_suite_as ?_;refine HL tr2 fun h3 kp tr3=>?_;have sT2:X.s₀.heap.get? T2=none:=by
   cases hq:X.s₀.heap.get? T2 with
   |none=>rfl
   |some o=>
    obtain⟨o',e'⟩:=I'.base.there T2 o hq (by rw[F.ex];simp);rw[hT2] at e';cases e'
  have hHT2:H' T2=none:=by
   cases hq:H' T2 with
   |none=>rfl
   |some o=>
    obtain⟨ob,e'⟩:=cM.there (I'.bJ T2 o hq);rw[hT2] at e';cases e'
  have I3:=I2.Ad (h':=h3) F (e:=e) (T:=T2) ⟨fun b o _ hT _ q=>kp b o hT q,fun b o hb q=>⟨o.slots,kp b o (fun z=>by
   obtain⟨_,o',ho',hd⟩:=I2.stack.mem hb;rw[z,r1] at ho';cases ho';exact hd _ r2) q⟩⟩ (s0 he0) sT2 hHe hHT2 (fun p hp=>⟨(pne p hp).1,fun z=>by
   have:=(I'.pin p hp).1;rw[z,hT2] at this;cases this⟩) ⟨oe,vs,q1,q4⟩ ⟨oT,ts,r1,r2⟩
  obtain⟨oe,vs,q1,q2,q3,q4,q5,q6⟩:=tr3.obj;refine Fl (X:=X.kX e) (i:=i) (v:=.ref e) (I3.kX e) hN hi (.inl hl) rfl (fun s4 I4 sb=>?_) (.inr hl);have nl:e≠X.env.locals:=fun z=>by
   obtain⟨m,⟨o,es,ep,ho,hd,_⟩,_⟩:=I3.loc;rw[←z] at ho;rw[show h3.get? e=_ from q1] at ho;cases ho;rw[q4] at hd;cases hd
  have nc:∀y c,X.env.cells.lookup y=some c->c≠e:=fun y c hc z=>by
   obtain⟨v,o,ho,hd⟩:=I3.cell y c hc;rw[z] at ho;rw[show h3.get? e=_ from q1] at ho;cases ho;rw[q4] at hd;cases hd
  obtain⟨a,sb1,sb2⟩:=sb;have q1':s4.heap.get? e=some oe:=(sb1.2 e (fun z=>by
   rcases sb2 with sb2|sb2
   ·exact nl (z.trans sb2)
   ·exact nc _ _ sb2 z.symm)).trans q1
  have I5:=I4.Gk (o:=.ext (wG e C dx)) hHe (s0 he0) ⟨⟨oe,vs,q1',q2,q3,q4,q6⟩,⟨oe,q1'⟩,fun h1 h2 ⟨oe,vs,a,b⟩ k=>⟨oe,vs,k _ a,b⟩⟩ nl nc (fun p hp=>(pne p hp).1);have E2:=S2.ext R1;have RG5:aV X.K (du G1 e (.gen (jY x fs))) (upd H' e (.ext (wG e C dx))):=R2.hX hHe (PX ⟨C,dx,cn,g6,dd.keep (Ext.laid hHe).dZ⟩);have S5:Step H1 G1 (upd H' e (.ext (wG e C dx))) (du G1 e (.gen (jY x fs))):=S2.trans (.hX hHe);have RS5:eB X.K (iX τ1 i (.obj e)) (σ1.set i (some (.ref e))) (upd H' e (.ext (wG e C dx))):=((RS1.ext E2).ext (.laid hHe)).set (by simp[Hv]);refine cS (hh e pins s4 _ _ { nx:=fun _ _=>False,rt:=D2.rt } I5 ⟨_,_,{ nx:=fun _ _=>False,rt:=D3.rt },RS5,RG5,kq e _ (.mk' (R2.free hHe)),⟨fun _ _ _ _ _ _ _ q=>q.elim,fun _ _ _ _ _ _ _ q=>q.elim,fun _ _ _ _ _ _ _ q=>q.elim,fun d v G' H' a b c q=>EL.rt d v G' H' a (S1.trans (S5.trans b)) c q⟩⟩) (fun fl s5 q=>?_) (fun _ _ z=>z.elim);cases fl with
  |ret u=>
   obtain⟨v,σ',H6,I6,rv,qv⟩:=q;obtain⟨m,hn,_⟩:=I6.loc;refine wpAny_nameGoes hl hn (by rw[I.ok.kind];rfl) fun h7 m7 hn7 hs7=>?_;exact⟨v,_,H6,(I6.uncaught I.ok).forget hs7 hn7,rv,qv⟩
  |next=>
   obtain⟨_,_,_,q⟩:=q;exact q.elim
  |brk=>
   obtain⟨_,_,_,q⟩:=q;exact q.elim
  |cont=>
   obtain⟨_,_,_,q⟩:=q;exact q.elim
def DE(names:List ν)(i:Nat)(tx:uP)(th tr:ao):ao:=fun D τ G=>
 tx (fun τ1 G1 x fs=>x∈names/\∀p G2,eF G1 p (.gen (jY x fs)) G2->th { nx:=fun _ _=>False,rt:=D.rt } (iX τ1 i (.obj p)) G2) { D with nx:=tr D } τ G
theorem PU{X:Cx}{i:Nat}{cx en:ν}{names:List ν}{body suite rest:List aM}{b₀:aM}{np hpos pos:aN}{tx:uP}{th tr:ao}{B:ζ}(F:Frame X)(T7:yy X.K names B)(hm:X.mg cx=some (.ref B))(hN:X.N.Nodup)(hb:As X body tx)(hh:∀e,jC (X.kX e) (b₀::suite) th)(hr:jC X rest tr)
  (hi:X.N[i]?=some en:=by rfl) (hl:X.env.scope.names.lookup en=some .local:=by rfl) (hg:Gl X cx:=by rfl) (hdb:(cx==("__debug__":ν))=false:=by decide):
  jC X (.Try body [.ExceptHandler (some (.Name cx np)) (some en) (b₀::suite) hpos] [] [] pos::rest) (DE names i tx th tr):=PV (th:=fun _=>th) F T7 hm hN hb hh hr hi hl hg hdb
end L3
namespace L2
open PySem PySem.Spec PyProof.Rows
open Sem (wp)
structure rZ(s1:Ψ)(e C:ζ)(mA:ν->Option ε)(h:Ψ):Prop where
 keep:∀b o,b≠e->s1.get? b=some o->h.get? b=some o
 inst:h.Inst e C mA
 obj:∃o1 o2,s1.get? e=some o1/\h.get? e=some o2/\o2.cls=o1.cls/\o2.data=o1.data
 fresh:∀o dx,h.get? e=some o->o.dict=some dx->s1.get? dx=none
def putN(mA:ν->Option ε)(p:ν×ε):ν->Option ε:=fun y=>if y=p.1 then some p.2 else mA y
def Au(n:ν)(st:aM):Prop:=∃p1 p2 p3 p4,st=.Assign [.Attribute (.Name "self" p1) n p2] (.Name n p3) p4
section
variable {prog:ag} {w:av} {A:aJ} {E:ε->θ->Prop} {K:η} {C B e:ζ} {names:List ν} {env:dq} {s1:Ψ} {m:ν->Option ε}
theorem rZ.store{mA:ν->Option ε}{ns:List ν}{n:ν}{v:ε}{Q:Unit->θ->Prop}{s:θ}(S:xj K C B names)(hn:n∈names)(X:K.In s.heap)(T:rZ s1 e C mA s.heap)(hw:Within mA ns)(hsz:ns.length≤1000)
  (hq:∀h' tk',rZ s1 e C (putN mA (n,v)) h'->Q () { s with heap:=h',toks:=tk' }):ρ (model prog w) A (setAttr (.ref e) n v) Q E s:=by
 refine PZ S hn X T.inst hw hsz fun h' tk' I' hk hs=>hq h' tk' ⟨fun b o hb q=>?_,I',?_,fun o dx q1 q2=>?_⟩
 ·exact hk b o hb (fun o₀ dx h0 hd z=>by
   have:=T.fresh o₀ dx h0 hd;rw[←z,q] at this;cases this) (T.keep b o hb q)
 ·obtain⟨o1,o2,a1,a2,a3,a4⟩:=T.obj;obtain⟨o3,b1,b2,b3,_⟩:=hs o2 a2;exact⟨o1,o3,a1,b1,b2.trans a3,b3.trans a4⟩
 ·obtain⟨o1,o2,a1,a2,a3,a4⟩:=T.obj;obtain⟨o3,b1,b2,b3,b4,b5,b6⟩:=hs o2 a2;rw[b1] at q1;cases q1;cases hd:o2.dict with
  |some dx0=>
   rw[b5 dx0 hd] at q2;obtain rfl:=aO q2;exact T.fresh o2 _ a2 hd
  |none=>
   rw[b6 hd] at q2;cases q2;cases q3:s1.get? s.heap.objs.size with
   |none=>rfl
   |some o=>
    have cK:s.heap.objs.size≠e:=fun z=>by
     have:=Θ a2;rw[←z] at this;exact absurd this (cE _)
    have:=Θ (T.keep _ _ cK q3);exact absurd this (cE _)
theorem PR{L:ζ}(S:xj K C B names)(hk:env.scope.kind=.function)(hloc:env.locals=L)(hLe:L≠e)(hself:env.kindOf "self" = some .local)(hds:(("self":ν)==("__debug__":ν))=false)(hms:m "self" = some (.ref e))(hns:s1.Ns L m)(uD:∀h:Ψ,(∀b o,b≠e->s1.get? b=some o->h.get? b=some o)->K.In h):
  ∀(nvs:List (ν×ε)) (body:List aM),Paired (fun (p:ν×ε) st=>Au p.1 st/\(p.1==("__debug__":ν))=false) nvs body->(∀p∈nvs,env.kindOf p.1=some .local/\m p.1=some p.2/\p.1∈names) ->
   ∀(mA:ν->Option ε) (ns:List ν) (s:θ) (Q:Flow->θ->Prop),rZ s1 e C mA s.heap->Within mA ns->ns.length+nvs.length≤1000 ->
   (∀h' tk',rZ s1 e C (nvs.foldl putN mA) h'->Q .next { s with heap:=h',toks:=tk' })->ρ (model prog w) A (execs body env) Q E s:=by
 intro nvs
 induction nvs with
 |nil=>
  intro body hp _ mA ns s Q T _ _ hq;cases hp;exact gi (hq s.heap s.toks T)
 |cons p nvs ih=>
  intro body hpr hp mA ns s Q T hw hz hq;cases hpr with
  |@cons _ st0 _ bd hst r=>
   obtain⟨⟨p1,p2,p3,p4,rfl⟩,hdb⟩:=hst;obtain⟨k1,k2,k3⟩:=hp p aa;have hnsH:s.heap.Ns env.locals m:=by
    obtain⟨o,es,ep,ho,rr⟩:=hns;rw[hloc];exact⟨o,es,ep,T.keep _ _ hLe ho,rr⟩
   have e1:ρ (model prog w) A (eval (.Name p.1 p3) env) (fun v s₁=>ρ (model prog w) A (eval (.Name "self" p1) env) (fun ov s₂=>ρ (model prog w) A (setAttr ov p.1 v) (fun _ s3=>ρ (model prog w) A (execs bd env) Q E s3) E s₂) E s₁) E s:=by
    refine i9 (gD hk k1 hnsH k2 ?_) hdb;refine i9 (gD hk hself hnsH hms ?_) hds;refine T.store S k3 (uD _ T.keep) hw (by rw[az] at hz;lia) fun h' tk' T'=>?_;exact ih _ r (fun q hq'=>hp q (Γ _ hq')) (putN mA p) (p.1::ns) { s with heap:=h',toks:=tk' } Q T' (vR p.1 p.2 hw) (by rw[az] at hz ⊢;lia) fun h'' tk'' T''=>hq h'' tk'' T''
   exact i7 (plainObj_wpAny_Assign_Attribute e1 rfl)
end
end L2
namespace L2
open PySem PySem.Spec PyProof.Rows
open Sem (wp)
structure vw(K:η)(C B f:ζ)(fd:aq)(qual:ν)(st:aM)(names:List ν):Prop where
 ex:qj K C B (some (.ref f))
 set:xj K C B names
 fn:dR K "__init__" qual st f fd
 sc:bp ("self" :: names) ("self" :: names) (Ξ st)
 body:Paired (fun n st=>Au n st/\(n==("__debug__":ν))=false) names (fu st)
 loc:∀n∈(("self":ν)::names),(Ξ st).names.lookup n=some .local
 bi:Binds K fd ("self" :: names) []
 kp:bW K (.ref C)=true
 GQ:names.length≤10
 ty:∃o,K.lookup f=some o/\o.cls=.type "function"
structure Od(h h':Ψ)(e d C:ζ)(mA:ν->Option ε):Prop where
 keep:∀b o,h.get? b=some o->h'.get? b=some o
 ME:h.get? e=none
 newD:h.get? d=none
 ne:d≠e
 obj:∃oe t,h'.get? e=some oe/\oe.cls=.ref C/\oe.dict=some d/\oe.data=.fields #[.ref t,.none,.none,.none,.bool false,.none]
 ns:h'.Ns1 d mA
theorem Jt{α β γ:Type}{R:α->β->Prop}:∀{as:List α} {bs:List β} {cs:List γ},Paired R as bs->as.length=cs.length->Paired (fun (p:α×γ) b=>R p.1 b) (as.zip cs) bs
 |_,_,[],.nil,_=>.nil
 |_,_,c::cs,.cons h r,e=>.cons h (Jt r (by simpa using e))
theorem PQ{P:ag}{w:av}{K:η}{C B f:ζ}{fd:aq}{qual:ν}{st:aM}{names:List ν}{A:aJ}{E:ε->θ->Prop}{s:θ}{us:List ε}{Q:ε->θ->Prop}
  (O:vw K C B f fd qual st names) (X:K.In s.heap) (lim:s.heap.NoLimit) (hl:us.length=names.length) (cK:names≠[]) (hdp:A.depth+4<recursionLimit)
  (hq:∀e d h' tk,Od s.heap h' e d C ((names.zip us).foldl putN fun _=>none)->Q (.ref e) { s with heap:=h',toks:=tk }):ρ (model P w) A (call (.ref C) us) Q E s:=by
 obtain⟨nm,qn,N,bs,sn,sub,ab,col,dd,k0,k1,k2,k3,k5,mN,hC,hn,hni,T⟩:=O.ex.own X;obtain⟨oc,od,kV,doc,pm,an,cdv,ct,osl,rfl,lk,g7⟩:=O.fn.ex;obtain⟨h,g,dr,t,os⟩:=s;have hf:=X _ _ lk;have hsz:us.length≤aw:=by rw[hl];exact aD O.GQ (by decide)
 have keepE:∀b o,h.get? b=some o->(gf h C us).get? b=some o:=fun b o q=>ι _ (ι _ q);have XE:K.In (gf h C us):=X.keeps keepE;have limE:(gf h C us).NoLimit:=lim.keeps keepE;have hsE:(gf h C us).objs.size=h.objs.size+2:=by
  unfold gf;rw[dN,dN]
 have heE:(gf h C us).get? (h.objs.size+1)=some { cls:=.ref C,data:=.fields #[.ref h.objs.size,.none,.none,.none,.bool false,.none]}:=by
  unfold gf
  heap_get
 refine Qk (f:=f) oO T hC hn hni hf (by obtain⟨o,e,c⟩:=O.ty;rw[lk] at e;cases e;exact c) ?_ hsz;have hb:=O.bi ⟨gf h C us,g,dr,t,os⟩ (.ref (h.objs.size+1)::us) XE (by simp[hl]);rw[bV] at hb;have hkind:∀y∈(("self":ν)::names).zip (.ref (h.objs.size+1)::us),(Ξ st).names.lookup y.1=some .local∨((Ξ st).names.lookup y.1=some .cell/\((cellsFrom ((gf h C us).objs.size+1) (Ξ st).names []).lookup y.1).isSome=true):=fun⟨n,v⟩ hy=>
  .inl (O.loc n (gj hy).1)
 refine lT (by rw[Xc];lia) (XE _ _ lk) rfl O.sc.co O.sc.gen rfl (oj XE g7) (hb _ _ _ _ ?_);refine jm O.sc.kind hkind fun env he s1 x=>?_;subst he;refine⟨limE.keeps x.toInCall.keep,codeAny_func ?_⟩;have ndP:(("self":ν)::names).Nodup:=O.sc.nd;have hne1:(gf h C us).objs.size≠h.objs.size+1:=by rw[hsE];lia
 have e1:=x.toInCall.keep _ _ heE;have hloc:∀n∈(("self":ν)::names),(envOfC qual (Ξ st) (gf h C us).objs.size f cdv).kindOf n=some .local:=fun n hn=>O.loc n hn;have inst0:s1.heap.Inst (h.objs.size+1) C (fun _=>none):=⟨_,e1,rfl,fun c=>nofun,.inl ⟨rfl,fun _=>rfl⟩⟩;have T0:rZ s1.heap (h.objs.size+1) C (fun _=>none) s1.heap:=⟨fun _ _ _ q=>q,inst0,⟨_,_,e1,e1,rfl,rfl⟩,fun o dx q1 q2=>by
  rw[e1] at q1;cases q1;cases q2⟩
 have hNK:∀b o,K.lookup b=some o->b≠h.objs.size+1:=fun b o q z=>by
  have:=Θ (X _ _ q);rw[z] at this;exact absurd this (by show ¬_<h.objs.size;lia)
 obtain⟨tk,hs1⟩:∃tk,s1=⟨s1.heap,g,dr,tk,os⟩:=by
  obtain⟨h1,tk,q,_⟩:=x.done;exact⟨tk,by rw[q]⟩
 refine PR (L:=(gf h C us).objs.size) (s1:=s1.heap) (e:=h.objs.size+1) (m:=_) O.set O.sc.kind rfl hne1 (hloc "self" aa) (by decide) ?_ x.toInCall.ns (fun h2 k b o q=>k b o (hNK b o q) (x.toInCall.keep _ _ (XE _ _ q))) (names.zip us) (fu st) (Jt O.body hl.symm) (fun p hp=>?_) (fun _=>none) [] s1 _ T0 Within.nil ?_ fun h' tk' T'=>?_
 ·exact Bg (i:=0) ndP rfl rfl (hloc "self" aa)
 ·obtain⟨i,hi,ei⟩:=List.getElem_of_mem hp;have hpm:=gj hp;refine⟨hloc p.1 (Γ _ hpm.1),?_,hpm.1⟩;have hi2:i<names.length:=by rw[mJ] at hi;lia
  have hi3:i<us.length:=by lia
  have ep:p=(names[i],us[i]):=by rw[←ei,List.getElem_zip]
  refine Bg (i:=i+1) ndP ?_ ?_ (hloc p.1 (Γ _ hpm.1))
  ·rw[qI,ep,aE hi2]
  ·rw[qI,ep,aE hi3]
 ·rw[gp,mJ];have:=O.GQ;lia
 ·refine⟨rfl,?_⟩;obtain⟨o1,o2,a1,a2,a3,a4⟩:=T'.obj;rw[e1] at a1;cases a1;obtain⟨oe,b1,b2,b3,b4⟩:=T'.inst;rw[a2] at b1;cases b1;rw[hs1];rcases b4 with⟨_,z⟩|⟨d,c1,c2,c3⟩
  ·exfalso;cases names with
   |nil=>exact cK rfl
   |cons n0 ns0=>
    have key:∀(l:List (ν×ε)) (m0:ν->Option ε) (y:ν),(∃v,m0 y=some v)->∃v,l.foldl putN m0 y=some v:=fun l=>by
     induction l with
     |nil=>exact fun m0 y q=>q
     |cons p l ih=>
      intro m0 y q;refine ih (putN m0 p) y ?_;unfold putN;by_cases z:y=p.1
      ·exact⟨_,if_pos z⟩
      ·rw[if_neg z];exact q
    cases us with
    |nil=>cases hl
    |cons u0 us0=>
     obtain⟨v,hv⟩:=key (ns0.zip us0) (putN (fun _=>none) (n0,u0)) n0 ⟨u0,if_pos rfl⟩;have z0:=z n0;have z1:(ns0.zip us0).foldl putN (putN (fun _=>none) (n0,u0)) n0=none:=z0;rw[hv] at z1;cases z1
  ·have fr:=T'.fresh o2 d a2 c1;refine hq (h.objs.size+1) d h' tk' ⟨fun b o q=>T'.keep b o (fun z=>?_) (x.toInCall.keep _ _ (keepE b o q)),fq (rG _),?_,c2,⟨o2,h.objs.size,a2,b2,c1,a4⟩,c3⟩
   ·have:=Θ q;rw[z] at this;exact absurd (show h.objs.size+1<h.objs.size from this) (by lia)
   ·cases q:h.get? d with
    |none=>rfl
    |some o=>
     rw[x.toInCall.keep _ _ (keepE d o q)] at fr;cases fr
end L2
namespace L2
open PySem PySem.Spec PyProof.Rows PySem.W
open Builtin Builtin.ObjectAttr
structure r0(K:Frag)(C:ζ):Prop where
 ga:findIn K (.ref C) "__getattribute__" = some (some (.builtin "BaseException.__getattribute__"))
 gn:findIn K (.ref C) "__getattr__" = some none
 be:mroIn K C (.type "BaseException")=some true
section
variable {prog:ag} {w:av} {A:aJ} {E:ε->θ->Prop} {K:Frag} {x C:ζ} {ox:aH} {od:Option aH} {name:ν} {s:θ}
theorem PN:builtinKind "BaseException.__getattribute__" = some .slot:=by decide +kernel
theorem PM:splitId "BaseException.__getattribute__" = some ("BaseException","__getattribute__"):=by decide +kernel
theorem PL:plainId "BaseException.__getattribute__" = true:=by decide +kernel
theorem PK(self:ε):bindSpecial (.builtin "BaseException.__getattribute__") self=pure (.builtin "BaseException.__getattribute__",[self]):=by kernel_rfl
theorem Js{tk:Tok}{fill expr:Bool}{f:di.ObjectAttr.Found}{Q:ε->θ->Prop}(a:r0 K C)(X:K.In s.heap)(I:InstAt s.heap x ox C od)(hf:findObj K C od name=some f)
  (h:ρ (model prog w) A.in1 (match f with | .value v=>ret v | .bind g b=>bindTo g b (.ref x) (.ref C) | .missing=>unsupported "") (fun fin s'=>match fin with | .done (.ret v)=>ρ (model prog w) A (handedOut v) Q E s' | _=>False) (fun _ _=>False) s) (hm:f≠.missing):
  ρ (model prog w) A (getAttrBy (.ref x) (.str name tk) fill expr) Q E s:=by
 obtain⟨hh,g,d,t,os⟩:=s;have L0:=I.type (M:=model prog w);have L1:=looks_findIn (M:=model prog w) X a.ga;have L2:=looks_findIn (M:=model prog w) X a.gn;have L3:=looks_find (M:=model prog w) X I hf;have sub:Looks (model prog w) hh (isInstance (.ref x) (.type "BaseException")) true:=I.type.andThen (looks_mroIn X a.be);unfold getAttrBy;refine bK (δ (L0.at (δ (L1.at ?_))));have hx2:(jn "BaseException.__getattribute__" == jn "object.__getattribute__")=false:=by decide +kernel
 show ρ _ _ (if (onTheHeap (aF C)&&jn "BaseException.__getattribute__" == jn "object.__getattribute__")=true then _ else getAttrByItsOwn _ _ _ _ _ _) _ _ _;rw[hx2,if_neg (by simp)];unfold getAttrByItsOwn;refine δ ?_;show ρ _ _ (typeLookup (.ref C) "__getattr__") _ _ _;refine L2.at ?_;refine δ (gv (bK ?_));have hx0:(expr&&onTheHeap (jn "BaseException.__getattribute__"))=false:=by cases expr<;>rfl
 show ρ _ _ (if (expr&&onTheHeap (jn "BaseException.__getattribute__"))=true then _ else boundAndCalled _ _ _) _ _ _;rw[hx0,if_neg (by simp)];unfold boundAndCalled;rw[PK];refine δ (μ (i8 ?_));refine mD PL F.entry_bexc_ga (@check_slot (model prog w) _ _ ⟨hh,g,d,t,os⟩ "BaseException.__getattribute__" "BaseException" "__getattribute__" (.ref x) [.str name tk] [] _ PN PM sub (F.args_bexc_ga (.ref x) (.str name tk)) ?_);unfold di.«object.__getattribute__»;refine δ (μ (δ (μ (δ (L0.at (δ (L3.at ?_)))))));cases f with
 |missing=>exact absurd rfl hm
 |value v=>
  refine cS h (fun fin s' z=>?_) fun _ _ z=>z.elim;rcases fin with (_|_|_|_)|_<;>first|exact z|exact z.elim
 |bind g b=>
  refine cS h (fun fin s' z=>?_) fun _ _ z=>z.elim;rcases fin with (_|_|_|_)|_<;>first|exact z|exact z.elim
theorem exc_value{expr:Bool}{v:ε}{Q:ε->θ->Prop}(a:r0 K C)(X:K.In s.heap)(I:InstAt s.heap x ox C od)(hf:findObj K C od name=some (.value v))(hh:handedIn v=true)(h:Q v { s with toks:=s.toks+1 }):
  ρ (model prog w) A (getAttr (.ref x) name expr) Q E s:=by
 unfold getAttr;refine δ (wpAny_mkText (Js (s:={ s with toks:=s.toks+1 }) a X I hf (μ ?_) (by simp)));show ρ _ _ (handedOut v) _ _ _;rw[handedOut_of hh];exact μ h
theorem PJ{Q:Option ε->θ->Prop}(a:r0 K C)(hc:(clsIn K C).isSome=true)(ha:findIn K (.ref C) "__class__" = some (some (.builtin "object.__class__")))(hn:specialIn K (.builtin "object.__class__") "__get__" = some (some (.builtin "getset_descriptor.__get__")))
  (MP:takesIn K (.builtin "object.__class__")=some true) (hm:mroIn K C (.type "object")=some true) (X:K.In s.heap) (I:InstAt s.heap x ox C od) (h:Q (some (.ref C)) { s with toks:=s.toks+1 }):ρ (model prog w) A (getAttr? (.ref x) "__class__") Q E s:=by
 have hf:findObj K C od "__class__" = some (.bind (.builtin "getset_descriptor.__get__") (.builtin "object.__class__")):=by
  obtain⟨cd,g7⟩:=kc.mp hc;unfold findObj;rw[g7,ja,ha,ja];simp[hn,MP]
 unfold getAttr? getAttrBy?;refine δ (wpAny_mkText (δ (gv ?_)));refine Js (s:={ s with toks:=s.toks+1 }) a X I hf ?_ (by simp);show ρ _ _ (holding [_] (call (.builtin "getset_descriptor.__get__") [.builtin "object.__class__",.ref x,.ref C]) >>= ret) _ _ _;refine δ (bK (i8 (class_get (s:={ s with toks:=s.toks+1 }) (ox:=ox) (od:=od) X I hm ?_)));exact μ (handed_on rfl (μ h))
theorem PH(a:r0 K C)(hc:(clsIn K C).isSome=true)(ha:findIn K (.ref C) "__class__" = some (some (.builtin "object.__class__")))(hn:specialIn K (.builtin "object.__class__") "__get__" = some (some (.builtin "getset_descriptor.__get__")))
  (MP:takesIn K (.builtin "object.__class__")=some true) (hm:mroIn K C (.type "object")=some true):KitX K (.ref x) (.ref C) (fun h=>InstAt h x ox C od):=by
 obtain⟨cd,g7⟩:=kc.mp hc;obtain⟨o,ho,hcl⟩:∃o,K.lookup C=some o/\∃c,o.data=.cls c:=by
  unfold clsIn at g7;split at g7
  ·rename_i q;exact⟨_,q,_,rfl⟩
  ·cases g7
 obtain⟨oc,odd,oda,osl⟩:=o;obtain⟨c,e⟩:=hcl;dsimp only at e;subst e;refine⟨fun _ _ _ I=>I.type,fun _ _ X _=>?_,fun h tp dd its n sl X htp=>?_,fun X I k=>PJ a hc ha hn MP hm X I k⟩
 ·intro A' Q' E' s' k q;unfold isType loadHead;exact δ (wpAny_loadPart (k _ _ (X _ _ ho)) (μ q))
 ·refine Bool.eq_false_iff.mpr fun q=>?_;have e:C=tp:=aF.inj (beq_iff_eq.mp q);subst e;have z:=(X _ _ ho).symm.trans htp;cases z
end
end L2
namespace L3
open PySem PySem.Spec PyProof.Rows L2
structure fU(K:η)(C:ζ):Prop where
 ge:r0 K C
 hd:(jq K C).isSome=true
 ha:bX K (.ref C) "__class__" = some (some (.builtin "object.__class__"))
 hn:vE K (.builtin "object.__class__") "__get__" = some (some (.builtin "getset_descriptor.__get__"))
 ht:xm K (.builtin "object.__class__")=some true
 hm:jo K C (.type "object")=some true
theorem PF{P:ag}{w:av}{K:η}{H:Hp}{h:Ψ}{p:ζ}{x:ν}{fs:List (ν×Int)}(ok:fF P w H h)(e:jY x fs K p H):∃C oe od,dG K x C/\nC h p oe C od:=by
 obtain⟨C,dx,cn,e1,dd⟩:=e;obtain⟨⟨oe,vs,q1,q2,q3,q4,_⟩,_⟩:=(show cM P w H h p (.ext (wG p C dx)) from ok p _ e1);have hn:kx oe=true:=by
  unfold kx;rw[q4]
 rcases dd with⟨rfl,_⟩|⟨d,o,rfl,e2⟩
 ·exact⟨C,oe,none,cn,q1,q2,hn,by rw[q3];trivial⟩
 ·obtain⟨r1,_⟩:=(show cM P w H h d (.dZ o (.xd _)) from ok d _ e2);exact⟨C,oe,some o,cn,q1,q2,hn,by rw[q3];exact r1⟩
theorem PD{P:ag}{w:av}{K:η}{H:Hp}{h:Ψ}{p:ζ}{x:ν}{fs:List (ν×Int)}(ok:fF P w H h)(e:jY x fs K p H)(cK:fs≠[]):
  ∃C oe od mA d,dG K x C/\nC h p oe C (some od)/\h.get? d=some od/\h.Ns1 d mA/\∀f,tD ((fs.map fun p=>(p.1,V.int p.2)).lookup f) (mA f):=by
 obtain⟨C,dx,cn,e1,dd⟩:=e;obtain⟨⟨oe,vs,q1,q2,q3,q4,_⟩,_⟩:=(show cM P w H h p (.ext (wG p C dx)) from ok p _ e1);rcases dd with⟨_,z⟩|⟨d,o,rfl,e2⟩
 ·exact absurd z cK
 ·obtain⟨r1,mA,r2,r3⟩:=(show cM P w H h d (.dZ o (.xd _)) from ok d _ e2);refine⟨C,oe,o,mA,d,cn,⟨q1,q2,?_,by rw[q3];exact r1⟩,r1,r2,r3⟩;unfold kx;rw[q4]
section
variable {X:Cx} {a:υ} {ta:aQ} {pos p p2:aN}
def rB(rs:List ν)(y:ν)(ta:aQ):aQ:=fun τ G Q=>ta τ G fun x G1=>match x with
 |.obj p=>∃z fs,G1 p=some (.gen (jY z fs))/\z∈rs/\Q (.bl (z==y)) G1
 |_=>False
theorem Jr{c:ε}{cv:V}(hc:RelV cv c)(hu:∀c',RelV cv c'->c'=c):ku X (.builtin "isinstance") (fun vs H Q=>∃q z fs b,vs=[.ref q,cv]/\jY z fs X.K q H/\(∀C,dG X.K z C->fU X.K C/\ω X.K (.ref C) c=some b)/\Q (.bl b) H):=by
 intro pins s σ H vs us Q I r h;obtain⟨q,z,fs,b,rfl,hx,hk,qq⟩:=h;obtain⟨u,c',rfl,ru,rc⟩:=vals2 r;cases (show u=aF q from ru);cases hu c' rc;obtain⟨C,oe,od,cn,J⟩:=PF I.bJ hx;obtain⟨K1,K2⟩:=hk C cn;exact dD (PH K1.ge K1.hd K1.ha K1.hn K1.ht K1.hm) I.hZ J K2 (fun z=>nomatch z) fun tk=>⟨.bl b,H,I.tok tk,rfl,qq⟩
theorem PC{rs:List ν}{y:ν}{c:ε}{cv:V}(hk:∀z∈rs,∀C,dG X.K z C->fU X.K C/\ω X.K (.ref C) c=some (z==y)){σ:L2.St}{H:Hp}{Q:VK}(h:low X.K (rB rs y ta) σ H Q):
  C2 (fun vs H Q=>∃q z fs b,vs=[.ref q,cv]/\jY z fs X.K q H/\(∀C,dG X.K z C->fU X.K C/\ω X.K (.ref C) c=some b)/\Q (.bl b) H) (Aw (low X.K ta) (Aw (tC cv) HY)) σ H Q:=by
 obtain⟨τ,G,Q3,RS,RG,h,k⟩:=h;refine⟨τ,G,_,RS,RG,h,fun v H1 d G1 h1 S1 R1 q1=>?_⟩;cases d with
 |obj q=>
  obtain⟨z,fs,e1,hz,q2⟩:=q1;rw[iH h1];exact⟨q,z,fs,_,rfl,(R1 q _ e1).1,fun C cn=>hk z hz C cn,k _ H1 (.bl (z==y)) G1 oH S1 R1 q2⟩
 |_=>exact q1.elim
theorem PB{rs:List ν}{y:ν}{C:ζ}(hk:∀z∈rs,∀D,dG X.K z D->fU X.K D/\ω X.K (.ref D) (.ref C)=some (z==y))(ha:bN X a ta)(hm:X.mg "isinstance" = none)(hmy:X.mg y=some (.ref C))(hgy:Gl X y:=by rfl)(hdy:(y==("__debug__":ν))=false:=by decide)(hg:Gl X "isinstance":=by rfl)(he:notStar a=true:=by rfl):
  bN X (.Call (.Name "isinstance" p) [a,.Name y p2] [] pos) (rB rs y ta):=
 jJ (sI (Jr (c:=.ref C) (cv:=.ref C) rfl fun c' r=>r) hg hm rfl (sJ ha (sJ (Fk (v:=.ref C) hgy hmy rfl hdy) xH (fP rfl)) (fP he)) (he:=fP he) (hpl:=mi rfl)) fun σ H Q h=>PC hk h
def FP(rs:List ν)(ta:aQ):aQ:=fun τ G Q=>ta τ G fun x G1=>match x with
 |.obj p=>∃z fs,G1 p=some (.gen (jY z fs))/\z∈rs/\Q (.bl true) G1
 |_=>False
theorem Pz{rs:List ν}(hk:∀z∈rs,∀D,dG X.K z D->fU X.K D/\ω X.K (.ref D) (.type "ValueError")=some true)(ha:bN X a ta)(hm:X.mg "isinstance" = none)(hmy:X.mg "ValueError" = none)(hgy:Gl X "ValueError":=by rfl)(hg:Gl X "isinstance":=by rfl)(he:notStar a=true:=by rfl):
  bN X (.Call (.Name "isinstance" p) [a,.Name "ValueError" p2] [] pos) (FP rs ta):=
 jJ (sI (Jr (c:=.type "ValueError") (cv:=.ty "ValueError") rfl fun c' r=>r) hg hm rfl (sJ ha (sJ (Mi (v:=.ty "ValueError") hgy hmy rfl rfl (by decide) (by decide)) xH (fP rfl)) (fP he)) (he:=fP he) (hpl:=mi rfl)) fun σ H Q h=>by
  obtain⟨τ,G,Q3,RS,RG,h,k⟩:=h;refine⟨τ,G,_,RS,RG,h,fun v H1 d G1 h1 S1 R1 q1=>?_⟩;cases d with
  |obj q=>
   obtain⟨z,fs,e1,hz,q2⟩:=q1;rw[iH h1];exact⟨q,z,fs,_,rfl,(R1 q _ e1).1,fun C cn=>hk z hz C cn,k _ H1 (.bl true) G1 oH S1 R1 q2⟩
  |_=>exact q1.elim
end
end L3
namespace L3
open PySem PySem.Spec PyProof.Rows L2
theorem D9:∀{bs:List Bool} {its:List ε},bh (bs.map V.bl) its->its=bs.map fj
 |[],_,h=>h.zero
 |b::bs,_,h=>by
  cases h with
  |cons r1 r2=>rw[D9 r2,show _=fj b from r1];rfl
def Ag:V->List V->Hp->VK->Prop:=fun x vs H Q=>∃(l:ζ) (bs:List Bool),x=.ref l/\vs=[.bl true]/\H l=some (.lst (bs.map V.bl))/\Q (.int ((bs.countP id:Nat):Int)) H
def Ae:V->List V->Hp->VK->Prop:=fun x vs H Q=>∃(l:ζ) (bs:List Bool) (j:Nat),x=.ref l/\vs=[.bl true]/\H l=some (.lst (bs.map V.bl))/\bs[j]?=some true/\(∀i,i<j->bs[i]?=some false)/\j<1000/\Q (.int ((j:Nat):Int)) H
def GN:ε->Bool
 |.bool b=>b
 |_=>false
section
variable {X:Cx}
theorem Py:Dy X "list.count" Ag:=by
 intro pins s σ H x vs v us Q I rx rv h;obtain⟨l,bs,rfl,rfl,hH,q⟩:=h;cases rx;obtain⟨u,rfl,ru⟩:=rv.one;cases (show u=fj true from ru);obtain⟨z,its,n,r,hl,e⟩:=I.sR hH;rw[D9 r] at e;refine kv F.slot_list_count ⟨_,e,rfl⟩ F.entry_list_count (F.args_list_count_2 _ _) (SeqAt.list_countAt l (bs.map fj).toArray n none #[] (.bool true) GN) ⟨e,fun y hy=>?_,?_⟩
 ·obtain⟨b,_,rfl⟩:=aT.mp (gH.mpr hy);have:=tH (A:=X.A.in1) (s:=s) b true;cases b<;>exact this
 ·refine⟨.int ((bs.countP id:Nat):Int),H,I.tok _,⟨s.toks,?_⟩,q⟩;have e2:((bs.map fj).toArray.toList).countP GN=bs.countP id:=by
   show (bs.map fj).countP GN=_;rw[List.countP_map];rfl
  rw[e2]
theorem Qh:Dy X "list.index" Ae:=by
 intro pins s σ H x vs v us Q I rx rv h;obtain⟨l,bs,j,rfl,rfl,hH,h1,h2,h3,q⟩:=h;cases rx;obtain⟨u,rfl,ru⟩:=rv.one;cases (show u=fj true from ru);obtain⟨z,its,n,r,hl,e⟩:=I.sR hH;rw[D9 r] at e;have hj:j<bs.length:=(au.mp h1).1;refine kv F.slot_list_index ⟨_,e,rfl⟩ F.entry_list_index (F.args_list_index_2 _ _) (SeqAt.list_indexAt l (bs.map fj).toArray n none #[] (.bool true) GN j (by simpa using hj) (by lia) ?_ fun m hm hmj=>?_) ⟨e,fun y hy=>?_,?_⟩
 ·simp only[tK,List.getElem_map];rw[(au.mp h1).2];rfl
 ·simp only[tK,List.getElem_map];rw[(au.mp (h2 m hmj)).2];rfl
 ·obtain⟨b,_,rfl⟩:=aT.mp (gH.mpr hy);have:=tH (A:=X.A.in1) (s:=s) b true;cases b<;>exact this
 ·exact⟨.int ((j:Nat):Int),H,I.tok _,⟨_,rfl⟩,q⟩
end
section
variable {K:η}
def D8:D->List D->Gp->V3->Prop:=fun x ds G Q=>match x,ds with
 |.obj p,[.bl true]=>∃xs bs,G p=some (.lst xs)/\vp xs=some bs/\Q (.int ((bs.countP id:Nat):Int)) G
 |_,_=>False
def D7:D->List D->Gp->V3->Prop:=fun x ds G Q=>match x,ds with
 |.obj p,[.bl true]=>∃xs bs j,G p=some (.lst xs)/\vp xs=some bs/\bs[j]?=some true/\(∀i,i<j->bs[i]?=some false)/\j<1000/\Q (.int ((j:Nat):Int)) G
 |_,_=>False
theorem Qg:wK K D8 Ag:=fun x vx ds vs G H Q3 Q hx hs RG q k=>by
 unfold D8 at q;split at q
 ·rename_i p;obtain⟨xs,bs,e1,e2,q⟩:=q;obtain⟨ys,e3,hv⟩:=RG p _ e1;obtain⟨v,r,rfl,hv1,hv2⟩:=hs.inv;rw[hv2.i5,wm hv1,iH hx];exact⟨p,bs,rfl,rfl,by rw[e3,EI hv e2],k _ H (.int _) G nW (.refl H G) RG q⟩
 ·exact q.elim
theorem Qf:wK K D7 Ae:=fun x vx ds vs G H Q3 Q hx hs RG q k=>by
 unfold D7 at q;split at q
 ·rename_i p;obtain⟨xs,bs,j,e1,e2,q1,q2,q3,q⟩:=q;obtain⟨ys,e3,hv⟩:=RG p _ e1;obtain⟨v,r,rfl,hv1,hv2⟩:=hs.inv;rw[hv2.i5,wm hv1,iH hx];exact⟨p,bs,j,rfl,rfl,by rw[e3,EI hv e2],q1,q2,q3,k _ H (.int _) G nW (.refl H G) RG q⟩
 ·exact q.elim
end
end L3
namespace L3
open PySem PySem.Spec PyProof.Rows L2
open Sem (wp)
def yJ(x:ν)(names:List ν)(E:E3)(t:dB):ao:=fun _ τ G=>t τ G fun ds _=>∃is:List Int,ds=is.map D.int/\is.length=names.length/\E x (names.zip is)
theorem Jq:∀(names:List ν) (is:List Int) (us:List ε) (m0:ν->Option ε) (fs0:List (ν×V)),bh (is.map V.int) us->names.length=is.length->(names.Nodup)->(∀n∈names,fs0.lookup n=none)->(∀f,tD (fs0.lookup f) (m0 f)) ->
  ∀f,tD ((((names.zip is).map fun p=>(p.1,V.int p.2))++fs0).lookup f) ((names.zip us).foldl putN m0 f)
 |[],[],us,m0,fs0,hv,_,_,_,h=>by
  rw[hv.zero];exact h
 |n::ns,i::is,us,m0,fs0,hv,hl,nd,hn,h=>by
  cases hv with
  |@cons v u vs us2 r1 r2=>
   have hnd:=dP.mp nd;intro f;have key:=Jq ns is us2 (putN m0 (n,u)) (fs0++[(n,V.int i)]) r2 (by simpa using hl) hnd.2 (fun y hy=>by
    rw[fY,hn y (Γ _ hy),cF,qS];have:(y==n)=false:=by
     rw[beq_eq_false_iff_ne];intro z;exact hnd.1 (z▸hy)
    rw[this];rfl) (fun y=>by
    unfold putN;by_cases z:y=n
    ·subst z;rw[if_pos rfl,fY,hn y aa,cF,beq_self_eq_true];exact r1
    ·rw[if_neg z,fY,cF,qS,beq_eq_false_iff_ne.mpr z];have:=h y;cases q:fs0.lookup y with
     |none=>rw[q] at this;exact this
     | some w=>rw[q] at this;exact this) f
   show tD ((((n,V.int i)::(ns.zip is).map fun p=>(p.1,V.int p.2))++fs0).lookup f) ((ns.zip us2).foldl putN (putN m0 (n,u)) f);have e:((((n,V.int i)::(ns.zip is).map fun p=>(p.1,V.int p.2))++fs0).lookup f)=((((ns.zip is).map fun p=>(p.1,V.int p.2))++(fs0++[(n,V.int i)])).lookup f):=by
    rw[qC,cF,fY,fY,fY,cF,qS];by_cases z:f=n
    ·subst z;have hz:((ns.zip is).map fun p=>(p.1,V.int p.2)).lookup f=none:=by
      rw[List.lookup_eq_none_iff];intro p hp;obtain⟨q,hq,rfl⟩:=aT.mp hp;rw[bne_iff_ne];intro z;exact hnd.1 (z▸(gj hq).1)
     rw[beq_self_eq_true,hz,hn f aa];rfl
    ·rw[beq_eq_false_iff_ne.mpr z];cases ((ns.zip is).map fun p=>(p.1,V.int p.2)).lookup f<;>cases fs0.lookup f<;>rfl
   rw[e];exact key
theorem Jp{K:η}{H:Hp}:∀{is:List Int} {vs:List V},aR K H (is.map D.int) vs->vs=is.map V.int
 |[],_,h=>h.i5
 |i::is,_,h=>by
  obtain⟨v,r,rfl,h1,h2⟩:=h.inv;rw[Jp h2,kE h1];rfl
theorem D6{K:η}{C:ζ}{bm:List ε}{init:Option ε}{newId:String}(q:excIn K C bm init newId=true):∃nm qn N bs sn sub ab col dd k0 k1 k2 k3 k5,K.lookup C=some (excClassObj nm qn C N bs bm true sn sub ab col dd k0 k1 k2 k3 k5 newId):=by
 unfold excIn at q;split at q
 ·rename_i dd cd sl ho;split at q
  ·rename_i C' bm' k0 k1 k2 k3 n k5 hm hs;simp only[cR,beq_iff_eq,Bool.not_eq_true'] at q;obtain⟨⟨⟨⟨⟨rfl,rfl⟩,hdel⟩,hdct⟩,rfl⟩,hns⟩:=q;obtain⟨nm,bs,mro,ns,qn,hd,sn,sub,ab,col,del⟩:=cd;dsimp only at hm hdel hdct hns;subst hm hdel hdct;have hsl:sl = #[k0,k1,k2,k3,some (.builtin n),k5]:=by
    obtain⟨l⟩:=sl;simp only at hs;rw[hs]
   subst hsl;exact⟨nm,qn,ns,bs,sn,sub,ab,col,dd,k0,k1,k2,k3,k5,ho⟩
  ·cases q
 ·cases q
theorem Qe{prog:ag}{w:av}{A:aJ}{E:ε->θ->Prop}{s:θ}{env:dq}{nm q:ν}{C N:ζ}{bs bm:List ε}{hdct:Bool}{sn:List ν}{sub:List ε}{ab:Bool}{col:Option Bool}{dd:Option ζ}{k0 k1 k2 k3 k5:Option ε}{newId:String}
  {x:j7 ε} {Q:Flow->θ->Prop} (kn:bm.contains (.type "BaseException")=true) (hh:A.handled=none)
  (h:ρ (model prog w) A x (fun v s₁=>∃e oe t,v=.ref e/\s₁.heap.get? C=some (excClassObj nm q C N bs bm hdct sn sub ab col dd k0 k1 k2 k3 k5 newId)/\s₁.heap.get? e=some oe/\oe.cls=.ref C/\oe.data=.fields #[.ref t,.none,.none,.none,.bool false,.none]/\E (.ref e) s₁) E s):
  ρ (model prog w) A (raiseStmt env (some x) none) Q E s:=by
 have hcB:(aF C::bm).contains (.type "BaseException")=true:=by rw[ou,kn,u9]
 unfold raiseStmt;refine δ (cS h (fun v s₁ h₁=>?_) fun _ _ x=>x);obtain⟨e,oe,t,rfl,hC,he,h1,h2,hE⟩:=h₁;obtain⟨hp,g,d,tk,os⟩:=s₁;obtain⟨oc,od,oda,osl⟩:=oe;dsimp only at h1 h2;subst h1 h2
 repeat (first|with_reducible refine fx he ?_|with_reducible refine fx hC ?_|(with_reducible refine jD hC ?_;rw[hcB])|wp_step)
 exact wpAny_raiseNew_none hh hE
theorem Qd{X:Cx}{E:XK}{E':E3}{x:ν}{C B f:ζ}{fd:aq}{qual:ν}{st:aM}{names:List ν}{k:Nat}{e:υ}{es:List υ}{t:dB}{np cpos pos:aN}(hB:Body X E)(hE:∀cls dx H',kP X.K E' cls dx H'->E cls dx H')(O:vw X.K C B f fd qual st names)(cn:dG X.K x C)(hm:X.mg x=some (.ref C))(hr:dW k X.A)(hc:X.calm=true)(ha:kG X (e::es) t)
  (cK:names≠[]:=by decide) (hg:Gl X x:=by rfl) (hdb:(x==("__debug__":ν))=false:=by decide) (he:notStar e=true:=by rfl) (hpl:es.all notStar=true:=by rfl):
  pk X (.Raise (some (.Call (.Name x np) (e::es) [] cpos)) none pos) (yJ x names E' t):=by
 intro pins s σ H D2 I ⟨τ,G,D3,RS,RG,h,EL⟩;rw[arm_exec_Raise];simp only[evalOpt,xp];refine δ (hU ?_);obtain⟨nm,qn,N,bs,sn,sub,ab,col,dd,k0,k1,k2,k3,k5,lk⟩:=D6 O.ex.cls;refine Qe (C:=C) (nm:=nm) (q:=qn) (N:=N) (bs:=bs) (bm:=.ref B::gM) (hdct:=true) (sn:=sn) (sub:=sub) (ab:=ab) (col:=col) (dd:=dd) (k0:=k0) (k1:=k1) (k2:=k2) (k3:=k3) (k5:=k5) (newId:="ValueError.__new__") (by rw[ou,show gM.contains (.type "BaseException")=true by decide +kernel,u9]) (I.ok.hd hc) ?_;refine δ (bO (Q:=fun v s₁=>∃e oe t,v=.ref e/\s₁.heap.get? C=some (excClassObj nm qn C N bs (.ref B::gM) true sn sub ab col dd k0 k1 k2 k3 k5 "ValueError.__new__")/\s₁.heap.get? e=some oe/\oe.cls=.ref C/\oe.data=.fields #[.ref t,.none,.none,.none,.bool false,.none]/\X.xe (.ref e) s₁) ?_ fun v s2 q=>δ (hU (μ q)));refine eR (wt I hg hm ?_ hdb);refine ik (h₀:=X.base) I.ok.mod.uD O.kp (bO (ha cpos pins s σ H (fun vs H1=>∃is:List Int,vs=is.map V.int/\is.length=names.length/\E' x (names.zip is)) I
  ⟨τ,G,_,RS,RG,h,fun vs H1 ds G1 a b c q=>by obtain⟨is,rfl,hl,q⟩:=q;exact⟨is,Jp a,hl,q⟩⟩) fun us s1 ⟨vs,H1,I1,r,is,ev,hl,q⟩=>⟨I1.hZ,?_⟩) (fP he) (mi hpl)
 subst ev;have hlu:us.length=names.length:=by rw[←r.length,π];exact hl
 refine PQ O I1.hZ I1.nolimit hlu cK (by have:=hr.dp;lia) fun e1 d h' tk M=>?_;obtain⟨oe,t1,o1,o2,o3,o4⟩:=M.obj;obtain⟨od,es1,ep1,n1,nr⟩:=M.ns;have I1k:Inv X pins σ H1 { s1 with heap:=h',toks:=tk }:=I1.kept M.keep;have gone:∀{b:ζ} {o:aH},s1.heap.get? b=some o->b≠d:=fun {b o} hb z=>by
  rw[z,M.newD] at hb;cases hb
 have I2:=I1k.Gk (a:=d) (o:=.dZ od (.xd ((names.zip is).map fun p=>(p.1,V.int p.2)))) (Ed I1 M.newD) (Ec hB I1 M.newD)
  ⟨n1,(names.zip us).foldl putN (fun _=>none),⟨od,es1,ep1,n1,nr⟩,fun f=>by
   have:=Jq names is us (fun _=>none) [] r hl.symm (dP.mp O.sc.nd).2 (fun _ _=>rfl) (fun _=>trivial) f;rw[bV] at this;exact this⟩
  (fun z=>by
   obtain⟨m,⟨o,_,_,ho,_⟩,_⟩:=I1.loc;exact gone ho z.symm)
  (fun y c hcc z=>by
   obtain⟨v,o,ho,_⟩:=I1.cell y c hcc;exact gone ho z)
  (fun p hp=>gone (I1.pin p hp).1)
 refine⟨e1,oe,t1,rfl,I2.hZ _ _ lk,o1,o2,o4,?_⟩;have hne1:e1≠d:=M.ne.symm;refine hB.throw I2 o1 o2 o4 rfl rfl (Ec hB I1 M.ME) (by rw[dA hne1];exact Ed I1 M.ME) (hE _ _ _ ⟨x,C,names.zip is,rfl,cn,q,.inr ⟨d,od,o3,g6⟩⟩)
def vg(x:ν)(E:E3):ao:=fun _ _ _=>E x []
theorem Qc{X:Cx}{E:XK}{E':E3}{x:ν}{C B:ζ}{np cpos pos:aN}(hB:Body X E)(hE:∀cls dx H',kP X.K E' cls dx H'->E cls dx H')(O:qj X.K C B none)(cn:dG X.K x C)(hm:X.mg x=some (.ref C))(hc:X.calm=true)(hg:Gl X x:=by rfl)(hdb:(x==("__debug__":ν))=false:=by decide):
  pk X (.Raise (some (.Call (.Name x np) [] [] cpos)) none pos) (vg x E'):=
 oI (QY (bmB:=gM) (newId:="ValueError.__new__") hB hc oO (fun h K1=>by
  obtain⟨nm,qn,N,bs,sn,sub,ab,col,dd,k0,k1,k2,k3,k5,mN,h1,h2,h3,h4⟩:=O.own K1;exact⟨nm,qn,N,bs,_,true,sn,sub,ab,col,dd,k0,k1,k2,k3,k5,mN,h1,h2,h3,h4⟩) hg hm hdb) fun D σ H ⟨τ,G,D3,RS,RG,h,EL⟩=>hE _ _ _ ⟨x,C,[],rfl,cn,h,.inl ⟨rfl,rfl⟩⟩
end L3
namespace L3
open PySem PySem.Spec PyProof.Rows L2
structure Ow(X:Cx)(e:υ)(t:Ar):Prop where
 of:M5 X e t
structure He(X:Cx)(st:List aM)(t:uP):Prop where
 of:As X st t
section
variable {X:Cx} {k:Nat} {f:ζ} {fd:aq} {ps:List ν} {sp:qh} {sp3:eO} {E':E3} {x:ν} {p pos:aN} {a b e c:υ} {es:List υ} {t:dB} {te:aQ} {tx:Ar} {tax:TAX} {tc:cU} {ta tb tr:uP} {sa sb rest:List aM}
theorem yR(F:uT X.prog X.w X.K X.mg X.base k f fd ps sp)(hr:dW k X.A)(hx:mx (gR X.prog X.w X.base) X (kP X.K E'))(hm:X.mg x=some (.ref f))(hk:bW X.K (.ref f)=true)(hb:Binds X.K fd ps [])(ha:QA X (e::es) t)(hg:Gl X x:=by rfl)
  (hdb:(x==("__debug__":ν))=false:=by decide) (he:notStar e=true:=by rfl) (hpl:es.all notStar=true:=by rfl):QE X (.Call (.Name x p) (e::es) [] pos) (qe sp E' t):=⟨QQ F hr hx hm hk hb ha.of hg hdb he hpl⟩
theorem Jo(F:zT X.prog X.w X.K X.mg X.base k f fd ps sp3)(hr:fD k X.A)(hm:X.mg x=some (.ref f))(hk:bW X.K (.ref f)=true)(hb:Binds X.K fd ps [])(ha:QA X (e::es) t)(hg:Gl X x:=by rfl)
  (hdb:(x==("__debug__":ν))=false:=by decide) (he:notStar e=true:=by rfl) (hpl:es.all notStar=true:=by rfl):QE X (.Call (.Name x p) (e::es) [] pos) (bo sp3 t):=⟨P6 F hr hm hk hb ha.of hg hdb he hpl⟩
theorem Qb(h:Ow X e tx)(hr:He X rest tr)(hs:swapsWith e none pos.line X.env=pure false:=by rfl):He X (.Expr e pos::rest) (yE tx tr):=⟨P5 h.of hr.of hs⟩
theorem Qa:He X [] yD:=⟨P4⟩
theorem P9{i:Nat}{cx en:ν}{names:List ν}{body suite rs:List aM}{b₀:aM}{np hpos:aN}{th tq:ao}{B:ζ}(F:Frame X)(T7:yy X.K names B)(hm:X.mg cx=some (.ref B))(hN:X.N.Nodup)(hb:He X body ta)(hh:∀e,qO (X.kX e) (b₀::suite) th)(hr:qO X rs tq)
  (hi:X.N[i]?=some en:=by rfl) (hl:X.env.scope.names.lookup en=some .local:=by rfl) (hg:Gl X cx:=by rfl) (hdb:(cx==("__debug__":ν))=false:=by decide):
  qO X (.Try body [.ExceptHandler (some (.Name cx np)) (some en) (b₀::suite) hpos] [] [] pos::rs) (DE names i ta th tq):=⟨PU F T7 hm hN hb.of (fun e=>(hh e).of) hr.of hi hl hg hdb⟩
theorem P8{E:XK}{C B:ζ}{qual:ν}{st:aM}{names:List ν}{np cpos:aN}(hB:Body X E)(hE:∀cls dx H',kP X.K E' cls dx H'->E cls dx H')(O:vw X.K C B f fd qual st names)(cn:dG X.K x C)(hm:X.mg x=some (.ref C))(hr:dW k X.A)(hc:X.calm=true)(ha:QA X (e::es) t)
  (cK:names≠[]:=by decide) (hg:Gl X x:=by rfl) (hdb:(x==("__debug__":ν))=false:=by decide) (he:notStar e=true:=by rfl) (hpl:es.all notStar=true:=by rfl):
  QS X (.Raise (some (.Call (.Name x np) (e::es) [] cpos)) none pos) (yJ x names E' t):=⟨Qd hB hE O cn hm hr hc ha.of cK hg hdb he hpl⟩
theorem JX{E:XK}{C B:ζ}{np cpos:aN}(hB:Body X E)(hE:∀cls dx H',kP X.K E' cls dx H'->E cls dx H')(O:qj X.K C B none)(cn:dG X.K x C)(hm:X.mg x=some (.ref C))(hc:X.calm=true)(hg:Gl X x:=by rfl)(hdb:(x==("__debug__":ν))=false:=by decide):
  QS X (.Raise (some (.Call (.Name x np) [] [] cpos)) none pos) (vg x E'):=⟨Qc hB hE O cn hm hc hg hdb⟩
theorem v5{rs:List ν}{y:ν}{C:ζ}{p2:aN}(hk:∀z∈rs,∀D,dG X.K z D->fU X.K D/\ω X.K (.ref D) (.ref C)=some (z==y))(ha:QE X a te)(hm:X.mg "isinstance" = none)(hmy:X.mg y=some (.ref C))(hgy:Gl X y:=by rfl)(hdy:(y==("__debug__":ν))=false:=by decide)(hg:Gl X "isinstance":=by rfl)(he:notStar a=true:=by rfl):
  QE X (.Call (.Name "isinstance" p) [a,.Name y p2] [] pos) (rB rs y te):=⟨PB hk ha.of hm hmy hgy hdy hg he⟩
theorem Pl{rs:List ν}{p2:aN}(hk:∀z∈rs,∀D,dG X.K z D->fU X.K D/\ω X.K (.ref D) (.type "ValueError")=some true)(ha:QE X a te)(hm:X.mg "isinstance" = none)(hmy:X.mg "ValueError" = none)(hgy:Gl X "ValueError":=by rfl)(hg:Gl X "isinstance":=by rfl)(he:notStar a=true:=by rfl):
  QE X (.Call (.Name "isinstance" p) [a,.Name "ValueError" p2] [] pos) (FP rs te):=⟨Pz hk ha.of hm hmy hgy hg he⟩
end
theorem MS{P:ag}{w:av}{K:η}{mg:ν->Option ε}{base:Ψ}{N:List ν}{qual:ν}{scope:eV}{f:ζ}{cd:ε}{A:aJ}{outer:List dq}{s:θ}{H:Hp}{E:XK}:Frame (iJ se P w K mg base N qual scope f cd A outer s H E).mX:=⟨rfl,rfl,rfl⟩
theorem AD{P:ag}{w:av}{K:η}{mg:ν->Option ε}{base:Ψ}{x qual:ν}{st:aM}{f:ζ}{fd:aq}{N ps:List ν}{k:Nat}{sp:qh}(F:dR K x qual st f fd)(S:bp N ps (Ξ st))(hN:ps.length≤N.length)(len:∀ds Q E,sp ds Q E->ds.length=ps.length)(tb:E3->ao)
  (ia:∀(cdv:ε) (A:aJ) (outer:List dq) (s:θ) (H:Hp) (E:XK) (E':E3),dW k (A.deeper (envOfC qual (Ξ st) s.heap.objs.size f cdv))->(∀cls dx H',kP K E' cls dx H'->E cls dx H') ->
   qO (iJ (gR P w base) P w K mg base N qual (Ξ st) f cdv A outer s H E) (fu st) (tb E'))
  (tQ:∀ds Q E,sp ds Q E->tb E (bj Q) (br N ds) iS):uT P w K mg base (k+1) f fd ps sp:=fnX F S hN len tb (fun cdv A outer s H E E' hr hE=>(ia cdv A outer s H E E' hr hE).of) tQ
theorem XJ{P:ag}{w:av}{K:η}{mg:ν->Option ε}{base:Ψ}{x qual:ν}{st:aM}{f:ζ}{fd:aq}{N ps:List ν}{k:Nat}{sp:eO}(F:dR K x qual st f fd)(S:bp N ps (Ξ st))(hN:ps.length≤N.length)(len:∀ds G Q,sp ds G Q->ds.length=ps.length)(tb:ao)
  (ia:∀(cdv:ε) (A:aJ) (outer:List dq) (s:θ) (H:Hp) (E:XK),fD k (A.deeper (envOfC qual (Ξ st) s.heap.objs.size f cdv)) ->
   qO (Dt P w K mg base N qual (Ξ st) f cdv A outer s H E) (fu st) tb)
  (tQ:∀ds G Q,sp ds G Q->tb (bj Q) (br N ds) G):zT P w K mg base (k+1) f fd ps sp:=aaU F S hN len tb (fun cdv A outer s H E hr=>(ia cdv A outer s H E hr).of) tQ
end L3
namespace L3
open PySem PySem.Spec PyProof.Rows L2
structure my(K:η)(C:ζ)(f:ν):Prop where
 ge:r0 K C
 hd:pB K C=true
 nm:bX K (.ref C) f=some none
def yw(rs:List ν)(f:ν)(ta:aQ):aQ:=fun τ G Q=>ta τ G fun x G1=>match x with
 |.obj p=>∃z fs i,G1 p=some (.gen (jY z fs))/\z∈rs/\fs.lookup f=some i/\Q (.int i) G1
 |_=>False
theorem JW(f:ν):∀fs:List (ν×Int),(fs.map fun p=>(p.1,V.int p.2)).lookup f=(fs.lookup f).map V.int
 |[]=>rfl
 |p::fs=>by
  rw[aC,cF,cF,JW f fs];cases f==p.1<;>rfl
theorem Pk{K:η}{C:ζ}{od:aH}{f:ν}{u:ε}(a:my K C f)(hl:sk f od=some (some u)):xn K C (some od) f=some (.value u):=by
 obtain⟨cd,hc,hd⟩:=PySem.W.any_some a.hd;unfold xn PySem.W.ownOf;rw[hc,ja,a.nm,ja];dsimp only[ja];rw[hd,if_pos rfl,hl];rfl
section
variable {X:Cx} {a:υ} {ta:aQ} {pos:aN} {f:ν}
theorem Pj{rs:List ν}(hk:∀z∈rs,∀C,dG X.K z C->my X.K C f)(ha:bN X a ta)(hb:attributeBase a f X.env (eval a X.env)=eval a X.env:=by rfl):bN X (.Attribute a f pos) (yw rs f ta):=by
 intro pins s σ H Q I ⟨τ,G,Q3,RS,RG,h,k⟩;refine Xd hb (bO (ha pins s σ H (fun v H1=>∃p z fs i,v=.ref p/\jY z fs X.K p H1/\z∈rs/\fs.lookup f=some i/\Q (.int i) H1) I ⟨τ,G,_,RS,RG,h,fun v H1 d G1 h1 S1 R1 q1=>?_⟩) fun u s1 ⟨v,H1,I1,rv,p,z,fs,i,ev,ex,hz,hl,q⟩=>?_)
 ·cases d with
  |obj p=>
   obtain⟨z,fs,i,e1,hz,hl,q2⟩:=q1;exact⟨p,z,fs,i,iH h1,(R1 p _ e1).1,hz,hl,k _ H1 (.int i) G1 nW S1 R1 q2⟩
  |_=>exact q1.elim
 ·subst ev;cases (show u=aF p from rv);have cK:fs≠[]:=fun w=>by
   rw[w] at hl;cases hl
  obtain⟨C,oe,od,mA,d,cn,J,wZ,hns,hrel⟩:=PD I1.bJ ex cK;obtain⟨od2,h2,lk⟩:=Xe hns;rw[wZ] at h2;cases h2;have hf:=hrel f;rw[JW,hl] at hf;obtain⟨u,hu,ru⟩:=tD.some_of (v:=V.int i) (o:=mA f) hf;obtain⟨tk,rfl⟩:=(show ∃t,u=oh i t from ru);have A1:=hk z hz C cn;exact exc_value A1.ge I1.hZ J (Pk A1 (by rw[lk,hu])) rfl ⟨.int i,H1,I1.tok _,⟨tk,rfl⟩,q⟩
theorem JV{rs:List ν}(hk:∀z∈rs,∀C,dG X.K z C->my X.K C f)(ha:QE X a ta)(hb:attributeBase a f X.env (eval a X.env)=eval a X.env:=by rfl):QE X (.Attribute a f pos) (yw rs f ta):=⟨Pj hk ha.of hb⟩
end
end L3
namespace L3
open PySem PySem.Spec PyProof.Rows L2
theorem Ph{K:η}{C B:ζ}{init:Option ε}{newId:String}(e:excIn K C (.ref B::gM) init newId=true):∃cd,jq K C=some cd/\cd.mro=.ref C::.ref B::gM/\cd.hasDict=true:=by
 obtain⟨nm,qn,N,bs,sn,sub,ab,col,dd,k0,k1,k2,k3,k5,lk⟩:=D6 e;unfold jq;rw[lk];exact⟨_,rfl,rfl,rfl⟩
theorem JU{K:η}{C:ζ}{bm:List ε}{init:Option ε}{newId:String}(e:excIn K C bm init newId=true):(jq K C).isSome=true:=by
 obtain⟨nm,qn,N,bs,sn,sub,ab,col,dd,k0,k1,k2,k3,k5,lk⟩:=D6 e;unfold jq;rw[lk];rfl
theorem Pg{K:η}{f:ζ}{T:ε}(h:sj K (.ref f)=some T):∃o,K.lookup f=some o/\o.cls=T:=by
 unfold sj at h;cases q:K.lookup f with
 |none=>simp[q] at h
 |some o=>
  simp[q] at h;exact⟨o,rfl,h⟩
def MD:E3:=fun _ _=>False
theorem Gy{X:Cx}:mx (gR X.prog X.w X.base) X (kP X.K MD):=fun _ _ _ _ _ _ _ h=>by
 obtain⟨_,_,_,_,_,_,_,_,_,_,_,_,_,_,_,_,_,_,_,z,_⟩:=h;exact z.elim
theorem qb{us:List ε}(h:us.length=1):∃a,us=[a]:=List.length_eq_one_iff.mp h
theorem iI{us:List ε}(h:us.length=2):∃a b,us=[a,b]:=by
 rcases us with _|⟨a,us⟩
 ·cases h
 ·obtain⟨b,rfl⟩:=qb (us:=us) (Nat.succ.inj h);exact⟨a,b,rfl⟩
theorem zI{us:List ε}(h:us.length=3):∃a b c,us=[a,b,c]:=by
 rcases us with _|⟨a,us⟩
 ·cases h
 ·obtain⟨b,c,rfl⟩:=iI (us:=us) (Nat.succ.inj h);exact⟨a,b,c,rfl⟩
end L3
namespace My
open PySem L2 L3
def xK:qh:=fun ds Q E=>∃(a b:Int),ds=[.int a,.int b]/\(a≤b->Q .aB iS)/\(b<a->E "TooGreat" [("many",a),("most",b)])
def JT(E:E3):ao:=ix (bT (ax uq (ο 0) (ο 1))) (yJ "TooGreat" ["many","most"] E (ξ (ο 0) (ξ (ο 1) (ai)))) (fb)
theorem Pf:∀ds Q E,xK ds Q E->JT E (bj Q) (br ["many","most"] ds) iS:=by
 rintro ds Q E ⟨a,b,rfl,q1,q2⟩;refine⟨fun h=>?_,fun h=>⟨iS,Sub.refl _,q1 ?_⟩⟩
 ·have h':a > b:=of_decide_eq_true h;exact⟨[a,b],rfl,rfl,q2 h'⟩
 ·have h':¬a > b:=of_decide_eq_false h;lia
theorem AS(G:Gp):Sub iS G:=fun _ _ e=>nomatch e
end My
namespace My
open PySem L2 L3
def yF(C c:af):af:=(C.1*c.1,C.2+C.1*c.2)
theorem Pe{C c:af}(hC:0<C.1)(n:Int):cp (C.2+C.1*n) (yF C c)=cp n c:=by
 rw[mQ,cY,cY];show C.1*c.1∣C.2+C.1*n-(C.2+C.1*c.2)↔_;rw[show C.2+C.1*n-(C.2+C.1*c.2)=C.1*(n-c.2) by rw[iw];lia];exact Int.mul_dvd_mul_iff_left (by lia)
end My
namespace My
open PySem L2 L3
end My
namespace My
open PySem L2 L3
def ye(cs:List af):Prop:=∀n:Int,(cs.filter (cp n)).length=1
theorem Pd{c:af}:cp c.2 c=true:=by
 rw[cY,Int.sub_self];exact Int.dvd_zero _
theorem ye.nodup{cs:List af}(h:ye cs):cs.Nodup:=by
 rw[tJ];intro c;have h1:=h c.2;have:cs.count c≤(cs.filter (cp c.2)).length:=by
  rw[←nG];unfold List.count;refine List.countP_mono_left fun x _ hx=>?_;rw[eq_of_beq hx];exact Pd
 lia
theorem Pc{c:af}{os:List af}(hc:0<c.1)(h:ye os)(n:Int):((os.map (yF c)).filter (cp n)).length=if cp n c=true then 1 else 0:=by
 by_cases q:cp n c=true
 ·rw[if_pos q];obtain⟨m,hm⟩:=cY.mp q;rw[List.filter_map,π,←h m];refine congrArg e7 (kT fun y _=>?_);show cp n (yF c y)=cp m y;rw[show n=c.2+c.1*m by lia];exact Pe hc m
 ·rw[if_neg q,fE,rN];intro z hz e;obtain⟨y,_,rfl⟩:=aT.mp hz;refine q (cY.mpr ?_);have d:=cY.mp e;have d1:c.1∣n-(c.2+c.1*y.2):=fA (gB c.1 y.1) d;have:=nR d1 (gB c.1 y.2);rwa [show n-(c.2+c.1*y.2)+c.1*y.2=n-c.2 by lia] at this
theorem Pb{cs:List af}{i:Nat}{c:af}(hi:cs[i]?=some c):cs=cs.take i++c::cs.drop (i+1):=by
 obtain⟨hl,e⟩:=au.mp hi;rw[←e,rM,iP]
theorem Pa{cs os:List af}{i:Nat}{c:af}(hc:0<c.1)(hi:cs[i]?=some c)(ho:ye os)(n:Int):((Gq cs i++os.map (yF c)).filter (cp n)).length=(cs.filter (cp n)).length:=by
 have e:(cs.filter (cp n)).length=((cs.take i).filter (cp n)).length+((if cp n c=true then 1 else 0)+((cs.drop (i+1)).filter (cp n)).length):=by
  conv=>lhs;rw[Pb hi]
  rw[dg,ah];by_cases q:cp n c=true
  ·rw[qJ q,az,if_pos q];lia
  ·rw[qK q,if_neg q];lia
 rw[e,dg,ah,Pc hc ho];unfold Gq;rw[dg,ah];lia
end My
namespace My
open PySem L2 L3
structure Made(cs:List af):Prop where
 v:∀c∈cs,Valid c
 n:∃N:Nat,0<N/\N≤2^(cs.length-1)/\∀c∈cs,c.1.toNat∣N
 once:ye cs
 top:cs=[(1,0)]∨∃M:Int,(∀c∈cs,c.1≤M)/\2≤(cs.filter fun c=>c.1==M).length
theorem Made.perm{cs cs':List af}(h:Made cs)(p:cs.Perm cs'):Made cs':=by
 refine⟨fun c hc=>h.v c (p.mem_iff.mpr hc),?_,fun n=>?_,?_⟩
 ·obtain⟨N,h1,h2,h3⟩:=h.n;exact⟨N,h1,by rw[←p.length_eq];exact h2,fun c hc=>h3 c (p.mem_iff.mpr hc)⟩
 ·rw[←(p.filter _).length_eq];exact h.once n
 ·rcases h.top with e|⟨M,h1,h2⟩
  ·rw[e] at p;exact .inl (List.singleton_perm.mp p).symm
  ·exact .inr ⟨M,fun c hc=>h1 c (p.mem_iff.mpr hc),by rw[←(p.filter _).length_eq];exact h2⟩
theorem O9{k t0:Nat}(h:t0<k){p:Nat->Bool}(hp:∀t,t<k->(p t=true↔t=t0)):((ar k).filter p).length=1:=by
 have e:(ar k).filter p=(ar k).filter (· == t0):=kT fun t ht=>by
  rw[mQ,hp t (bE.mp ht),beq_iff_eq]
 rw[e,←nG];show (ar k).count t0=1;have h1:0<(ar k).count t0:=List.count_pos_iff.mpr (bE.mpr h);have h2:=tJ.mp (List.nodup_range (n:=k)) t0;lia
theorem O8{k:Nat}(hk:0<k):ye (parts (1,0) k):=fun n=>by
 unfold parts;rw[List.filter_map,π];have k0:(0:Int)<(k:Int):=by lia
 have m0:=cC n (show (k:Int)≠0 by lia);have m1:=cg n k0;refine O9 (t0:=(n%(k:Int)).toNat) (by lia) fun t ht=>?_;show ((n-(0+1*(t:Int)))%(1*(k:Int))==0)=true↔_;rw[mO,nQ,nQ,beq_iff_eq,←dQ,pH (show (0:Int)≤(t:Int) by lia) (by lia)];lia
theorem O7(c:af)(k:Nat):(parts (1,0) k).map (yF c)=parts c k:=by
 unfold parts;rw[cy];refine cT fun t _=>?_;show (c.1*(1*(k:Int)),c.2+c.1*(0+1*(t:Int)))=_;rw[nQ,nQ,mO]
theorem Made.split{cs:List af}{i k:Nat}{c:af}(h:Made cs)(hi:cs[i]?=some c)(k2:2≤k):Made (cs.eraseIdx i++parts c k):=by
 have hm:=bF hi;have vc:=h.v c hm;have il:i<cs.length:=(au.mp hi).1;have le:(cs.eraseIdx i).length=cs.length-1:=oQ il;refine⟨fun z hz=>?_,?_,fun n=>?_,.inr ?_⟩
 ·rcases cA.mp hz with z1|z1
  ·exact h.v z (dz z1)
  ·exact (Ef vc z1).1
 ·obtain⟨N,h1,h2,h3⟩:=h.n;refine⟨N*k,jv h1 (by lia),?_,fun z hz=>?_⟩
  ·rw[ah,le,Bi,show cs.length-1+k-1=(cs.length-1)+(k-1) by lia,Nat.pow_add];have:k-1<2^(k-1):=Nat.lt_two_pow_self;exact nF h2 (by lia)
  ·rcases cA.mp hz with z1|z1
   ·exact oP (h3 z (dz z1)) (pD _ _)
   ·rw[(Ef vc z1).2,Int.toNat_mul (by have:=vc.1;lia) (by lia),bY];exact Nat.mul_dvd_mul_right (h3 c hm) k
 ·rw[g8,←O7];have:=Pa vc.1 hi (O8 (show 0<k by lia)) n;rw[h.once n] at this;exact this
 ·have pe:∀z∈parts c k,z.1=c.1*(k:Int):=fun z hz=>(Ef vc hz).2;have gt:c.1<c.1*(k:Int):=by
   have h0:=vc.1;have:c.1*2≤c.1*(k:Int):=fC (by lia) (by lia);lia
  have pl:((parts c k).filter fun z=>z.1==c.1*(k:Int)).length=k:=by
   rw[m5.mpr fun z hz=>by rw[pe z hz];exact beq_self_eq_true _,Bi]
  rcases h.top with e|⟨M,h1,h2⟩
  ·rw[e] at hi il;have i0:i=0:=by simpa using il
   rw[e,i0];refine⟨c.1*(k:Int),fun z hz=>?_,?_⟩
   ·have hz:z∈parts c k:=by simpa using hz
    rw[pe z hz];exact Int.le_refl _
   ·show 2≤((parts c k).filter fun z=>z.1==c.1*(k:Int)).length;lia
  ·rcases Int.le_total M (c.1*(k:Int)) with w|w
   ·refine⟨c.1*(k:Int),fun z hz=>?_,?_⟩
    ·rcases cA.mp hz with z1|z1
     ·exact kj (h1 z (dz z1)) w
     ·rw[pe z z1];exact Int.le_refl _
    ·rw[dg,ah,pl];lia
   ·refine⟨M,fun z hz=>?_,?_⟩
    ·rcases cA.mp hz with z1|z1
     ·exact h1 z (dz z1)
     ·rw[pe z z1];exact w
    ·rw[dg,ah];have cK:(c.1==M)=false:=by
      rw[beq_eq_false_iff_ne];lia
     have:((cs.eraseIdx i).filter fun z=>z.1==M).length=(cs.filter fun z=>z.1==M).length:=by
      have e1:cs=cs.take i++c::cs.drop (i+1):=by
       rw[←(au.mp hi).2,←jP il,iP]
      conv=>rhs;rw[e1]
      rw[g8,dg,dg,eQ,cK];rfl
     lia
theorem Made.le{cs:List af}{c:af}{j:Nat}(h:Made cs)(hl:cs.length≤j+1)(hc:c∈cs):c.1≤((2^j:Nat):Int):=by
 obtain⟨N,h1,h2,h3⟩:=h.n;have:=lE h1 (h3 c hc);have h4:2^(cs.length-1)≤2^j:=cH (by decide) (by lia);have h0:=(h.v c hc).1;lia
theorem O6:Made [(1,0)]:=by
 refine⟨fun c hc=>?_,⟨1,by decide,by decide,fun c hc=>?_⟩,fun n=>?_,.inl rfl⟩
 ·simp at hc;subst hc;exact⟨by decide,by decide,by decide⟩
 ·simp at hc;subst hc;exact Nat.dvd_refl 1
 ·have:cp n (1,0)=true:=by
   show ((n-0)%1==0)=true;rw[Int.emod_one];rfl
  rw[eQ,if_pos this];rfl
def yQ:eO:=fun ds G Q=>∃(p:ζ) (l m:Int),ds=[.obj p,.int l,.int m]/\G p=some .mW/\(l≤m/\1≤m/\m≤8)/\∀q cs G',Made cs->uQ cs->l≤(cs.length:Int)->(cs.length:Int)≤m->1≤cs.length->eF G q (.lst (cs.map cD)) G'->Q (.obj q) G'
abbrev JS:=Sw
def rD(G:Gp)(p:ζ)(l m:Int)(k:Nat):S3->Gp->Prop:=fun τ' G'=>∃m',m' < k/\∃q cs x4 x5 x6,τ'=[some (.obj p),some (.int l),some (.int m),some (.obj q),x4,x5,x6]/\eF G q (.lst (cs.map cD)) G'/\Made cs/\1≤cs.length/\(cs.length:Int)≤m/\(m':Int)+cs.length=m
theorem O5{G G1:Gp}{D3:g0}{p:ζ}{l m:Int}{q1:ζ}{cs:List af}{x5 x6:Option D}{k:Nat}{k1:Int}(hp:G p=some .mW)(hm:m≤8)
  (n1:eF G q1 (.lst (cs.map cD)) G1) (ok:Made cs) (l1:1≤cs.length) (l2:(cs.length:Int)<m) (hk:(k:Int)+cs.length=m) (h1:2≤k1) (h2:k1≤5) (h3:(cs.length:Int)-1+k1≤m)
  (MQ:D3.nx=rD G p l m k):Kf D3 [some (.obj p),some (.int l),some (.int m),some (.obj q1),some (.int k1),x5,x6] G1:=by
 have hp1:=n1.sub p _ hp;have e1:=n1.at_;refine⟨⟨q1,_,rfl,e1⟩,_,e1,p,_,rfl,hp1,⟨by rw[π];lia,eJ (by rw[π];lia) (by rw[π];lia)⟩,fun r a b=>?_⟩;rw[π] at b;obtain⟨c,ec,hc,_⟩:=EA cD a b;obtain⟨s,r'⟩:=c;refine⟨_,r.toNat,cD (s,r'),e1,⟨by lia,by lia⟩,by rw[π];exact Kh a b,by rw[aK,ec];rfl,rfl,?_⟩;rw[Ex];have n2:eF G q1 (.lst ((cs.eraseIdx r.toNat).map cD)) (du G1 q1 (.lst ((cs.eraseIdx r.toNat).map cD))):=wrote n1;generalize du G1 q1 (.lst ((cs.eraseIdx r.toNat).map cD))=G2 at n2;have hv:=ok.v _ hc;have hs:s≤((2^6:Nat):Int):=ok.le (j:=6) (by lia) hc;have hs:s≤64:=hs;have hv1:0<s:=hv.1;have hlen:(cs.eraseIdx r.toNat).length=cs.length-1:=oQ (by lia);have hmul:s*k1≤320:=by
  have h4:s*k1≤64*k1:=mP hs (by lia);lia
 refine⟨⟨eJ (by lia) (by lia),eJ (by lia) (by lia)⟩,fun hg=>?_,fun hg=>?_⟩
 ·have hg':1000<s*k1:=of_decide_eq_true hg;lia
 ·refine⟨⟨by lia,by lia⟩,?_,?_⟩
  ·show (kM 0 k1.toNat).length≤aw;rw[xF];exact eA (by lia)
  refine rf (fun τ=>∃x,τ=[x,some (.int s),some (.int k1),some (.int r')]) (fun i:Nat=>D.int (0+(i:Int))) (fun _=>true) (fun i:Nat=>cD (s*k1,r'+s*(0+(i:Int)))) trivial (ar k1.toNat) [] _ ⟨none,rfl⟩ ?_ ?_
  ·rintro i hi τ K1 K2 ⟨x,rfl⟩ g1 g2;have hi':(i:Int)<k1:=by have:=bE.mp hi;lia
   have b1:ie s:=eJ (by lia) (by lia);refine⟨fun _=>⟨⟨b1,eJ (by lia) (by lia)⟩,⟨b1,eJ (by lia) (by lia)⟩,?_⟩,nofun⟩;exact g1 rfl _ ⟨_,rfl⟩
  ·intro q3 G3 n3;rw[eG,m5.mpr (fun _ _=>rfl)] at n3;have em:((ar k1.toNat).map fun i:Nat=>cD (s*k1,r'+s*(0+(i:Int))))=(parts (s,r') k1.toNat).map cD:=by
    unfold parts;rw[cy];refine cT fun i _=>?_;show cD (s*k1,r'+s*(0+(i:Int)))=cD (s*((k1.toNat:Nat):Int),r'+s*(i:Int));rw[mO,bS (by lia)]
   rw[em] at n3;refine⟨_,_,n3.sub _ _ n2.at_,n3.at_,?_,fun q4 G4 n4=>?_⟩
   ·rw[π,π,Bi,hlen];exact eA (by lia)
   rw[←cO] at n4;show D3.nx _ G4;rw[MQ];have s3:=n2.sub.trans n3.sub;have hl':((cs.eraseIdx r.toNat)++parts (s,r') k1.toNat).length=cs.length-1+k1.toNat:=by
    rw[ah,hlen,Bi]
   exact⟨(m-((cs.length:Int)-1+k1)).toNat,by lia,q4,_,_,_,_,rfl,⟨s3.of_none n4.aB,s3.trans n4.sub,n4.at_⟩,ok.split ec (by lia),by lia,by lia,by lia⟩
theorem O4:∀ds G Q,yQ ds G Q->JS (bj Q) (br ["pen","least","most","clocks","k","step","rest"] ds) G:=by
 rintro ds G Q ⟨p,l,m,rfl,hp,hm,q⟩;intro q0 G0 n0;refine⟨fun k τ G'=>∃q cs x4 x5 x6,τ=[some (.obj p),some (.int l),some (.int m),some (.obj q),x4,x5,x6]/\eF G q (.lst (cs.map cD)) G'/\Made cs/\1≤cs.length/\(cs.length:Int)≤m/\(k:Int)+cs.length=m,⟨(m-1).toNat,q0,[(1,0)],_,_,_,rfl,n0,O6,by decide,by simp;lia,by simp;lia⟩,?_⟩;rintro k τ G1 ⟨q1,cs,x4,x5,x6,rfl,n1,ok,l1,l2,hk⟩;have hp1:=n1.sub p _ hp;have e1:=n1.at_;have stop:l≤(cs.length:Int)->Ew (bj Q) [some (.obj p),some (.int l),some (.int m),some (.obj q1),x4,x5,x6] G1:=fun hl=>by
  refine⟨_,Ki n1.at_,by rw[π];lia,Kj,fun p2 mss G2 hp2 hpm hr=>?_⟩;obtain⟨cs',rfl,_⟩:=SD hpm;rw[Ez] at hp2;have hp':cs'.Perm cs:=by
   have back:∀us:List af,(us.map eX).map (fun l=>((l.getD 0 0,l.getD 1 0):af))=us:=fun us=>by
    rw[cy];exact List.map_id _
   have:=hpm.map (fun l:List Int=>((l.getD 0 0,l.getD 1 0):af));rwa [back,back] at this
  exact fN (q p2 cs' _ (ok.perm hp'.symm) (Kk hr (gy.mpr ((ok.perm hp'.symm).once.nodup.imp fun h e=>h (yU e)))) (by rw[hp'.length_eq];exact hl) (by rw[hp'.length_eq];exact l2) (by rw[hp'.length_eq];exact l1) ⟨n1.sub.of_none hp2.aB,n1.sub.trans hp2.sub,hp2.at_⟩)
 have go:(cs.length:Int)<m->Ke { bj Q with nx:=rD G p l m k,ct:=rD G p l m k,bk:=Ew (bj Q)} [some (.obj p),some (.int l),some (.int m),some (.obj q1),x4,x5,x6] G1:=by
  intro hlt;refine⟨p,6,rfl,hp1,⟨by decide,eJ (by decide) (by decide)⟩,fun r h1 h2=>?_⟩;obtain⟨k0,hk0,ek⟩:=Kl (ns:=[2,2,3,2,3,5]) h1 h2;refine⟨.int k0,ek,_,e1,?_⟩;have hk2:2≤k0/\k0≤5:=by simp at hk0;lia
  refine O5 hp (by lia) n1 ok l1 hlt hk ?_ ?_ ?_ rfl
  ·rw[π];split<;>split<;>lia
  ·rw[π];split<;>split<;>lia
  ·rw[π];split<;>split<;>lia
 have hll:((cs.map cD).length:Int)=(cs.length:Int):=by rw[π]
 refine⟨_,e1,fun h=>⟨fun _=>go ?_,nofun⟩,fun h=>⟨p,4,rfl,hp1,⟨by decide,eJ (by decide) (by decide)⟩,fun r a b=>⟨fun h2=>⟨_,e1,fun h3=>go ?_,fun h3=>stop ?_⟩,fun h2=>⟨nofun,fun _=>stop ?_⟩⟩⟩⟩
 ·have h':((cs.map cD).length:Int)<l:=of_decide_eq_true h;lia
 ·have h':((cs.map cD).length:Int)<m:=of_decide_eq_true h3;lia
 ·have h':¬((cs.map cD).length:Int)<l:=of_decide_eq_false h;lia
 ·have h':¬((cs.map cD).length:Int)<l:=of_decide_eq_false h;lia
def Small(cs:List af):Prop:=(∀c∈cs,c.1≤12)∨∃N:Nat,0<N/\N≤1000/\∀c∈cs,c.1.toNat∣N
theorem Small.sub{cs cs':List af}(h:Small cs)(hs:∀c∈cs',c∈cs):Small cs':=by
 rcases h with h|⟨N,h1,h2,h3⟩
 ·exact .inl fun c hc=>h c (hs c hc)
 ·exact .inr ⟨N,h1,h2,fun c hc=>h3 c (hs c hc)⟩
def Hz(cs:List af):Prop:=CV 1000 cs/\Small cs/\∀c∈cs,c.1≤64
def yP:eO:=fun ds G Q=>∃(p:ζ),ds=[.obj p,.int 8]/\G p=some .mW/\∀cs,Hz cs->cs.length≤8->uQ cs->Q (ff cs) G
def O3:ao:=aY (ix (bT (ax (eI false) (ο 2) (eC (.int 0)))) (bt (i6 ["turn"] [0] (nJ (ξ (bo mT (ξ (ο 0) (ξ (ax dI (ο 1) (eC (.int 1))) (ai)))) (ai))) (hName 0) (iW) (bo xN (ξ (ο 1) (ξ (eC (.int 12)) (ai))))) (hName 3)) (ix (bT (ax (eI false) (ο 2) (eC (.int 1)))) (aY (bt (gP (ξ (eC (.int 2)) (ξ (eC (.int 3)) (ξ (eC (.int 4)) (ξ (eC (.int 6)) (ξ (eC (.int 8)) (ξ (eC (.int 12)) (ξ (eC (.int 24)) (ai))))))))) (hName 4)) Sr) (aY (bt (bo yQ (ξ (ο 0) (ξ (eC (.int 1)) (ξ (eN xE (ξ (eC (.int 1)) (ξ (ax jH (ο 1) (eC (.int 1))) (ai)))) (ai))))) (hName 3)) Tf))) Eu
def JR:ao:=aY (bt (bo mT (ξ (ο 0) (ξ (eC (.int 5)) (ai)))) (hName 2)) O3
theorem AR{G G1:Gp}{Q:V3}{p:ζ}{q1:ζ}{cs:List af}{x2 x4 x5 x6:Option D}(q:∀cs,Hz cs->cs.length≤8->uQ cs->Q (ff cs) G)
  (n1:eF G q1 (.lst (cs.map cD)) G1) (ok:Hz cs) (hl:cs.length≤60):Eu (bj Q) [some (.obj p),some (.int 8),x2,some (.obj q1),x4,x5,x6] G1:=by
 refine⟨_,Ki n1.at_,by rw[π];exact hl,Kj,fun p1 mss G2 hp1 hmem nd hr hlen=>?_⟩;obtain⟨cs',rfl,hmem,hr,hlen⟩:=SH hmem nd hr hlen;rw[Ez] at hp1;refine⟨_,hp1.at_,?_⟩;show (bj Q).rt (.tup (mq (cs'.map cD) none (some ((8:Nat):Int)))) G2;rw[EB,Km];have sb:∀c∈cs'.take 8,c∈cs:=fun c hc=>(hmem c).mp (mI hc);refine rh (n1.sub.trans hp1.sub) (q _ ⟨fun c hc=>ok.1 c (sb c hc),ok.2.1.sub sb,fun c hc=>ok.2.2 c (sb c hc)⟩ ?_ (hr.take 8));rw[eP];lia
theorem O1:∀ds G Q,yP ds G Q->JR (bj Q) (br ["pen","most","way","found","steps","turn","step"] ds) G:=by
 rintro ds G Q ⟨p,rfl,hp,q⟩;refine⟨p,5,rfl,hp,⟨by decide,eJ (by decide) (by decide)⟩,fun way w1 w2=>?_⟩;refine⟨_,_,rfl,rfl,aI _,fun _=>?_,fun _=>⟨_,_,rfl,rfl,aI _,fun _=>?_,fun _=>?_⟩⟩
 ·refine⟨p,_,rfl,hp,⟨by lia,eJ (by lia) (by lia)⟩,fun n h1 h2=>⟨⟨by lia,by lia⟩,?_,?_⟩⟩
  ·show (kM 0 n.toNat).length≤aw;rw[xF];exact eA (by lia)
  refine Bj (fun ds acc τ G'=>(∃cs:List af,acc=cs.map cD/\(∀c∈cs,Valid c/\c.1≤12)/\cs.length+ds.length≤50)/\G'=G/\∃x,τ=[x,some (.obj p)]) (fun _ _ _ _ _=>trivial) ?_ ?_ _ _ _ _ ⟨⟨[],rfl,(fun c hc=>nomatch hc),?_⟩,rfl,none,rfl⟩
  ·rintro d ds acc τ G' K1 K2 ⟨⟨cs,rfl,ok,hl⟩,rfl,x,rfl⟩ g1 g2;refine⟨fun _=>⟨p,12,rfl,hp,⟨by decide,by decide⟩,fun c hv hc=>?_⟩,nofun⟩;refine g1 _ _ _ ⟨⟨cs++[c],by simp,fun c' hc'=>?_,?_⟩,rfl,_,rfl⟩
   ·rcases cA.mp hc' with z|z
    ·exact ok c' z
    ·have:c'=c:=by simpa using z
     rw[this];exact⟨hv,hc⟩
   ·rw[ah,gk];simp only[az] at hl;lia
  ·rintro acc τ G' ⟨⟨cs,rfl,ok,hl⟩,rfl,x,rfl⟩;intro q1 G1 n1;exact AR q n1 ⟨fun c hc=>⟨(ok c hc).1,by have:=(ok c hc).2;lia⟩,.inl fun c hc=>(ok c hc).2,fun c hc=>by have:=(ok c hc).2;lia⟩ (by simp at hl;lia)
  ·show ([]:List af).length+(kM 0 n.toNat).length≤50;rw[xF];simp;lia
 ·intro st G0 hst q1 G1 n1;have hp1:=n1.sub _ _ (hst.sub _ _ hp);refine⟨p,_,rfl,hp1,⟨by lia,eJ (by lia) (by lia)⟩,fun n h1 h2=>⟨⟨by lia,by lia⟩,?_⟩⟩;refine p9 (fun ds τ G'=>∃(cs:List af) (x5 x6:Option D),τ=[some (.obj p),some (.int 8),some (.int way),some (.obj q1),some (.obj st),x5,x6]/\eF G q1 (.lst (cs.map cD)) G'/\G' st=some (.lst (([2,3,4,6,8,12,24]:List Int).map D.int))/\(∀c∈cs,Valid c/\c.1∣24)/\cs.length+ds.length≤50) (fun _ _ _ _=>trivial) ?_ ?_ _ _ _ ?_
  ·rintro d ds τ G2 N ⟨cs,x5,x6,rfl,n2,e3,ok,hl⟩ hN;have hp2:=n2.sub p _ hp;have e2:=n2.at_;refine⟨p,7,rfl,hp2,⟨by decide,eJ (by decide) (by decide)⟩,fun r a b=>?_⟩;obtain⟨stp,hm',es⟩:=Kl (ns:=[2,3,4,6,8,12,24]) a b;have hs:(2≤stp/\stp≤24)/\stp∣24:=by
    simp at hm';rcases hm' with rfl|rfl|rfl|rfl|rfl|rfl|rfl<;>decide
   refine⟨_,.int stp,e3,es,⟨q1,_,rfl,e2⟩,p,stp,rfl,hp2,⟨by lia,eJ (by lia) (by lia)⟩,fun r2 h3 h4=>?_⟩;simp only[az] at hl;refine⟨_,e2,by rw[π];exact iq (show cs.length≤50 by lia) (by decide),?_⟩;have cK:st≠q1:=fun z=>by
    rw[z,e2] at e3;cases cs with
    |nil=>simp at e3
    |cons c cs=>simp[cD] at e3
   refine hN _ _ ⟨cs++[(stp,r2)],_,_,rfl,⟨n2.aB,Sub.yA n2.sub n2.aB,?_⟩,?_,fun c hc=>?_,?_⟩
   ·rw[o9,cO];rfl
   ·rw[oZ cK];exact e3
   ·rcases cA.mp hc with hc|hc
    ·exact ok c hc
    ·have:c=(stp,r2):=by simpa using hc
     subst this;exact⟨⟨by show 0<stp;lia,h3,h4⟩,hs.2⟩
   ·rw[ah,gk];lia
  ·rintro τ G2 ⟨cs,x5,x6,rfl,n2,e3,ok,hl⟩;refine AR q n2 ⟨fun c hc=>⟨(ok c hc).1,?_⟩,.inr ⟨24,by decide,by decide,fun c hc=>?_⟩,fun c hc=>by have:=Int.le_of_dvd (by decide) (ok c hc).2;lia⟩ (by simp at hl;lia)
   ·have:=Int.le_of_dvd (by decide) (ok c hc).2;lia
   ·have h0:=(ok c hc).1.1;refine cW.mp ?_;rw[bS (by lia)];exact (ok c hc).2
  ·refine⟨[],_,_,rfl,⟨hst.sub.of_none n1.aB,hst.sub.trans n1.sub,n1.at_⟩,n1.sub _ _ hst.at_,(fun c hc=>nomatch hc),?_⟩;show ([]:List af).length+(kM 0 n.toNat).length≤50;rw[xF];simp;lia
 ·refine⟨p,1,_,rfl,hp,⟨by decide,by decide,by decide⟩,fun q1 cs G1 ok _ _ l2 l1 n1=>?_⟩;have l2:(cs.length:Int)≤7:=l2;have l3:cs.length≤7:=by lia
  have hp1:=n1.sub _ _ hp;obtain⟨N,N1,N2,N3⟩:=ok.n;have N64:N≤64:=aD N2 (aD (cH (by decide) (show cs.length-1≤6 by lia)) (by decide));have c64:∀c∈cs,c.1≤64:=fun c hc=>by
   have:c.1≤((2^6:Nat):Int):=ok.le (j:=6) (by lia) hc;exact this
  have cl:∀c∈cs,Valid c/\c.1≤1000:=fun c hc=>⟨ok.v c hc,by
   have:=c64 c hc;lia⟩
  have pop:∀{q1:ζ} {cs:List af} {G1:Gp},Hz cs->1≤cs.length->cs.length≤51->eF G q1 (.lst (cs.map cD)) G1->Kd { bj Q with nx:=Eu (bj Q)} [some (.obj p),some (.int 8),some (.int way),some (.obj q1),none,none,none] G1:=by
   intro q1 cs G1 ok l1 l3 n1;refine⟨_,_,rfl,rfl,aI _,fun _=>?_,fun _=>AR q n1 ok (by lia)⟩;have e1:=n1.at_;refine⟨⟨q1,_,rfl,e1⟩,_,e1,p,_,rfl,n1.sub _ _ hp,⟨by rw[π];lia,eJ (by rw[π];lia) (by rw[π];lia)⟩,fun r a b=>?_⟩;rw[π] at b;obtain⟨c,ec,hc,_⟩:=EA cD a b;refine⟨_,r.toNat,cD c,e1,⟨by lia,by lia⟩,by rw[π];exact Kh a b,by rw[aK,ec];rfl,?_⟩;rw[Ex];exact AR q (wrote n1) ⟨fun c hc=>ok.1 c (dz hc),ok.2.1.sub fun c hc=>dz hc,fun c hc=>ok.2.2 c (dz hc)⟩ (aD (Fh cs _) (by lia))
  refine⟨_,_,rfl,rfl,aI _,fun _=>?_,fun _=>pop ⟨cl,.inr ⟨N,N1,by lia,N3⟩,c64⟩ l1 (by lia) n1⟩;refine⟨p,6,rfl,hp1,⟨by decide,by decide⟩,fun c hv hc=>?_⟩;intro q2 G2 n2;refine⟨_,_,n2.sub _ _ n1.at_,n2.at_,?_,fun q3 G3 n3=>?_⟩
  ·rw[π];exact eA (by simp;lia)
  have n3':eF G q3 (.lst ((cs++[c]).map cD)) G3:=⟨(n1.sub.trans n2.sub).of_none n3.aB,(n1.sub.trans n2.sub).trans n3.sub,by rw[n3.at_,cO];rfl⟩;have h0:=hv.1;have one:∀c':af,c'∈cs++[c]->c'∈cs∨c'=c:=fun c' hc'=>by
   rcases cA.mp hc' with z|z
   ·exact .inl z
   ·exact .inr (by simpa using z)
  refine pop ⟨fun c' hc'=>?_,.inr ⟨N*c.1.toNat,jv N1 (by lia),?_,fun c' hc'=>?_⟩,fun c' hc'=>?_⟩ (by simp) (by simp;lia) n3'
  ·rcases one c' hc' with z|rfl
   ·exact cl c' z
   ·exact⟨hv,by lia⟩
  ·have:N*c.1.toNat≤64*6:=nF N64 (by lia);lia
  ·rcases one c' hc' with z|rfl
   ·exact oP (N3 c' z) (pD _ _)
   ·exact Nat.dvd_mul_left _ _
  ·rcases one c' hc' with z|rfl
   ·exact c64 c' z
   ·lia
end My
namespace L2
open PySem PySem.Spec PyProof.Rows
theorem O0{P:ag}{w:av}{K:η}{tg:υ}(it:ζ)(lo c:Int)(n:Nat):Turn P w K tg (zS lo c n) [it] it (fun i h=>IsLongIter h it (lo+(i:Nat)*c) ((n:Int)-(i:Nat)) c) where
 mem:=by simp
 obj:=fun i h st b hb=>by
  have e:b=it:=by simpa using hb
  subst e;exact⟨_,st,fun v z=>by
   have z':nS _=lW v:=z;cases z'⟩
 keep:=fun i h h' st k=>k it (by simp) _ st
 item:=by
  intro X hP hw hK hc i pins s σ H E I hf st hg;subst hP hw hK;obtain⟨f0,f1,f2,f3,f4,f5⟩:=hf it (by simp);have W:=Walks.longrange (prog:=X.prog) (w:=X.w) (I.ok.hd hc) it lo c n;refine W.item i s _ _ hg st fun v h' tk hv st' kk=>?_;obtain⟨t,rfl⟩:=hv;have I1:Inv X pins σ H { s with heap:=h',toks:=tk }:=I.turned (fun b o hb e=>kk b o (by simpa using hb) e) f0 f1 f3 f4 f5;refine⟨_,rfl,zo (s:={ s with heap:=h',toks:=tk }) (n:="longrange_iterator") st' rfl rfl (by decide) ⟨.int (lo+i*c),H,I1,⟨t,rfl⟩,⟨rfl,rfl⟩,st',fun b hb=>(hf b hb).1⟩⟩
 done:=by
  intro X hP hw hK hc i pins s σ H E I hf st hg;subst hP hw hK;obtain⟨f0,f1,f2,f3,f4,f5⟩:=hf it (by simp);exact wpAny_pyNext_long_end (I.ok.hd hc) st (by have:n≤i:=hg;lia) fun h' eb=>⟨rfl,I.turned (t':=s.toks) (fun b o hb e=>eb b o hb e) f0 f1 f3 f4 f5⟩
 self:=fun _ _ _ _ _ st h=>wpAny_pyIter_longiter st h
def ny(i j c:Int):Nat:=(et i j c).toNat
theorem OZ(i j c:Int):et i j c=(ny i j c:Int):=by
 unfold ny;refine (bS ?_).symm;unfold et;split
 ·split
  ·have:0≤(j-i-1) / c:=qV (by lia) (by lia);lia
  ·lia
 ·split
  ·have:0≤(i-j-1) / (-c):=qV (by lia) (by lia);lia
  ·lia
section
variable {X:Cx} {tg:υ}
theorem OY{pins:List (ζ×aH)}{σ:St}{H:Hp}{s:θ}{R:It->Hp->Prop}{E:ε->θ->Prop}{lo hi c:Int}{t u v:Tok}{tk:Nat}(I:Inv X pins σ H s)
  (q:R (zS lo c (ny lo hi c)) H):ρ (model X.prog X.w) X.A (pyIter (.ref s.heap.objs.size)) (Hh X pins σ tg R) E { s with heap:=s.heap.push { cls:=.type "range",data:=.fields #[.int lo t,.int hi u,.int c v]},toks:=tk }:=by
 have I1:Inv X pins σ H { s with heap:=s.heap.push { cls:=.type "range",data:=.fields #[.int lo t,.int hi u,.int c v]},toks:=tk }:=I.kept fun b o e=>ι _ e;have e1:lo+((0:Nat):Int)*c=lo:=by simp
 have e2:(((ny lo hi c):Nat):Int)-((0:Nat):Int)=et lo hi c:=by rw[OZ];simp
 have fp:∀b∈[(s.heap.push { cls:=.type "range",data:=.fields #[.int lo t,.int hi u,.int c v]}).objs.size],j4 X pins H b:=fun b hb=>by
  have e:b=(s.heap.push { cls:=.type "range",data:=.fields #[.int lo t,.int hi u,.int c v]}).objs.size:=by simpa using hb
  subst e;exact I1.tj (Φ _) (I1.bJ.fresh (Φ _))
 cases hs:di.Range.small lo hi c with
 |true=>
  refine wpAny_pyIter_range (vW ..) hs ?_;refine⟨(s.heap.push { cls:=.type "range",data:=.fields #[.int lo t,.int hi u,.int c v]}).objs.size,_,_,_,H,rfl,I1.kept (t':=tk) fun b o e=>ι _ e,Tj _ lo c (ny lo hi c),?_,fp,q⟩;show rP _ _ (lo+((0:Nat):Int)*c) ((((ny lo hi c):Nat):Int)-((0:Nat):Int)) c;rw[e1,e2];exact ae _ rfl
 |false=>
  refine wpAny_pyIter_longrange (vW ..) hs ?_;refine⟨(s.heap.push { cls:=.type "range",data:=.fields #[.int lo t,.int hi u,.int c v]}).objs.size,_,_,_,H,rfl,I1.kept (t':=tk) fun b o e=>ι _ e,O0 _ lo c (ny lo hi c),?_,fp,q⟩;show IsLongIter _ _ (lo+((0:Nat):Int)*c) ((((ny lo hi c):Nat):Int)-((0:Nat):Int)) c;rw[e1,e2];exact ae _ rfl
def HK(ta:TA):TI:=fun σ H R=>ta σ H fun vs H1=>∃i j:Int,vs=[.int i,.int j]/\R (zS i 1 (ny i j 1)) H1
theorem OX{a b:υ}{ta:TA}{p pos:aN}(hg:Gl X "range")(hm:X.mg "range" = none)(ha:PA X [a,b] ta)(hs:bI [a,b] X.env=[(false,eval a X.env),(false,eval b X.env)])(hs2:bI [b] X.env=[(false,eval b X.env)]):
  PI X tg (.Call (.Name "range" p) [a,b] [] pos) (HK ta):=by
 intro pins s σ H R I h;refine Call_ (xJ I hg hm boot_range (fW (bO (ha pos pins s σ H _ I h) fun us s1 ⟨vs,H1,I1,r1,q1⟩=>?_) (by rw[hs,hs2]) (by rw[hs2];rfl)));obtain⟨i,j,e,q⟩:=q1;subst e;cases r1 with
 |cons r rr=>
  cases rr with
  |cons r' rr=>
   cases rr;obtain⟨t,rfl⟩:=r;obtain⟨t',rfl⟩:=r';exact call_range_2 (OY I1 q)
end
end L2
namespace L3
open PySem PySem.Spec PyProof.Rows L2
section
variable {X:Cx} {tg:υ} {p pos:aN} {a b d:υ} {ta:dB}
def zM(ta:dB):pd:=fun τ G R=>ta τ G fun ds G1=>match ds with
 |[.int i,.int j]=>R ⟨sG i 1 (ny i j 1),fun _=>True⟩ G1
 |_=>False
theorem OW(hm:X.mg "range" = none)(ha:kG X [a,b] ta)(hg:Gl X "range":=by rfl)(hs:notStar a=true:=by rfl)(hs2:notStar b=true:=by rfl):xc X tg (.Call (.Name "range" p) [a,b] [] pos) (zM ta):=
 Bb (OX hg hm ha (by rw[fP hs,fP hs2];rfl) (fP hs2)) fun σ H R ⟨τ,G,R3,RS,RG,h,k⟩=>⟨τ,G,_,RS,RG,h,fun vs H1 ds G1 h1 S1 R1 q1=>by
  rcases ds with _|⟨d,_|⟨d2,_|⟨d3,ds⟩⟩⟩
  ·exact q1.elim
  ·cases d<;>exact q1.elim
  ·cases d with
   |int i=>
    cases d2 with
    |int j=>
     obtain⟨v,r,rfl,z1,z2⟩:=h1.inv;obtain⟨v2,r2,rfl,z3,z4⟩:=z2.inv;cases z4.i5;unfold Hv at z1 z3;exact⟨i,j,by rw[z1,z3],k _ _ _ _ (Ua i 1 _) S1 R1 q1⟩
    |_=>exact q1.elim
   |_=>cases d2<;>exact q1.elim
  ·cases d<;>(try exact q1.elim)<;>cases d2<;>exact q1.elim⟩
theorem OV(hm:X.mg "range" = none)(ha:QA X [a,b] ta)(hg:Gl X "range":=by rfl)(hs:notStar a=true:=by rfl)(hs2:notStar b=true:=by rfl):QI X tg (.Call (.Name "range" p) [a,b] [] pos) (zM ta):=⟨OW hm ha.of hg hs hs2⟩
theorem OU(i:Int)(n:Nat):sG i 1 n=(ar n).map fun k:Nat=>D.int (i+(k:Int)):=by
 unfold sG;exact cT fun k _=>by rw[ls]
theorem Px(i:Int)(n:Nat):ny i (i+(n:Int)) 1=n:=by
 unfold ny et;rw[if_pos (by decide)];split<;>lia
end
end L3
namespace Hy
abbrev m:Nat:=50837476016421357502988548801
def ws:List Nat:=[0,1,50837476016421357502988548800,10135803261913921868960235765,47713544533386487461430421334,16118752378830961294094796173,10135803261913921868960235766,7136454782211252119412762766,35420441936250108660223587217,1067808664912197872057180565,2212999697970585129814089039,32024112978982417696217670635,31462163339786520225322394788,24560183545309856507467121994,18870267659707217759248440958,38446430134675096138813990232,42277647789822174321452631753,38387337802546712263664490506,33696275681530116412491186272,23593368141310544835077211227,19447797092445194300996637147,17511251399760103422205503489,46126122288104411497689658519,36907145420440214206607912945,45973492287892274563861303616,14903400133920819969803059909,4649537661657208259846829918,31114212333553529286392122120,44186178021154598154410537556,15750616528888460823380307771,37311772889004453734767886545,2825544552670135852985887673,47363332747560446153518827856,21000669660117927839405950976,12392113440277509241703900924,4176012144902884549022596413,46129195059946262553435805396,4699831264134915652592827173,33768564965926269124823709640,30577596685849853241285515590,34491177121087526967130970123,24493149354549804787101258075,1917514258149939870566438092,24460627199287438234388759321,15572640086247702267885243696,49801172466899913257280597541,15022720890134983842052313096,6032499345555032065792858721,20654929227990413533122822066,19669368532025763686749006026,14097040531507188184922654416,27290221972880011291309030375,20470725047528306846033631086,9960773929908013828533900877,41077435601782818928401615986,9363266671448748706979837916,31102825875459151086899000966,11739883316600765676560339068,23716771092680085950793670612,33798028121467025120762686278,12647321811752306225001780964,40100694038434913197550718157,31970675141182861997966009672,18810801587874101012718312085,9550120148141332660707824803]
def w(d:Nat):Nat:=ws.getD d 0
theorem HV:∀d,d<65->0<d->(w d^d%m=1/\∀j,j<d->0<j->bD (m+1-w d^j%m) m=1):=by decide +kernel
def nx(a:Int)(f:Nat->Int):Nat->Int:=fun x=>f (x+1)-a*f x
def ops:List Int->(Nat->Int)->Nat->Int
 |[],f=>f
 |a::l,f=>ops l (nx a f)
def Z(f:Nat->Int):Prop:=∀x,(m:Int)∣f x
theorem Pw(a b:Int)(f):nx a (nx b f)=nx b (nx a f):=by
 funext x;simp only[nx];grind
theorem Pu(l):∀a f,ops l (nx a f)=nx a (ops l f):=by
 induction l with
 |nil=>intro a f;rfl
 |cons b l ih=>intro a f;simp only[ops];rw[Pw,ih]
theorem Pt(l l'):∀f,ops (l++l') f=ops l' (ops l f):=by
 induction l with
 |nil=>intro f;rfl
 |cons b l ih=>intro f;simp only[qC,ops];rw[ih]
theorem Pr(l l'):∀f,ops l' (ops l f)=ops l (ops l' f):=by
 induction l with
 |nil=>intro f;rfl
 |cons b l ih=>intro f;simp only[ops];rw[ih,Pu]
theorem aa7{f a}(h:Z f):Z (nx a f):=fun x=>dM (h (x+1)) (cz (h x))
theorem JQ{l}:∀{f},Z f->Z (ops l f):=by
 induction l with
 |nil=>intro f h;exact h
 |cons b l ih=>intro f h;exact ih (aa7 h)
theorem JP(l):∀c f g,ops l (fun x=>f x-c*g x)=fun x=>ops l f x-c*ops l g x:=by
 induction l with
 |nil=>intro c f g;rfl
 |cons a l ih=>
  intro c f g;simp only[ops];rw[←ih];congr 1;funext x;simp only[nx];grind
theorem Pq(v:Int)(l):∀k f,ops (l.map (v*·)) (fun x=>v^(x+k)*f x)=fun x=>v^(x+k+l.length)*ops l f x:=by
 induction l with
 |nil=>intro k f;rfl
 |cons a l ih=>
  intro k f;simp only[List.map,ops,az];have:nx (v*a) (fun x=>v^(x+k)*f x)=fun x=>v^(x+(k+1))*nx a f x:=by
   funext x;simp only[nx];have e1:v^(x+1+k)=v^(x+k)*v:=by rw[show x+1+k=x+k+1 by lia,u7]
   have e2:v^(x+(k+1))=v^(x+k)*v:=by rw[←u7];rfl
   rw[e1,e2];grind
  rw[this,ih];funext x;congr 2;lia
theorem Pp(l):∀f,Z (ops l f)->(∀x<l.length,(m:Int)∣f x)->Z f:=by
 induction l with
 |nil=>intro f h _;exact h
 |cons a l ih=>
  intro f h h0 x;have hg:Z (nx a f):=ih (nx a f) h fun x hx=>dM (h0 (x+1) (by simpa using hx)) (cz (h0 x (by simp;lia)))
  induction x with
  |zero=>exact h0 0 (by simp)
  |succ x ihx=>
   have:=nR (hg x) (cz (b:=a) ihx);simpa [nx] using this
def F:List (Nat×Nat)->Nat->Int
 |[],_=>1
 |c::cs,x=>F cs x-((w c.1:Int)^(x+(c.1-c.2)))*F cs x
def A:List (Nat×Nat)->List Int
 |[]=>[1]
 |c::cs=>A cs++(A cs).map ((w c.1:Int)*·)
theorem Po(cs):(A cs).length=2^cs.length:=by
 induction cs with
 |nil=>rfl
 |cons c cs ih=>simp only[A,ah,π,ih,az];lia
theorem NQ(cs):Z (ops (A cs) (F cs)):=by
 induction cs with
 |nil=>intro x;simp[A,ops,nx,F]
 |cons c cs ih=>
  have e:F (c::cs)=fun x=>F cs x-1*((w c.1:Int)^(x+(c.1-c.2))*F cs x):=by funext x;simp only[F];grind
  rw[e,A,Pt,JP];rw[JP];intro x;refine dM (JQ ih x) (cz ?_);rw[Pr (A cs) ((A cs).map _),Pq];exact JQ (l:=A cs) (fun x=>cz (ih x)) x
theorem JO(d x:Nat):((w d:Int)^x)%m=((w d^x%m:Nat):Int):=by simp
theorem Jd(d:Nat)(h:d<65)(h0:0<d)(k:Nat):(m:Int)∣1-(w d:Int)^(d*k):=by
 have h1:(m:Int)∣1-(w d:Int)^d:=by
  have:=(HV d h h0).1;have e:=JO d d;rw[this] at e;have e2:=cB ((w d:Int)^d) m;rw[e] at e2;exact⟨-((w d:Int)^d / m),by rw[←e2];grind⟩
 induction k with
 |zero=>simp
 |succ k ih=>
  rw[Nat.mul_succ,Int.pow_add];obtain⟨a,ha⟩:=h1;obtain⟨b,hb⟩:=ih;exact⟨a+b-m*a*b,by
   have e1:(w d:Int)^d=1-m*a:=by lia
   have e2:(w d:Int)^(d*k)=1-m*b:=by lia
   rw[e1,e2];grind⟩
def U(a:Int):Prop:=∃u:Int,(m:Int)∣1-u*a
theorem Pn{a b}(ha:U a)(hb:U b):U (a*b):=by
 obtain⟨u,p,hp⟩:=ha;obtain⟨v,q,hq⟩:=hb;exact⟨u*v,p+q-m*p*q,by
  have e1:u*a=1-m*p:=by lia
  have e2:v*b=1-m*q:=by lia
  have:u*v*(a*b)=(u*a)*(v*b):=by grind
  rw[this,e1,e2];grind⟩
theorem aa8{a}(h:U a):¬(m:Int)∣a:=by
 intro ha;obtain⟨u,hu⟩:=h;have:=nR hu (cz (b:=u) ha);have h2:1-u*a+u*a=1:=by lia
 have e:(m:Int)∣1:=by rwa [h2] at this
 revert e;decide
theorem bez(a b:Nat):∃u v:Int,u*a+v*b=bD a b:=by
 induction a,b using bD.induction with
 |H0 n=>exact⟨0,1,by simp⟩
 |H1 a b h ih=>
  obtain⟨u,v,e⟩:=ih;have e2:(b:Int)=a*(b / a:Nat)+(b%a:Nat):=by have:=jM b a;lia
  rw[nP];exact⟨v-u*(b / a:Nat),u,by rw[←e];generalize ((b / a:Nat):Int)=q at *;generalize ((b%a:Nat):Int)=r at *;rw[e2];grind⟩
theorem Pm(a:Nat)(h:bD a m=1):U a:=by
 obtain⟨u,v,e⟩:=bez a m;rw[h] at e;exact⟨u,v,by have:u*(a:Int)+v*(m:Int)=1:=e;grind⟩
theorem unit(d x:Nat)(h:d<65)(h0:0<d)(hx:x%d≠0):U (1-(w d:Int)^x):=by
 have h1:=Pm _ ((HV d h h0).2 (x%d) (dO _ h0) (by lia));obtain⟨u,hu⟩:=h1;refine⟨u,?_⟩;have hk:=Jd d h h0 (x / d);have e:(w d:Int)^x=(w d:Int)^(d*(x / d))*(w d:Int)^(x%d):=by rw[←Int.pow_add,jM]
 have e3:=JO d (x%d);have h2:(m:Int)∣(1-(w d:Int)^x)-((m+1-w d^(x%d)%m:Nat):Int):=by
  have l:w d^(x%d)%m<m:=dO _ (by decide);obtain⟨b,hb⟩:=hk;have e2:(w d:Int)^(d*(x / d))=1-m*b:=by lia
  have e4:(w d:Int)^(x%d)=m*((w d:Int)^(x%d) / m)+((w d^(x%d)%m:Nat):Int):=by
   rw[←e3];exact (cB _ _).symm
  generalize hq:(w d:Int)^(x%d) / m=q at e4;generalize hr:w d^(x%d)%m=r at *;have e5:((m+1-r:Nat):Int)=(m:Int)+1-r:=by lia
  rw[e,e2,e5,e4];exact⟨b*(m*q+r)-q-1,by grind⟩
 have:=dM hu (cz (b:=u) h2);have e:1-u*((m+1-w d^(x%d)%m:Nat):Int)-u*(1-(w d:Int)^x-((m+1-w d^(x%d)%m:Nat):Int))=1-u*(1-(w d:Int)^x):=by
  generalize ((m+1-w d^(x%d)%m:Nat):Int)=y;grind
 rwa [e] at this
def Ox(c:Nat×Nat):Prop:=c.1<65/\c.2<c.1
theorem Jc(cs)(h:∀c∈cs,Ox c)(x):(m:Int)∣F cs x↔∃c∈cs,x%c.1=c.2:=by
 have key:(∃c∈cs,x%c.1=c.2)/\(m:Int)∣F cs x∨(¬∃c∈cs,x%c.1=c.2)/\U (F cs x):=by
  induction cs with
  |nil=>right;exact⟨by simp,1,by simp[F]⟩
  |cons c cs ih=>
   have⟨o1,o2⟩:=h c (by simp);have e:F (c::cs) x=(1-(w c.1:Int)^(x+(c.1-c.2)))*F cs x:=by simp only[F];grind
   have ih:=ih fun c hc=>h c (by simp[hc]);rw[e];by_cases hr:x%c.1=c.2
   ·left;refine⟨⟨c,by simp,hr⟩,?_⟩;refine Int.dvd_mul_of_dvd_left ?_;have:x+(c.1-c.2)=c.1*(x / c.1+1):=by
     have:=jM x c.1;rw[Nat.mul_add];lia
    rw[this];exact Jd _ o1 (by lia) _
   ·rcases ih with⟨⟨b,hb,hb'⟩,hd⟩|⟨hn,hu⟩
    ·left;exact⟨⟨b,by simp[hb],hb'⟩,cz hd⟩
    ·right;refine⟨?_,Pn (unit _ _ o1 (by lia) ?_) hu⟩
     ·rintro⟨b,hb,hb'⟩;rcases Ω.1 hb with rfl|hb
      ·exact hr hb'
      ·exact hn ⟨b,hb,hb'⟩
     ·intro h0;apply hr;have hx:=jM x c.1;obtain⟨k,hk⟩:=Nat.dvd_of_mod_eq_zero h0;have l:=dO x (show 0<c.1 by lia);have e1:(x+(c.1-c.2))%c.1=(x%c.1+(c.1-c.2))%c.1:=by simp
      rw[h0] at e1;by_cases hlt:x%c.1+(c.1-c.2)<c.1
      ·rw[Nat.mod_eq_of_lt hlt] at e1;lia
      ·rw[Nat.mod_eq_sub_mod (by lia)] at e1;rw[Nat.mod_eq_of_lt (by lia)] at e1;lia
 rcases key with⟨a,b⟩|⟨a,b⟩
 ·exact⟨fun _=>a,fun _=>b⟩
 ·exact⟨fun d=>absurd d (aa8 b),fun c=>absurd c a⟩
theorem cve(cs:List (Nat×Nat))(h:∀c∈cs,Ox c)(h0:∀x<2^cs.length,∃c∈cs,x%c.1=c.2)(x:Nat):∃c∈cs,x%c.1=c.2:=
 (Jc cs h x).1 (Pp (A cs) (F cs) (NQ cs) (fun y hy=>(Jc cs h y).2 (h0 y (by rwa [Po] at hy))) x)
end Hy
namespace My
open PySem L2 L3
def iZ(cs:List af)(x b:Int)(k:Nat):Bool:=(cs.filter (rg (x+b*(k:Int)))).isEmpty
def Oi(x b:Int):Option Nat->D
 |none=>.aB
 |some k=>.int (x+b*(k:Int))
theorem Jb{c:af}{x b:Int}(hv:Valid c)(hb:b=1∨b = -1)(k:Nat):rg (x+b*(k:Int)) c=true↔k%c.1.toNat=((b*(c.2-x))%c.1).toNat:=by
 obtain⟨h1,h2,h3⟩:=hv;have m0:=cC (b*(c.2-x)) (show c.1≠0 by lia);have e:((k%c.1.toNat:Nat):Int)=(k:Int)%c.1:=by rw[fM,bS (by lia)]
 have step:rg (x+b*(k:Int)) c=true↔(k:Int)%c.1=(b*(c.2-x))%c.1:=by
  rw[←Bk ⟨h1,h2,h3⟩,cY,dQ,←Int.dvd_iff_emod_eq_zero];rcases hb with rfl|rfl
  ·rw[show x+1*(k:Int)-c.2=(k:Int)-1*(c.2-x) by lia]
  ·rw[show x + -1*(k:Int)-c.2 = -((k:Int) - -1*(c.2-x)) by lia,Int.dvd_neg]
 rw[step];lia
theorem wy{cs:List af}{x b:Int}{k:Nat}:iZ cs x b k=false↔∃c∈cs,rg (x+b*(k:Int)) c=true:=by
 unfold iZ;rw[Bool.eq_false_iff,Ne,qz,rN];constructor
 ·intro h;refine aL fun hn=>h fun c hc hr=>hn ⟨c,hc,hr⟩
 ·rintro⟨c,hc,hr⟩ h;exact h c hc hr
theorem aao{cs:List af}{x b:Int}(hv:∀c∈cs,Valid c/\c.1≤64)(hb:b=1∨b = -1)(h:∀k,k<2^cs.length->iZ cs x b k=false)(k:Nat):iZ cs x b k=false:=by
 have:=Hy.cve (cs.map fun c=>(c.1.toNat,((b*(c.2-x))%c.1).toNat)) (fun d hd=>by
  obtain⟨c,hc,rfl⟩:=aT.mp hd;obtain⟨⟨h1,h2,h3⟩,h4⟩:=hv c hc;have m1:=cg (b*(c.2-x)) h1;exact⟨by show c.1.toNat<65;lia,by show ((b*(c.2-x))%c.1).toNat<c.1.toNat;lia⟩) (fun y hy=>by
  rw[π] at hy;obtain⟨c,hc,hr⟩:=wy.mp (h y hy);exact⟨_,ub hc,(Jb (hv c hc).1 hb y).mp hr⟩) k
 obtain⟨d,hd,e⟩:=this;obtain⟨c,hc,rfl⟩:=aT.mp hd;exact wy.mpr ⟨c,hc,(Jb (hv c hc).1 hb k).mpr e⟩
def yO:eO:=fun ds G Q=>∃n:Nat,ds=[.int n]/\n≤60/\Q (.int ((2^n:Nat):Int)) G
def aan:ao:=Az 1 (ο 1) Dg
def aam:ao:=cP (ο 1)
def aal:ao:=aY (oE (nJ (ξ (ο 0) (ai))) (hName 2) (aan)) aam
def Ja:ao:=aY (bt (eC (.int 1)) (hName 1)) aal
theorem aak:∀ds G Q,yO ds G Q->Ja (bj Q) (br ["times","number","turn"] ds) G:=by
 rintro ds G Q ⟨n,rfl,hn,q⟩;refine⟨⟨by lia,by lia⟩,?_⟩;show nK _ _ _ _ (kM 0 ((n:Int)).toNat) _ _;rw[bY,DH];refine p9 (fun ds τ G'=>G'=G/\∃(k:Nat) (x2:Option D),ds.length+k=n/\τ=[some (.int n),some (.int ((2^k:Nat):Int)),x2]) (fun _ _ _ _=>trivial) ?_ ?_ _ _ _ ⟨rfl,0,none,by simp,rfl⟩
 ·rintro d ds τ G' N ⟨rfl,k,x2,hk,rfl⟩ hN;refine hN _ _ ⟨rfl,k+1,some d,by simp at hk;lia,?_⟩;show [some (D.int n),some (D.int (((2^k:Nat):Int)+((2^k:Nat):Int))),_]=_;rw[show ((2^k:Nat):Int)+((2^k:Nat):Int)=((2^(k+1):Nat):Int) by rw[mF];lia]
 ·rintro τ G' ⟨rfl,k,x2,hk,rfl⟩;have:k=n:=by simpa using hk
  rw[this];exact fN q
def v3:eO:=fun ds G Q=>∃cs:List af,ds=[ff cs]/\cs.length≤60/\Q (.int ((2^cs.length:Nat):Int)) G
def IZ:ao:=cP (bo yO (ξ (eN mU (ξ (ο 0) (ai))) (ai)))
theorem aaj:∀ds G Q,v3 ds G Q->IZ (bj Q) (br ["clocks"] ds) G:=by
 rintro ds G Q ⟨cs,rfl,hl,q⟩;refine⟨cs.length,?_,hl,fN q⟩;show [D.int (((cs.map cD).length:Nat):Int)]=_;rw[π]
def aai:ao:=ix (bT (ax (eI false) (bo wb (ξ (ο 0) (ξ (ο 2) (ai)))) (gP (ai)))) (cP (ο 2)) (fb)
theorem aah{Q:V3}{G G1:Gp}{cs:List af}{x b:Int}{N:Nat}{D3:g0}(hp:∀c∈cs,0<c.1)(hl:cs.length≤1000)(s:Sub G G1)(hrt:D3.rt=(bj Q).rt)(MQ:∀τ G',Sub G G'->Q .aB G->D3.nx τ G')
  (q:Q (Oi x b ((ar N).find? (iZ cs x b))) G):nK (fun _=>True) (hName 2) aai D3 ((ar N).map fun k:Nat=>D.int (x+b*(k:Int))) [some (ff cs),some (.int x),none] G1:=by
 refine p9 (fun ds τ G'=>Sub G G'/\∃(ks:List Nat) (x2:Option D),ds=ks.map (fun k:Nat=>D.int (x+b*(k:Int)))/\τ=[some (ff cs),some (.int x),x2]/\ks.find? (iZ cs x b)=(ar N).find? (iZ cs x b)) (fun _ _ _ _=>trivial) ?_ ?_ _ _ _ ⟨s,ar N,none,rfl,rfl,rfl⟩
 ·rintro d ds τ G' N' ⟨s1,ks,x2,e,rfl,hf⟩ hN;cases ks with
  |nil=>cases e
  |cons k ks=>
   cases e;refine⟨cs,x+b*(k:Int),rfl,hp,hl,fun p2 G2 n2 p3 G3 n3=>?_⟩;refine⟨_,_,xO (n3.sub _ _ n2.at_) (EC _),xO n3.at_ rfl,Ko _,fun h=>?_,fun h=>?_⟩
   ·have h':(Dat.D.lst ((cs.filter (rg (x+b*(k:Int)))).map cX)).eY (.lst [])=true:=h;rw[yW,lN] at h';rw[List.find?_cons_of_pos (by exact h')] at hf;rw[←hf] at q;show D3.rt (.int (x+b*(k:Int))) G3;rw[hrt];exact rh ((s1.trans n2.sub).trans n3.sub) q
   ·have h':(Dat.D.lst ((cs.filter (rg (x+b*(k:Int)))).map cX)).eY (.lst [])=false:=h;rw[yW,lN] at h';rw[List.find?_cons_of_neg (by rw[show iZ cs x b k=false from h'];decide)] at hf;exact hN _ _ ⟨(s1.trans n2.sub).trans n3.sub,ks,_,rfl,rfl,hf⟩
 ·rintro τ G' ⟨s1,ks,x2,e,rfl,hf⟩;cases ks with
  |cons k ks=>cases e
  |nil=>
   rw[←hf] at q;exact MQ _ _ s1 q
end My
namespace My
open PySem L2 L3
def iK(cs:List af):Prop:=∀c∈cs,Valid c/\c.1≤64
def j3(cs:List af)(x:Int):Prop:=cs.filter (cp x)=[]
theorem iK.k{cs:List af}(h:iK cs):∀c∈cs,Valid c/\c.1≤1000:=fun c hc=>⟨(h c hc).1,by have:=(h c hc).2;lia⟩
theorem iK.p{cs:List af}(h:iK cs):∀c∈cs,0<c.1:=fun c hc=>(h c hc).1.1
theorem AQ{cs:List af}(h:iK cs)(x:Int):cs.filter (rg x)=cs.filter (cp x):=kT fun c hc=>(Bk (h c hc).1 x).symm
theorem D5{cs:List af}(h:iK cs){x b:Int}{k:Nat}:iZ cs x b k=true↔j3 cs (x+b*(k:Int)):=by
 unfold iZ j3;rw[qz,AQ h]
theorem D4{cs:List af}(h:iK cs){y:Int}(hy:j3 cs y)(x:Int)(b:Int)(hb:b=1∨b = -1):∃k:Nat,k<2^cs.length/\j3 cs (x+b*(k:Int)):=by
 refine aL fun hn=>?_;have hall:=aao (x:=x) (b:=b) h hb fun k hk=>by
  cases e:iZ cs x b k with
  |false=>rfl
  |true=>exact absurd ⟨k,hk,(D5 h).mp e⟩ hn
 have hpos:=Jz fun z hz=>(h z hz).1.1
 -- a number of the same rest as y,that way
 obtain⟨k,hk⟩:∃k:Nat,((gd cs:Nat):Int)∣(x+b*(k:Int))-y:=by
  refine⟨((b*(y-x))%((gd cs:Nat):Int)).toNat,?_⟩;have m0:=cC (b*(y-x)) (show ((gd cs:Nat):Int)≠0 by lia);rw[bS m0];have e0:=cB (b*(y-x)) ((gd cs:Nat):Int);generalize (b*(y-x))%((gd cs:Nat):Int)=r at e0 m0;generalize (b*(y-x)) / ((gd cs:Nat):Int)=t at e0;rcases hb with rfl|rfl
  ·exact⟨-t,by rw[Int.mul_neg];lia⟩
  ·exact⟨t,by lia⟩
 have hm:=hall k;obtain⟨c,hc,hr⟩:=wy.mp hm;rw[←Bk (h c hc).1,cY] at hr;have hd:c.1∣((gd cs:Nat):Int):=by
  have:=cW.mpr (Eg hc);rwa [bS (by have:=(h c hc).1.1;lia)] at this
 have hy2:c.1∣y-c.2:=by
  have e:=dM hr (fA hd hk);rwa [show x+b*(k:Int)-c.2-(x+b*(k:Int)-y)=y-c.2 by lia] at e
 have:c∈cs.filter (cp y):=jO.mpr ⟨hc,cY.mpr hy2⟩;rw[hy] at this;cases this
theorem yN(cs:List af)(b:Nat):(j3 cs (b:Int)->iy cs 0 (b+1)=iy cs 0 b+1)/\(¬j3 cs (b:Int)->iy cs 0 (b+1)=iy cs 0 b):=by
 rw[zw];constructor
 ·intro h;rw[if_pos (by rw[h];rfl)]
 ·intro h;rw[if_neg (fun z=>h (fE.mp z))];rfl
theorem AO(cs:List af){a b:Nat}(h:a≤b):iy cs 0 a≤iy cs 0 b:=by
 induction h with
 |refl=>exact Φ _
 |step _ ih=>
  rw[zw];exact aD ih (fK _ _)
theorem IY{cs:List af}(h:iK cs){y:Int}(hy:j3 cs y):∀t:Nat,t≤iy cs 0 (t*2^cs.length)
 |0=>aI _
 |t+1=>by
  have ih:=IY h hy t;obtain⟨k,hk,hm⟩:=D4 h hy ((t*2^cs.length:Nat):Int) 1 (.inl rfl);have e:((t*2^cs.length:Nat):Int)+1*(k:Int)=((t*2^cs.length+k:Nat):Int):=by lia
  rw[e] at hm;have s1:=(yN cs _).1 hm;have s2:=AO cs (show t*2^cs.length≤t*2^cs.length+k by lia);have s3:=AO cs (show t*2^cs.length+k+1≤(t+1)*2^cs.length by rw[rJ];lia);lia
def aag:ao:=ix (bT (ax uq (bo v8 (ξ (ο 2) (ξ (ax dI (ο 5) (eC (.int 1))) (ai)))) (ο 1))) (bt (ο 5) (hName 4)) (bt (ax dI (ο 5) (eC (.int 1))) (hName 3))
def aaf:ao:=aY (bt (ax lA (ax dI (ο 3) (ο 4)) (eC (.int 2))) (hName 5)) aag
def aae:ao:=cP (ο 3)
def aad:ao:=aY (nV (bT (ax sH (ο 3) (ο 4))) (aaf)) aae
def aac:ao:=aY (bt (ax jH (ax gZ (ax dI (ο 1) (eC (.int 1))) (bo v3 (ξ (ο 0) (ai)))) (eC (.int 1))) (hName 4)) aad
def aab:ao:=aY (bt (eC (.int 0)) (hName 3)) aac
def aaa:ao:=aY (bt (bo v9 (ξ (ο 0) (ai))) (hName 2)) aab
theorem Z9{cs:List af}(h:iK cs){y:Int}(hy:j3 cs y)(x:Int):∃k:Nat,(ar (2^cs.length)).find? (iZ cs x 1)=some k:=by
 obtain⟨k,hk,hm⟩:=D4 h hy x 1 (.inl rfl);cases e:(ar (2^cs.length)).find? (iZ cs x 1) with
 |some k=>exact⟨k,rfl⟩
 |none=>exact absurd ((D5 h).mpr hm) (fZ.mp e k (bE.mpr hk))
theorem Z3{D3:g0}{G:Gp}{cs:List af}{n:Nat}(h:iK cs)(hl:cs.length≤9)(hn:n<10^50){y0:Int}(hy0:j3 cs y0)(q:∀(y:Nat) G',j3 cs (y:Int)->iy cs 0 y=n->y<(n+1)*2^cs.length->Sub G G'->D3.rt (.int y) G'):
  aaa D3 [some (ff cs),some (.int n),none,none,none,none] G:=by
 have hpw:2^cs.length≤512:=aD (cH (by decide) hl) (by decide);have hpp:0<2^cs.length:=Nat.two_pow_pos _;have hn':((n:Nat):Int)<10^50:=by exact_mod_cast hn
 have hw':((2^cs.length:Nat):Int)≤512:=by exact_mod_cast hpw
 refine⟨cs,rfl,h.k,hl,fun pw ob G1 n1=>⟨cs,rfl,by lia,⟨?_,?_⟩,?_⟩⟩
 ·exact eJ (by lia) (by lia)
 ·exact eJ (by lia) (by lia)
 generalize hW:2^cs.length=W at hpw hpp q;have hw0:=IY h hy0 (n+1);rw[hW] at hw0;have ehi:(((n:Nat):Int)+1)*((W:Nat):Int)-1=(((n+1)*W-1:Nat):Int):=by
  have:0<(n+1)*W:=jv (by lia) hpp;rw[Int.ofNat_sub (by lia),eH];rfl
 refine⟨fun m τ G'=>∃(lo hi:Nat) (x5:Option D),τ=[some (ff cs),some (.int n),some (.obj pw),some (.int lo),some (.int hi),x5]/\m=hi-lo/\lo≤hi/\hi<(n+1)*W/\iy cs 0 lo≤n/\n<iy cs 0 (hi+1)/\Sub G1 G',⟨_,0,(n+1)*W-1,none,?_,rfl,by lia,?_,aI _,?_,Sub.refl _⟩,?_⟩
 ·show [some (ff cs),some (D.int n),some (D.obj pw),some (D.int 0),some (D.int ((((n:Nat):Int)+1)*((W:Nat):Int)-1)),none]=_;rw[ehi];rfl
 ·have:0<(n+1)*W:=jv (by lia) hpp;lia
 ·rw[Nat.sub_add_cancel (jv (by lia) hpp)];lia
 rintro m τ G2 ⟨lo,hi,x5,rfl,rfl,hle,hhi,h1,h2,s⟩;refine⟨fun g=>?_,fun g=>?_⟩
 ·have g':(lo:Int)<(hi:Int):=of_decide_eq_true g;have emid:((lo:Int)+(hi:Int)) / 2=(((lo+hi) / 2:Nat):Int):=by lia
  have hb60:(lo+hi) / 2+1<10^60:=by
   have:(n+1)*W≤10^50*512:=nF hn hpw;lia
  refine⟨⟨by decide,eJ (by decide) (by decide)⟩,pw,cs,ob,(lo+hi) / 2+1,?_,s _ _ n1.at_,h.k,hl,hb60,fun G3 s3=>⟨fun z=>?_,fun z=>?_⟩⟩
  ·show [D.obj pw,D.int (((lo:Int)+(hi:Int)) / 2+1)]=_;rw[emid];rfl
  ·have z':((n:Nat):Int)<((iy cs 0 ((lo+hi) / 2+1):Nat):Int):=of_decide_eq_true z;refine⟨(lo+hi) / 2-lo,by lia,lo,(lo+hi) / 2,some (.int (((lo+hi) / 2:Nat):Int)),?_,rfl,by lia,by lia,h1,by lia,s.trans s3⟩
   ·show [some (ff cs),some (D.int n),some (D.obj pw),some (D.int lo),some (D.int (((lo:Int)+(hi:Int)) / 2)),some (D.int (((lo:Int)+(hi:Int)) / 2))]=_;rw[emid]
  ·have z':¬((n:Nat):Int)<((iy cs 0 ((lo+hi) / 2+1):Nat):Int):=of_decide_eq_false z;refine⟨hi-((lo+hi) / 2+1),by lia,(lo+hi) / 2+1,hi,some (.int (((lo+hi) / 2:Nat):Int)),?_,rfl,by lia,by lia,by lia,h2,s.trans s3⟩
   ·show [some (ff cs),some (D.int n),some (D.obj pw),some (D.int (((lo:Int)+(hi:Int)) / 2+1)),some (D.int hi),some (D.int (((lo:Int)+(hi:Int)) / 2))]=_;rw[emid];rfl
 ·have g':¬(lo:Int)<(hi:Int):=of_decide_eq_false g;have e:lo=hi:=by lia
  subst e;have hm:j3 cs (lo:Int):=by
   refine aL fun hn=>?_;rw[(yN cs lo).2 hn] at h2;lia
  have e2:=(yN cs lo).1 hm;exact q lo G2 hm (by lia) hhi (n1.sub.trans s)
end My
namespace L3
open PySem PySem.Spec PyProof.Rows L2
section
variable {X:Cx} {k:Nat} {f:ζ} {x:ν} {p pos:aN} {e:υ} {es:List υ} {t:dB} {fs:ζ->qh->Prop}
theorem Z0(hm:X.mg x=some (.ref f))(hg:Gl X x:=by rfl)(hd:(x==("__debug__":ν))=false:=by decide):bN X (.Name x pos) (eC (.obj f)):=xG (v:=.ref f) (Fk hg hm rfl hd) fun H=>rp
theorem AN(hm:X.mg x=some (.ref f))(hg:Gl X x:=by rfl)(hd:(x==("__debug__":ν))=false:=by decide):QE X (.Name x pos) (eC (.obj f)):=⟨Z0 hm hg hd⟩
def ya(i:Nat)(fs:ζ->qh->Prop)(t:dB):Ar:=fun KX τ G Q=>∃f sp,jL τ i=some (.obj f)/\fs f sp/\t τ G fun ds G1=>sp ds (fun d G'=>∀G2,Joins G1 G' G2->Q d G2) (KX τ G1)
theorem ZZ{i:Nat}(hfs:∀f sp,fs f sp->∃fd ps,uT X.prog X.w X.K X.mg X.base k f fd ps sp/\bW X.K (.ref f)=true/\Binds X.K fd ps [])(hr:dW k X.A)(ha:kG X.mX (e::es) t)(hN:X.N[i]?=some x:=by rfl)
  (hv:Ap X.env.scope x:=by first|exact ka rfl|exact ip (ka rfl)|exact ip (ip rfl)) (hdb:(x==("__debug__":ν))=false:=by decide) (g7:(x==("__classdict__":ν))=false:=by decide) (he:notStar e=true:=by rfl) (hpl:es.all notStar=true:=by rfl):
  M5 X (.Call (.Name x p) (e::es) [] pos) (ya i fs t):=by
 intro pins s σ H Q XE τ G Q3 KX I RS RG h kk xx;obtain⟨f,sp,ef,hf,h⟩:=h;obtain⟨fd,ps,F,hk,hb⟩:=hfs f sp hf;obtain⟨v,e1,e2⟩:=RS.at_ i _ ef;obtain⟨m,hn,hl⟩:=I.loc;obtain⟨u,r,l⟩:=hl i x v hN e1 hv;rw[iH e2] at r;cases r;have ld:∀{Q':ε->θ->Prop} {E':ε->θ->Prop},Q' (.ref f) s->ρ (model X.prog X.w) X.A (eval (.Name x p) X.env) Q' E' s:=fun fin=>by
  rcases l with⟨hk,hm⟩|⟨hk,c,hc,hcell⟩
  ·exact i9 (gD I.ok.kind hk hn hm fin) hdb
  ·rcases hk with hk|hk
   ·exact i9 (mY I.ok.kind hk hc hcell fin) hdb
   ·exact i9 (wpAny_loadName_free I.ok.kind hk hc hcell fin g7) hdb
 refine eR (ld ?_);refine ik (h₀:=X.base) I.ok.mod.uD hk (cS (ha pos pins s σ H (fun vs H1=>∃ds G1,aR X.K H1 ds vs/\Step H G H1 G1/\aV X.K G1 H1/\sp ds (fun d G'=>∀G2,Joins G1 G' G2->Q3 d G2) (KX τ G1)) (I.pW _)
  ⟨τ,G,_,RS,RG,h,fun vs H1 ds G1 a b c q=>⟨ds,G1,a,b,c,q⟩⟩) (fun us s1 ⟨vs,H1,I1,r,ds,G1,hd,S1,R1,q⟩=>⟨I1.hZ,?_⟩) fun _ _ z=>cI z) (fP he) (mi hpl)
 exact Ju F hr hb (fun ev s' h=>xx σ τ H1 s1 G1 ev s' I1.kW (RS.ext (S1.ext RG)) R1 S1 h) I1.kW r hd R1 q fun v H' d G' a b c q=>kk v H' d G' a (S1.trans b) c q
theorem ZY{i:Nat}(hfs:∀f sp,fs f sp->∃fd ps,uT X.prog X.w X.K X.mg X.base k f fd ps sp/\bW X.K (.ref f)=true/\Binds X.K fd ps [])(hr:dW k X.A)(ha:QA X.mX (e::es) t)(hN:X.N[i]?=some x:=by rfl)
  (hv:Ap X.env.scope x:=by first|exact ka rfl|exact ip (ka rfl)|exact ip (ip rfl)) (hdb:(x==("__debug__":ν))=false:=by decide) (g7:(x==("__classdict__":ν))=false:=by decide) (he:notStar e=true:=by rfl) (hpl:es.all notStar=true:=by rfl):
  Ow X (.Call (.Name x p) (e::es) [] pos) (ya i fs t):=⟨ZZ hfs hr ha.of hN hv hdb g7 he hpl⟩
end
end L3
namespace My
open PySem L2 L3
def yM:qh:=fun ds Q E=>∃(cs:List af) (x:Int),ds=[ff cs,.int x]/\(∀c∈cs,0<c.1)/\cs.length≤60/\(cs.length≤10->Q (Oi x 1 ((ar (2^cs.length)).find? (iZ cs x 1))) iS)/\(10<cs.length->E "TooGreat" [("many",((cs.length:Nat):Int)),("most",10)])
def ZX(E:E3):ao:=ix (bT (ax (eI false) (bo wb (ξ (ο 0) (ξ (ο 2) (ai)))) (gP (ai)))) (cP (ο 2)) (fb)
def ZW(E:E3):ao:=cP (eC .aB)
def ZV(E:E3):ao:=aY (oE (zM (ξ (ο 1) (ξ (ax dI (ο 1) (bo v3 (ξ (ο 0) (ai)))) (ai)))) (hName 2) ((ZX E))) (ZW E)
def IX(E:E3):ao:=aY (qM (qe xK E (ξ (eN mU (ξ (ο 0) (ai))) (ξ (eC (.int 10)) (ai))))) (ZV E)
theorem ZU:∀ds Q E,yM ds Q E->IX E (bj Q) (br ["clocks","number","looked"] ds) iS:=by
 rintro ds Q E ⟨cs,x,rfl,hp,hl,q1,q2⟩;have hlm:(((cs.map cD).length:Nat):Int)=(cs.length:Nat):=by rw[π]
 refine⟨_,_,rfl,fun h G1 j1=>⟨cs,rfl,hl,?_⟩,fun h=>?_⟩
 ·have h:(((cs.map cD).length:Nat):Int)≤10:=h;have q:=q1 (by lia);show nK _ _ _ _ (sG x 1 (ny x (x+((2^cs.length:Nat):Int)) 1)) _ _;rw[Px,OU];have e:((ar (2^cs.length)).map fun k:Nat=>D.int (x+(k:Int)))=(ar (2^cs.length)).map fun k:Nat=>D.int (x+1*(k:Int)):=cT fun k _=>by rw[nQ]
  rw[e];exact aah (G:=iS) hp (by lia) (AS _) rfl (fun τ G' s qn=>rh s qn) q
 ·have h:(10:Int)<(((cs.map cD).length:Nat):Int):=h;have:=q2 (by lia);show E "TooGreat" [("many",(((cs.map cD).length:Nat):Int)),("most",10)];rw[hlm];exact this
end My
namespace My
open PySem L2 L3
def Oo(E:E3)(n:Nat):Prop:=E "TooGreat" [("many",((n:Nat):Int)),("most",10)]
def uv:qh:=fun ds Q E=>∃(cs:List af) (n:Nat),ds=[ff cs,.int n]/\(∀c∈cs,0<c.1)/\cs.length≤60/\(10<cs.length->Oo E cs.length)/\(cs.length≤10->cs.length≤9/\iK cs/\n<10^50/\((¬∃y,j3 cs y)->E "NoNumber" [])/\((∃y,j3 cs y)->∀y:Nat,j3 cs (y:Int)->iy cs 0 y=n->y<(n+1)*2^cs.length->Q (.int y) iS))
def ZT(E:E3):ao:=ix (bT (ax uq (bo v8 (ξ (ο 2) (ξ (ax dI (ο 5) (eC (.int 1))) (ai)))) (ο 1))) (bt (ο 5) (hName 4)) (bt (ax dI (ο 5) (eC (.int 1))) (hName 3))
def ZS(E:E3):ao:=aY (bt (ax lA (ax dI (ο 3) (ο 4)) (eC (.int 2))) (hName 5)) (ZT E)
def aay(E:E3):ao:=cP (ο 3)
def aax(E:E3):ao:=aY (nV (bT (ax sH (ο 3) (ο 4))) ((ZS E))) (aay E)
def aaw(E:E3):ao:=aY (bt (ax jH (ax gZ (ax dI (ο 1) (eC (.int 1))) (bo v3 (ξ (ο 0) (ai)))) (eC (.int 1))) (hName 4)) (aax E)
def aav(E:E3):ao:=aY (bt (eC (.int 0)) (hName 3)) (aaw E)
def aau(E:E3):ao:=aY (bt (bo v9 (ξ (ο 0) (ai))) (hName 2)) (aav E)
def IW(E:E3):ao:=aY (ix (bT (ax (AA false) (qe yM E (ξ (ο 0) (ξ (eC (.int 0)) (ai)))) (eC .aB))) (vg "NoNumber" E) (fb)) (aau E)
theorem aat{cs:List af}(h:iK cs)(hn:¬∃y,j3 cs y)(x b:Int)(N:Nat):(ar N).find? (iZ cs x b)=none:=by
 refine fZ.mpr fun k _ hk=>hn ⟨_,(D5 h).mp hk⟩
theorem aas:∀ds Q E,uv ds Q E->IW E (bj Q) (br ["clocks","n","weights","low","high","middle"] ds) iS:=by
 rintro ds Q E ⟨cs,n,rfl,hp,hl,q0,q1⟩;refine⟨cs,0,rfl,hp,hl,fun uK G1 j1=>?_,fun uK=>q0 uK⟩;obtain⟨h9,h,hn,q2,q3⟩:=q1 uK;by_cases hx:∃y,j3 cs y
 ·obtain⟨y0,hy0⟩:=hx;obtain⟨k,ek⟩:=Z9 h hy0 0;rw[ek];exact⟨nofun,fun _=>Z3 (G:=G1) h h9 hn hy0 fun y G' h1 h2 h3 s=>rh (AS _) (q3 ⟨y0,hy0⟩ y h1 h2 h3)⟩
 ·rw[aat h hx];exact⟨fun _=>q2 hx,nofun⟩
def uu:qh:=fun ds Q E=>∃(cs:List af) (d:D),ds=[ff cs,d]/\Known iS d/\(∀c∈cs,0<c.1)/\cs.length≤60/\(10<cs.length->Oo E cs.length)/\(cs.length≤10->cs.length≤9/\iK cs/\((lB cs d=false∨∃i:Int,d=.int i/\i<0)->E "NoNumber" [])/\(lB cs d=true->∀i:Int,d=.int i->0≤i->∃y:Nat,i=(y:Int)/\y<10^60/\Q (.int (iy cs 0 y:Nat)) iS))
def aar(E:E3):ao:=cP (bo v8 (ξ (bo v9 (ξ (ο 0) (ai))) (ξ (ο 1) (ai))))
def aaq(E:E3):ao:=aY (ix (zN (yc (bT (bo yV (ξ (ο 0) (ξ (ο 1) (ai)))))) (bT (ax sH (ο 1) (eC (.int 0))))) (vg "NoNumber" E) (fb)) (aar E)
def IV(E:E3):ao:=aY (qM (qe xK E (ξ (eN mU (ξ (ο 0) (ai))) (ξ (eC (.int 10)) (ai))))) (aaq E)
theorem aap:∀ds Q E,uu ds Q E->IV E (bj Q) (br ["clocks","number"] ds) iS:=by
 rintro ds Q E ⟨cs,d,rfl,hk,hp,hl,q0,q1⟩;have hlm:(((cs.map cD).length:Nat):Int)=(cs.length:Nat):=by rw[π]
 refine⟨_,_,rfl,fun uK G1 j1=>?_,fun uK=>?_⟩
 ·have uK:(((cs.map cD).length:Nat):Int)≤10:=uK;obtain⟨h9,h,q2,q3⟩:=q1 (by lia);refine⟨cs,d,rfl,hk.sub (AS _),hp,by lia,fun g=>?_,fun g=>?_⟩
  ·have g':(!(lB cs d))=true:=g;exact⟨fun _=>q2 (.inl (by simpa using g')),nofun⟩
  ·have g':(!(lB cs d))=false:=g;have em:lB cs d=true:=by simpa using g'
   cases d with
   |int i=>
    refine⟨fun z=>q2 (.inr ⟨i,rfl,of_decide_eq_true z⟩),fun z=>?_⟩;have z':¬i<0:=of_decide_eq_false z;obtain⟨y,rfl,hy,q4⟩:=q3 em i rfl (by lia);exact⟨cs,rfl,h.k,h9,fun pw ob G2 n2=>⟨pw,cs,ob,y,rfl,n2.at_,h.k,h9,hy,fun G3 s3=>rh (AS _) q4⟩⟩
   |_=>cases em
 ·have uK:(10:Int)<(((cs.map cD).length:Nat):Int):=uK;have:=q0 (by lia);show E "TooGreat" [("many",(((cs.map cD).length:Nat):Int)),("most",10)];rw[hlm];exact this
def Oe(z:ν)(w:ν):Prop:=(z="TooGreat"/\w="great")∨(z="NoNumber"/\w="number")
def xA(rs:List ν):eO:=fun ds G Q=>∃(p:ζ) (z w:ν) (fs:List (ν×Int)),ds=[.obj p]/\G p=some (.gen (jY z fs))/\z∈rs/\Oe z w/\∀G',Sub G G'->Q (.str w) G'
def ZH(rs:List ν):ao:=cP (w6 (ξ (eC (.str "clock")) (ξ (eC (.str "number")) (ξ (eC (.str "place")) (ξ (eC (.str "row")) (ξ (eC (.str "clocks")) (ξ (eC (.str "text")) (ξ (eC (.str "great")) (ai)))))))) (eM D7 (ο 1) (ξ (eC (.bl true)) (ai))))
def ZG(rs:List ν):ao:=aY (ix (zN (yc (bT (FP rs (ο 0)))) (bT (ax (eI true) (eM D8 (ο 1) (ξ (eC (.bl true)) (ai))) (eC (.int 1))))) (cP (eC (.str "other"))) (fb)) (ZH rs)
def ZF(rs:List ν):ao:=aY (bt (ax dI (ο 1) (gP (ξ (rB rs "NoClocks" (ο 0)) (ξ (rB rs "NoText" (ο 0)) (ξ (rB rs "TooGreat" (ο 0)) (ai)))))) (hName 1)) (ZG rs)
def IU(rs:List ν):ao:=aY (bt (gP (ξ (rB rs "NoClock" (ο 0)) (ξ (rB rs "NoNumber" (ο 0)) (ξ (rB rs "NoPlace" (ο 0)) (ξ (rB rs "NoRow" (ο 0)) (ai)))))) (hName 1)) (ZF rs)
theorem ZE(rs:List ν):∀ds G Q,xA rs ds G Q->IU rs (bj Q) (br ["e","marks"] ds) G:=by
 rintro ds G Q ⟨p,z,w,fs,rfl,hp,hr,hk,q⟩;refine⟨_,_,hp,hr,_,_,hp,hr,_,_,hp,hr,_,_,hp,hr,fun p1 G1 n1=>?_⟩;have hp1:=n1.sub _ _ hp;refine⟨_,_,hp1,hr,_,_,hp1,hr,_,_,hp1,hr,fun p2 G2 n2=>?_⟩;have hp2:=n2.sub _ _ hp1;refine⟨_,_,n2.sub _ _ n1.at_,n2.at_,Nat.le_of_ble_eq_true rfl,fun p3 G3 n3=>?_⟩;have hp3:=n3.sub _ _ hp2;have s3:=(n1.sub.trans n2.sub).trans n3.sub;rcases hk with⟨rfl,rfl⟩|⟨rfl,rfl⟩
 ·have e3:G3 p3=some (.lst [.bl false,.bl false,.bl false,.bl false,.bl false,.bl false,.bl true]):=n3.at_;refine⟨_,_,hp3,hr,fun h=>(nomatch h),fun _=>?_⟩;refine⟨⟨p3,_,rfl,e3⟩,_,[false,false,false,false,false,false,true],e3,rfl,_,_,rfl,rfl,aI _,fun h=>absurd h (by decide),fun _=>?_⟩;refine⟨⟨p3,_,rfl,e3⟩,_,[false,false,false,false,false,false,true],6,e3,rfl,rfl,fun i hi=>?_,by decide,.str "great",rfl,fN (q G3 s3)⟩;have:i=0∨i=1∨i=2∨i=3∨i=4∨i=5:=by lia
  rcases this with rfl|rfl|rfl|rfl|rfl|rfl<;>rfl
 ·have e3:G3 p3=some (.lst [.bl false,.bl true,.bl false,.bl false,.bl false,.bl false,.bl false]):=n3.at_;refine⟨_,_,hp3,hr,fun h=>(nomatch h),fun _=>?_⟩;refine⟨⟨p3,_,rfl,e3⟩,_,[false,true,false,false,false,false,false],e3,rfl,_,_,rfl,rfl,aI _,fun h=>absurd h (by decide),fun _=>?_⟩;refine⟨⟨p3,_,rfl,e3⟩,_,[false,true,false,false,false,false,false],1,e3,rfl,rfl,fun i hi=>?_,by decide,.str "number",rfl,fN (q G3 s3)⟩;have:i=0:=by lia
  rw[this];rfl
def fsV(gA gN:ζ):ζ->qh->Prop:=fun f sp=>(f=gA/\sp=uu)∨(f=gN/\sp=uv)
def NoN(gA gN g:ζ)(cs:List af)(d:D):Prop:=(g=gA/\Known iS d/\(lB cs d=false∨∃i:Int,d=.int i/\i<0))∨(g=gN/\(∃n:Nat,d=.int n/\n<10^50)/\¬∃y,j3 cs y)
def ur(gA gN:ζ):eO:=fun ds G Q=>∃(g:ζ) (cs:List af) (d:D),ds=[.obj g,ff cs,d]/\(∀c∈cs,0<c.1)/\cs.length≤60 ∧
 ((10<cs.length/\((g=gA/\Known iS d)∨(g=gN/\∃n:Nat,d=.int n))/\Q (.str "great") G)∨(cs.length≤9/\iK cs/\NoN gA gN g cs d/\Q (.str "number") G))
def ZD(rs:List ν):ao:=cP (bo (xA rs) (ξ (ο 3) (ai)))
def D1(rs:List ν):ao:=aY (ix (Cb (bT (ax (eI false) (bo (xA rs) (ξ (ο 3) (ai))) (eC (.str "great")))) (bT (ax (eI true) (nv (ξ (yw rs "many" (ο 3)) (ξ (yw rs "most" (ο 3)) (ai)))) (nv (ξ (eN mU (ξ (ο 1) (ai))) (ξ (eC (.int 10)) (ai))))))) (cP (eC (.str "other"))) (fb)) (ZD rs)
def IT(rs:List ν)(g_missed_ahead g_nth_missed:ζ):ao:=DE rs 3 (yE (ya 0 (fsV g_missed_ahead g_nth_missed) (ξ (ο 1) (ξ (ο 2) (ai)))) (yD)) (D1 rs) (cP (eC (.str "told")))
theorem IS{Q:V3}{G:Gp}{cs:List af}{g:ζ}{d:D}(q:Q (.str "great") G):("TooGreat":ν)∈(["NoNumber","TooGreat"]:List ν)/\∀p G2,eF G p (.gen (jY "TooGreat" [("many",((cs.length:Nat):Int)),("most",10)])) G2->D1 ["NoNumber","TooGreat"] { nx:=fun _ _=>False,rt:=(bj Q).rt } (iX [some (.obj g),some (ff cs),some d,none] 3 (.obj p)) G2:=
 ⟨by simp,fun p G2 n=>by
  refine⟨p,_,"great",_,rfl,n.at_,by simp,.inl ⟨rfl,rfl⟩,fun G3 s3=>⟨_,_,rfl,rfl,aI _,fun _=>?_,fun h=>absurd h (by decide)⟩⟩;have hp:=s3 _ _ n.at_;refine⟨_,_,_,hp,by simp,rfl,_,_,_,hp,by simp,rfl,_,_,rfl,rfl,by show max 0 (max 0 0)+1≤50;decide,fun z=>?_,fun _=>⟨p,_,"great",_,rfl,hp,by simp,.inl ⟨rfl,rfl⟩,fun G4 s4=>rh ((n.sub.trans s3).trans s4) q⟩⟩;have z':(!((Dat.D.tup [.int ((cs.length:Nat):Int),.int 10]).eY (.tup [.int (((cs.map cD).length:Nat):Int),.int 10])))=true:=z;rw[π,show (Dat.D.tup [.int ((cs.length:Nat):Int),.int 10]).eY (.tup [.int ((cs.length:Nat):Int),.int 10])=true by simp[Dat.D.eY,Dat.nu]] at z';cases z'⟩
theorem IQ{Q:V3}{G:Gp}{cs:List af}{g:ζ}{d:D}(q:Q (.str "number") G):("NoNumber":ν)∈(["NoNumber","TooGreat"]:List ν)/\∀p G2,eF G p (.gen (jY "NoNumber" [])) G2->D1 ["NoNumber","TooGreat"] { nx:=fun _ _=>False,rt:=(bj Q).rt } (iX [some (.obj g),some (ff cs),some d,none] 3 (.obj p)) G2:=
 ⟨by simp,fun p G2 n=>by
  refine⟨p,_,"number",_,rfl,n.at_,by simp,.inr ⟨rfl,rfl⟩,fun G3 s3=>⟨_,_,rfl,rfl,aI _,fun h=>absurd h (by decide),fun _=>⟨nofun,fun _=>⟨p,_,"number",_,rfl,s3 _ _ n.at_,by simp,.inr ⟨rfl,rfl⟩,fun G4 s4=>rh ((n.sub.trans s3).trans s4) q⟩⟩⟩⟩⟩
theorem ZC(gA gN:ζ):∀ds G Q,ur gA gN ds G Q->IT ["NoNumber","TooGreat"] gA gN (bj Q) (br ["call","clocks","thing","e"] ds) G:=by
 rintro ds G Q ⟨g,cs,d,rfl,hp,hl,⟨hgt,hg,q⟩|⟨h9,h,hN,q⟩⟩
 ·have no:∀{P:Prop},cs.length≤10->P:=fun h=>absurd h (by lia);rcases hg with⟨rfl,hk⟩|⟨rfl,n,rfl⟩
  ·exact⟨g,uu,rfl,.inl ⟨rfl,rfl⟩,cs,d,rfl,hk,hp,hl,fun _=>IS q,no⟩
  ·exact⟨g,uv,rfl,.inr ⟨rfl,rfl⟩,cs,n,rfl,hp,hl,fun _=>IS q,no⟩
 ·have no:∀{P:Prop},10<cs.length->P:=fun h=>absurd h (by lia);rcases hN with⟨rfl,hk,hb⟩|⟨rfl,⟨n,rfl,hn⟩,hm⟩
  ·refine⟨g,uu,rfl,.inl ⟨rfl,rfl⟩,cs,d,rfl,hk,hp,hl,no,fun _=>⟨h9,h,fun _=>IQ q,fun em i ei h0=>?_⟩⟩;rcases hb with hb|⟨i',e',hi'⟩
   ·rw[em] at hb;cases hb
   ·rw[e'] at ei;cases ei;lia
  ·exact⟨g,uv,rfl,.inr ⟨rfl,rfl⟩,cs,n,rfl,hp,hl,no,fun _=>⟨h9,h,hn,fun _=>IQ q,fun hx=>absurd hx hm⟩⟩
end My
namespace My
open PySem L2 L3
def fe(cs:List af):List Nat:=(ar (gd cs)).filter fun x:Nat=>decide ((cs.filter (cp (x:Int))).length=0)
theorem ZA(cs:List af):(fe cs).length=iy cs 0 (gd cs):=rfl
theorem IP(p:Nat->Bool):∀(N i x:Nat),((ar N).filter p)[i]?=some x->p x=true/\x<N/\((ar x).filter p).length=i
 |0,i,x,h=>by cases h
 |N+1,i,x,h=>by
  rw[List.range_succ,dg,tL] at h;by_cases hi:i<((ar N).filter p).length
  ·rw[if_pos hi] at h;obtain⟨h1,h2,h3⟩:=IP p N i x h;exact⟨h1,by lia,h3⟩
  ·rw[if_neg hi] at h;cases hp:p N with
   |false=>
    rw[eQ,hp] at h;cases h
   |true=>
    rw[eQ,hp] at h;have h:[N][i-((ar N).filter p).length]?=some x:=h;obtain⟨h1,h2⟩:=au.mp h;have h1:i-((ar N).filter p).length<1:=h1;have:x=N:=by
     have:=bF h;exact cw.mp this
    subst this;exact⟨hp,by lia,by lia⟩
theorem D0{cs:List af}(h:iK cs)(t b:Nat):(cs.filter (cp ((t*gd cs+b:Nat):Int)))=(cs.filter (cp (b:Int))):=by
 rw[←AQ h,←AQ h];refine kT fun c hc=>?_;rw[←JA (h c hc).1.1 (Eg hc) (t*gd cs+b),Nat.mul_add_mod_self_right,JA (h c hc).1.1 (Eg hc)]
theorem DZ{cs:List af}(h:iK cs)(t:Nat):∀b:Nat,iy cs 0 (t*gd cs+b)=iy cs 0 (t*gd cs)+iy cs 0 b
 |0=>rfl
 |b+1=>by
  rw[←Nat.add_assoc,zw,DZ h t b,zw,D0 h];lia
theorem IM{cs:List af}(h:iK cs):∀t:Nat,iy cs 0 (t*gd cs)=t*(fe cs).length
 |0=>by rw[Nat.zero_mul,Nat.zero_mul];rfl
 |t+1=>by
  rw[rJ,vT,DZ h,IM h t,ZA,rJ,vT]
theorem Zz{cs:List af}(h:iK cs){n x:Nat}(hx:(fe cs)[n%(fe cs).length]?=some x):j3 cs ((n / (fe cs).length*gd cs+x:Nat):Int)/\iy cs 0 (n / (fe cs).length*gd cs+x)=n:=by
 obtain⟨h1,h2,h3⟩:=IP _ _ _ _ hx;refine⟨?_,?_⟩
 ·unfold j3;rw[D0 h];exact fE.mp (of_decide_eq_true h1)
 ·have h3:iy cs 0 x=n%(fe cs).length:=h3;rw[DZ h,IM h,h3,iO];exact jM _ _
theorem Zy{cs:List af}{y z:Nat}(hy:j3 cs (y:Int))(hz:j3 cs (z:Int))(e:iy cs 0 y=iy cs 0 z):y=z:=by
 have h1:=(yN cs y).1 hy;have h2:=(yN cs z).1 hz;rcases Nat.lt_trichotomy y z with w|w|w
 ·have:=AO cs (show y+1≤z from w);lia
 ·exact w
 ·have:=AO cs (show z+1≤y from w);lia
structure ym(cs:List af):Prop where
 c:iK cs
 l:cs.length≤8
theorem ym.ok{cs:List af}(h:ym cs):CV 1000 cs:=fun c hc=>⟨(h.c c hc).1,by have:=(h.c c hc).2;lia⟩
def yL:eO:=fun ds G Q=>∃(cs:List af) (p:ζ) (n:Nat),ds=[ff cs,.obj p,.int n]/\G p=some (.lst ((fe cs).map nD))/\ym cs/\gd cs≤1000/\fe cs≠[]/\n<10^45/\∀G',Sub G G'->Q (.bl true) G'
def Zx:ao:=cP (w9 (bo yZ (ξ (ο 6) (ai))) (ax (eI false) (ο 6) (ο 2)))
def Zw:ao:=aY (bt (qe uu MD (ξ (ο 0) (ξ (ο 5) (ai)))) (hName 6)) Zx
def Zv:ao:=aY (ix (zN (yc (bT (bo yZ (ξ (ο 5) (ai))))) (bT (ax (eI true) (ο 5) (ο 4)))) (cP (eC (.bl false))) (fb)) Zw
def Zu:ao:=aY (bt (qe uv MD (ξ (ο 0) (ξ (ο 2) (ai)))) (hName 5)) Zv
def Zt:ao:=aY (bt (ax dI (ax gZ (ax lA (ο 2) (eN mU (ξ (ο 1) (ai)))) (ο 3)) (ax fc (ο 1) (ax iY (ο 2) (eN mU (ξ (ο 1) (ai)))))) (hName 4)) Zu
def IL:ao:=aY (bt (bo wa (ξ (ο 0) (ai))) (hName 3)) Zt
theorem Zs{a b:Int}(h:a=b):¬(!((Dat.D.int a).eY (.int b)))=true:=by
 rw[h];show ¬(!(b==b))=true;rw[beq_self_eq_true];decide
theorem Zr:∀ds G Q,yL ds G Q->IL (bj Q) (br ["clocks","missed","n","size","due","found","ahead"] ds) G:=by
 rintro ds G Q ⟨cs,p,n,rfl,hp,h,hr,cK,hn,q⟩;have hl:=h.l;have hpos:0<(fe cs).length:=uc.mpr cK;have hml:(fe cs).length≤1000:=by
  refine aD (sx _ _) ?_;rw[pG];exact hr
 have hlm:((fe cs).map nD).length=(fe cs).length:=π ..;have hmod:n%(fe cs).length<(fe cs).length:=dO _ hpos;obtain⟨x,hx⟩:∃x,(fe cs)[n%(fe cs).length]?=some x:=⟨_,aE hmod⟩;obtain⟨d1,d2⟩:=Zz h.c hx;have hn':((n:Nat):Int)<10^45:=by exact_mod_cast hn
 have e1:((n:Nat):Int) / (((fe cs).length:Nat):Int)=((n / (fe cs).length:Nat):Int):=(gW _ _).symm;have e2:((n:Nat):Int)%(((fe cs).length:Nat):Int)=((n%(fe cs).length:Nat):Int):=(fM _ _).symm;have hdv:n / (fe cs).length≤n:=qR _ _;have hB:ie (((n:Nat):Int) / ((((fe cs).map nD).length:Nat):Int)):=by
  rw[hlm,e1];generalize n / (fe cs).length=m at hdv;exact eJ (by lia) (by lia)
 have hL:(0:Int)<((((fe cs).map nD).length:Nat):Int)/\ie ((((fe cs).map nD).length:Nat):Int):=by
  rw[hlm];exact⟨by lia,eJ (by lia) (by lia)⟩
 have hat:mv ((fe cs).map nD) (((n:Nat):Int)%((((fe cs).map nD).length:Nat):Int))=some (nD x):=by
  rw[hlm,e2];exact Bf (by rw[aK,hx];rfl)
 have edue:((n:Nat):Int) / ((((fe cs).map nD).length:Nat):Int)*((gd cs:Nat):Int)+(x:Int)=((n / (fe cs).length*gd cs+x:Nat):Int):=by
  rw[hlm,e1,Int.natCast_add,eH]
 have no:∀{P:Prop},10<cs.length->P:=fun h=>absurd h (by lia);refine⟨cs,rfl,h.ok,by lia,_,hp,hL,⟨hB,eJ (by lia) (by lia)⟩,_,hp,hL.1,_,_,hp,hat,?_⟩;refine⟨cs,n,rfl,h.c.p,by lia,no,fun _=>⟨by lia,h.c,by lia,fun hm=>absurd ⟨_,d1⟩ hm,fun _ y hy ey hb G1 j1=>?_⟩⟩;have eyd:y=n / (fe cs).length*gd cs+x:=Zy hy d1 (by rw[ey,d2]);have hpw:2^cs.length≤256:=aD (cH (by decide) hl) (by decide);have hyb:y<10^45*256:=bu hb (nF hn hpw);refine⟨trivial,nofun,fun _=>⟨_,_,rfl,rfl,aI _,fun g=>absurd g (Zs (by rw[eyd];exact edue.symm)),fun _=>?_⟩⟩;have em:lB cs (.int (y:Int))=true:=by
  show (cs.filter (rg (y:Int))).isEmpty=true;rw[AQ h.c,hy];rfl
 refine⟨cs,.int y,rfl,trivial,h.c.p,by lia,no,fun _=>⟨by lia,h.c,fun bad=>?_,fun _ i ei h0=>⟨y,by cases ei;rfl,by lia,fun G2 j2=>?_⟩⟩⟩
 ·rcases bad with bad|⟨i,ei,hi⟩
  ·rw[em] at bad;cases bad
  ·cases ei;lia
 rw[ey];refine⟨trivial,fun _=>⟨_,_,rfl,rfl,aI _,?_⟩,nofun⟩;show (bj Q).rt (.bl (((n:Nat):Int)==((n:Nat):Int))) G2;rw[beq_self_eq_true];exact fN (q G2 (j1.old.trans j2.old))
end My
namespace My
open PySem L2 L3
theorem Zq:∀ns:List Int,ft (ns.map D.int)=some (ns.map Dat.D.int):=by
 intro ns
 induction ns with
 |nil=>rfl
 |cons n ns ih=>
  show ft (D.int n::ns.map D.int)=_;rw[ft,ih];rfl
theorem Zp(ns:List Int):Dat.gQ (ns.map Dat.D.int)=0:=by
 induction ns with
 |nil=>rfl
 |cons n ns ih=>
  show max 0 (Dat.gQ (ns.map Dat.D.int))=0;lia
end My
namespace My
open PySem L2 L3
def nT:eO:=fun ds G Q=>∃ns:List Int,ds=[.fy (ns.map .int)]/\ns.length≤63/\Q (.bl true) G
section
variable (g_missed_ahead g_nth_missed:ζ)
def Zn:ao:=ix (zN (bT (ax (eI true) (bo (ur g_missed_ahead g_nth_missed) (ξ (eC (.obj g_missed_ahead)) (ξ (ο 1) (ξ (ο 2) (ai))))) (eC (.str "great")))) (bT (ax (eI true) (bo (ur g_missed_ahead g_nth_missed) (ξ (eC (.obj g_nth_missed)) (ξ (ο 1) (ξ (eC (.int 0)) (ai))))) (eC (.str "great"))))) (cP (eC (.bl false))) (fb)
def Zm:ao:=ix (yc (bT (bo yL (ξ (ο 5) (ξ (ο 7) (ξ (ο 8) (ai))))))) (cP (eC (.bl false))) (fb)
def IK:ao:=ix (bT (ax (eI false) (ο 7) (gP (ai)))) (ix (bT (ax (eI true) (bo (ur g_missed_ahead g_nth_missed) (ξ (eC (.obj g_nth_missed)) (ξ (ο 5) (ξ (bo mT (ξ (ο 4) (ξ (ax vh (eC (.int 10)) (eC (.int 20))) (ai)))) (ai))))) (eC (.str "number")))) (cP (eC (.bl false))) (fb)) (oE (qc (gP (ξ (eC (.int 0)) (ξ (eC (.int 1)) (ξ (eN mU (ξ (ο 7) (ai))) (ξ (bo mT (ξ (ο 4) (ξ (eC (.int 50)) (ai)))) (ξ (bo mT (ξ (ο 4) (ξ (ax vh (eC (.int 10)) (eC (.int 40))) (ai)))) (ξ (ax vh (eC (.int 10)) (eC (.int 40))) (ai))))))))) (hName 8) Zm)
def IJ:ao:=ix (bT (ax (eI true) (bo (ur g_missed_ahead g_nth_missed) (ξ (eC (.obj g_missed_ahead)) (ξ (ο 5) (ξ (ο 2) (ai))))) (eC (.str "number")))) (cP (eC (.bl false))) (fb)
def Zl:ao:=oE (qc (ο 9)) (hName 2) (IJ g_missed_ahead g_nth_missed)
def Zk:ao:=aY (bt (ax dI (ο 9) (i6 ["clock"] [4] (qc (ο 5)) (hName 0) (iW) (ax dI (ax fc (ο 0) (eC (.int 1))) (ax gZ (ax fc (ο 0) (eC (.int 0))) (bo mT (ξ (ο 1) (ξ (ax vh (eC (.int 10)) (eC (.int 30))) (ai)))))))) (hName 9)) (Zl g_missed_ahead g_nth_missed)
def II:ao:=aY (bt (gP (ξ (GR yp (eC (.int 1))) (ξ (eC (.bl true)) (ξ (eC .aB) (ξ (eC (.str "0")) (ξ (nv (ξ (eC (.int 0)) (ai))) (ξ (ax jH (GR yp (eC (.int 1))) (bo mT (ξ (ο 4) (ξ (eC (.int 100)) (ai))))) (ai)))))))) (hName 9)) (Zk g_missed_ahead g_nth_missed)
def Zj:ao:=aY (ix (bT (ax Ii (ο 6) (eC (.int 1000)))) (aY (bt (i6 ["number"] [5] (nJ (ξ (ο 6) (ai))) (hName 0) (bT (ax (eI false) (bo zC (ξ (ο 1) (ξ (ο 0) (ai)))) (eC (.int 0)))) (ο 0)) (hName 7)) (IK g_missed_ahead g_nth_missed)) (fb)) (II g_missed_ahead g_nth_missed)
def DY:ao:=aY (bt (bo wa (ξ (ο 5) (ai))) (hName 6)) (Zj g_missed_ahead g_nth_missed)
def Zi:ao:=aY (ix (bT (ax uq (bo wa (ξ (ο 5) (ai))) (eC (.int 1000)))) (bt (Ds (ο 5) (yq) (vj (eC (.int 3)))) (hName 5)) (fb)) (DY g_missed_ahead g_nth_missed)
def IH:ao:=aY (bt (bo yP (ξ (ο 4) (ξ (eC (.int 8)) (ai)))) (hName 5)) (Zi g_missed_ahead g_nth_missed)
def Zh:ao:=aY (bt (bo ED (ξ (ο 3) (ai))) (hName 4)) (IH g_missed_ahead g_nth_missed)
def Zg:ao:=cP (eC (.bl true))
def ZR:ao:=aY (oE (qc (ax dI (gP (ξ (bo yY (ξ (ο 0) (ξ (eC (.int 0)) (ai)))) (ai))) (Ds (ο 0) (vj (eC (.int 1))) (vj (eC (.int 5)))))) (hName 3) (Zh g_missed_ahead g_nth_missed)) Zg
def ZQ:ao:=aY (oE (qc (gP (ξ (eC (.int 0)) (ξ (eC .aB) (ai))))) (hName 2) (Zn g_missed_ahead g_nth_missed)) (ZR g_missed_ahead g_nth_missed)
def IG:ao:=aY (bt (eN zi (ξ (i6 ["k"] [] (nJ (ξ (eC (.int 11)) (ai))) (hName 0) (iW) (nv (ξ (eC (.int 11)) (ξ (ο 0) (ai))))) (ai))) (hName 1)) (ZQ g_missed_ahead g_nth_missed)
end
def Nf(cs:List af)(d:D):Prop:=Known iS d/\(lB cs d=false∨∃i:Int,d=.int i/\i<0)
theorem ZP{cs:List af}{c:af}(hv:Valid c)(hc:c∈cs)(r:Int):lB cs (.int (c.2+c.1*r))=false:=by
 show (cs.filter (rg (c.2+c.1*r))).isEmpty=false;rw[pO];intro e;have:c∈cs.filter (rg (c.2+c.1*r)):=jO.mpr ⟨hc,by
  rw[←Bk hv,cY];exact⟨r,by lia⟩⟩
 rw[e] at this;cases this
theorem ZO{gA gN:ζ}{D3:g0}{G:Gp}{cs:List af}{d:D}{x0 x1 x3 x4 x6 x7 x8 x9:Option D}(h:ym cs)(hb:Nf cs d)(q:D3.nx [x0,x1,some d,x3,x4,some (ff cs),x6,x7,x8,x9] G):IJ gA gN D3 [x0,x1,some d,x3,x4,some (ff cs),x6,x7,x8,x9] G:=by
 have hl:=h.l;exact⟨gA,cs,d,rfl,h.c.p,by lia,.inr ⟨by lia,h.c,.inl ⟨rfl,hb.1,hb.2⟩,_,_,rfl,rfl,aI _,fun g=>absurd g (by decide),fun _=>q⟩⟩
theorem IF{gA gN:ζ}{D3:g0}{G:Gp}{pp:ζ}{cs:List af}{x0 x1 x2 x3 x6 x7 x8 x9:Option D}(h:ym cs)(hpp:G pp=some .mW)(q:∀G' y2 y9,Sub G G'->D3.nx [x0,x1,y2,x3,some (.obj pp),some (ff cs),x6,x7,x8,y9] G'):
  II gA gN D3 [x0,x1,x2,x3,some (.obj pp),some (ff cs),x6,x7,x8,x9] G:=by
 have hl:=h.l;refine⟨pp,100,rfl,hpp,⟨by decide,eJ (by decide) (by decide)⟩,fun r r1 r2 p1 G1 n1=>?_⟩;have hpp1:=n1.sub _ _ hpp;refine⟨by show (cs.map cD).length≤aw;rw[π];exact eA (by lia),?_⟩;refine Bj (fun ds acc τ G'=>G'=G1/\(∃x,τ=[x,some (.obj pp)])/\∃(ms:List af) (as:List Int),ds=ms.map cD/\(∀c∈ms,c∈cs)/\acc=as.map D.int/\(∀i∈as,lB cs (.int i)=false)/\as.length+ms.length≤8) (fun _ _ _ _ _=>trivial) ?_ ?_ _ _ _ _ ⟨rfl,⟨none,rfl⟩,cs,[],rfl,fun _ h=>h,rfl,nofun,by simp;lia⟩
 ·rintro d ds acc τ G2 K1 K2 ⟨rfl,⟨x,rfl⟩,ms,as,e,hms,rfl,has,hlen⟩ g1 g2;cases ms with
  |nil=>cases e
  |cons c ms=>
   cases e;have hc:=hms c aa;have hv:=(h.c c hc).1;have h64:=(h.c c hc).2;have v1:=hv.1;rw[az] at hlen;refine⟨fun _=>⟨_,rfl,_,rfl,⟨by decide,by decide⟩,pp,_,rfl,hpp1,⟨by decide,eJ (by decide) (by decide)⟩,fun s s1 s2=>⟨⟨eJ (by lia) (by lia),?_⟩,g1 _ _ _ ⟨rfl,⟨_,rfl⟩,ms,as++[c.2+c.1*s],rfl,fun z hz=>hms z (Γ _ hz),by rw[cO];rfl,fun i hi=>?_,by rw[ah];show as.length+1+ms.length≤8;lia⟩⟩⟩,nofun⟩
   ·have s2:s<10^30:=s2;exact eJ (by lia) (by lia)
   ·rcases cA.mp hi with hi|hi
    ·exact has i hi
    ·rw[cw.mp hi];exact ZP hv hc s
 ·rintro acc τ G2 ⟨rfl,⟨x,rfl⟩,ms,as,e,hms,rfl,has,hlen⟩ p3 G3 n3;refine⟨_,_,n3.sub _ _ n1.at_,n3.at_,?_,fun p4 G4 n4=>⟨_,n4.at_,?_⟩⟩
  ·rw[π];exact eA (show 6+as.length≤1000 by lia)
  refine p9 (fun ds τ G'=>(∀d∈ds,Nf cs d)/\Sub G4 G'/\∃y2,τ=[x0,x1,y2,x3,some (.obj pp),some (ff cs),x6,x7,x8,some (.obj p4)]) (fun _ _ _ h=>h.2.1 _ _ n4.at_) ?_ ?_ _ _ _ ⟨fun d hd=>?_,Sub.refl _,_,rfl⟩
  ·rintro d ds τ G5 N ⟨hb,s5,y2,rfl⟩ hN;exact ZO h (hb d aa) (hN _ _ ⟨fun z hz=>hb z (Γ _ hz),s5,_,rfl⟩)
  ·rintro τ G5 ⟨_,s5,y2,rfl⟩;exact q G5 _ _ (n1.sub.trans (n3.sub.trans (n4.sub.trans s5)))
  ·rcases cA.mp hd with hd|hd
   ·have hd:d∈[D.int (-1),.bl true,.aB,.str "0",.tup [.int 0],.int (-1-r)]:=hd;simp only[Ω,ba,or_false] at hd;rcases hd with rfl|rfl|rfl|rfl|rfl|rfl
    ·exact⟨trivial,.inr ⟨_,rfl,by decide⟩⟩
    ·exact⟨trivial,.inl rfl⟩
    ·exact⟨trivial,.inl rfl⟩
    ·exact⟨trivial,.inl rfl⟩
    ·exact⟨trivial,.inl rfl⟩
    ·exact⟨trivial,.inr ⟨_,rfl,by lia⟩⟩
   ·obtain⟨i,hi,rfl⟩:=aT.mp hd;exact⟨trivial,.inl (has i hi)⟩
theorem ZN{cs:List af}(h:iK cs)(e:fe cs=[]):¬∃y,j3 cs y:=by
 rintro⟨y,hy⟩;obtain⟨k,hk,hm⟩:=D4 h hy 0 1 (.inl rfl);have hpos:=Jz fun z hz=>(h z hz).1.1;have e1:(0:Int)+1*(k:Int)=((k / gd cs*gd cs+k%gd cs:Nat):Int):=by
  rw[Nat.div_add_mod'];lia
 unfold j3 at hm;rw[e1,D0 h] at hm;have:k%gd cs∈fe cs:=jO.mpr ⟨bE.mpr (dO _ hpos),decide_eq_true (by rw[hm];rfl)⟩;rw[e] at this;cases this
def vM(cs:List af):List Int:=(fe cs).map fun x:Nat=>(x:Int)
theorem ZM(cs:List af):(fe cs).map nD=(vM cs).map D.int:=by
 unfold vM;rw[cy];rfl
theorem ZL{gA gN:ζ}{D3:g0}{G:Gp}{pp pm:ζ}{cs:List af}{x0 x1 x2 x3 x6 x8 x9:Option D}(h:ym cs)(hr:gd cs≤1000)(hpp:G pp=some .mW)(hm:G pm=some (.lst ((fe cs).map nD)))(q:∀G' y8,Sub G G'->D3.nx [x0,x1,x2,x3,some (.obj pp),some (ff cs),x6,some (.obj pm),y8,x9] G'):
  IK gA gN D3 [x0,x1,x2,x3,some (.obj pp),some (ff cs),x6,some (.obj pm),x8,x9] G:=by
 have hl:=h.l;have hml:(fe cs).length≤1000:=by
  refine aD (sx _ _) ?_;rw[pG];exact hr
 intro p1 G1 n1;have hm1:G1 pm=some (.lst ((vM cs).map D.int)):=by
  rw[←ZM];exact n1.sub _ _ hm
 have hd:(Dat.D.lst ((vM cs).map Dat.D.int)).kF≤50:=by
  show Dat.gQ ((vM cs).map Dat.D.int)+1≤50;rw[Zp];decide
 refine⟨_,_,xO hm1 (Zq _),xO n1.at_ rfl,hd,fun g=>?_,fun g=>?_⟩
 ·have g':(Dat.D.lst ((vM cs).map Dat.D.int)).eY (.lst [])=true:=g;rw[yW,lN,qz] at g';have e:fe cs=[]:=List.map_eq_nil_iff.mp g';refine⟨⟨by decide,by decide⟩,pp,_,rfl,n1.sub _ _ hpp,⟨by decide,eJ (by decide) (by decide)⟩,fun r r1 r2=>?_⟩;obtain⟨n,rfl⟩:∃n:Nat,r=(n:Int):=⟨r.toNat,by lia⟩;have r2:(n:Int)<10^20:=r2;exact⟨gN,cs,.int n,rfl,h.c.p,by lia,.inr ⟨by lia,h.c,.inr ⟨rfl,⟨n,rfl,by lia⟩,ZN h.c e⟩,_,_,rfl,rfl,aI _,fun g=>absurd g (by decide),fun _=>q G1 _ n1.sub⟩⟩
 ·have g':(Dat.D.lst ((vM cs).map Dat.D.int)).eY (.lst [])=false:=g;rw[yW,lN,pO] at g';have cK:fe cs≠[]:=fun e=>g' (by unfold vM;rw[e];rfl);have hpp1:=n1.sub _ _ hpp;refine⟨_,hm1,pp,50,rfl,hpp1,⟨by decide,eJ (by decide) (by decide)⟩,fun r r1 r2=>⟨⟨by decide,by decide⟩,pp,_,rfl,hpp1,⟨by decide,eJ (by decide) (by decide)⟩,fun r' r1' r2'=>⟨⟨by decide,by decide⟩,fun p2 G2 n2=>⟨_,n2.at_,?_⟩⟩⟩⟩;refine p9 (fun ds τ G'=>∃(is:List Int) (y8:Option D),ds=is.map D.int/\(∀i∈is,0≤i/\i<10^45)/\τ=[x0,x1,x2,x3,some (.obj pp),some (ff cs),x6,some (.obj pm),y8,x9]/\Sub G2 G') (fun _ _ _ h=>?_) ?_ ?_ _ _ _ ⟨[0,1,((((vM cs).map D.int).length:Nat):Int),r,r',10^(40:Int).toNat],x8,rfl,fun i hi=>?_,rfl,Sub.refl _⟩
  ·obtain⟨_,_,_,_,_,s⟩:=h;exact s _ _ n2.at_
  ·rintro d ds τ G3 N ⟨is,y8,e,hb,rfl,s⟩ hN;cases is with
   |nil=>cases e
   |cons i is=>
    cases e;have hi:=hb i aa;obtain⟨n,rfl⟩:∃n:Nat,i=(n:Int):=⟨i.toNat,by lia⟩;exact⟨cs,pm,n,rfl,s _ _ (n2.sub _ _ (n1.sub _ _ hm)),h,hr,cK,by lia,fun G4 s4=>⟨nofun,fun _=>hN _ _ ⟨is,_,rfl,fun z hz=>hb z (Γ _ hz),rfl,s.trans s4⟩⟩⟩
  ·rintro τ G3 ⟨is,y8,e,hb,rfl,s⟩;exact q G3 _ (n1.sub.trans (n2.sub.trans s))
  ·have r2':r' < 10^40:=r2';simp only[Ω,ba,or_false] at hi;rcases hi with rfl|rfl|rfl|rfl|rfl|rfl
   ·decide
   ·decide
   ·rw[π];unfold vM;rw[π];lia
   ·lia
   ·lia
   ·decide
theorem IE{gA gN:ζ}{D3:g0}{G:Gp}{pp:ζ}{cs:List af}{x0 x1 x2 x3 x6 x7 x8 x9:Option D}(h:ym cs)(hpp:G pp=some .mW)(q:∀G' y2 y5 y6 y7 y8 y9,Sub G G'->D3.nx [x0,x1,y2,x3,some (.obj pp),y5,y6,y7,y8,y9] G'):
  DY gA gN D3 [x0,x1,x2,x3,some (.obj pp),some (ff cs),x6,x7,x8,x9] G:=by
 have hl:=h.l;refine⟨cs,rfl,h.ok,by lia,fun g=>?_,fun _=>IF h hpp fun G1 y2 y9 s1=>q G1 _ _ _ _ _ _ s1⟩;have g':((gd cs:Nat):Int)≤1000:=of_decide_eq_true g;refine⟨⟨by lia,by lia⟩,?_,?_⟩
 ·show (kM 0 (((gd cs:Nat):Int)).toNat).length≤aw;rw[xF,bY];exact eA (by lia)
 show jj _ _ _ _ _ (kM 0 (((gd cs:Nat):Int)).toNat) _ _ _;rw[bY,DH];refine rf (fun τ=>∃x,τ=[x,some (ff cs)]) nD (fun x:Nat=>decide ((cs.filter (cp (x:Int))).length=0)) nD (G:=G) trivial (ar (gd cs)) [] _ ⟨none,rfl⟩ ?_ ?_
 ·rintro k hk τ K1 K2 ⟨x,rfl⟩ g1 g2;refine⟨cs,(k:Int),rfl,h.c.p,by lia,_,_,rfl,rfl,aI _,fun z=>g1 ?_ _ ⟨_,rfl⟩,fun z=>g2 ?_ _ ⟨_,rfl⟩⟩
  ·have z':((((cs.filter (cp (k:Int))).length:Nat):Int)==0)=true:=z;rw[beq_iff_eq] at z';exact decide_eq_true (by lia)
  ·have z':((((cs.filter (cp (k:Int))).length:Nat):Int)==0)=false:=z;rw[beq_eq_false_iff_ne] at z';exact decide_eq_false (by lia)
 ·intro pm G1 n1;rw[eG] at n1;exact ZL h (by lia) (n1.sub _ _ hpp) n1.at_ fun G2 y8 s2=>IF h (s2 _ _ (n1.sub _ _ hpp)) fun G3 y2 y9 s3=>q G3 _ _ _ _ _ _ (n1.sub.trans (s2.trans s3))
theorem ZK{gA gN:ζ}{D3:g0}{G:Gp}{pp:ζ}{x0 x1 x2 x3 x5 x6 x7 x8 x9:Option D}(hpp:G pp=some .mW)(q:∀G' y2 y5 y6 y7 y8 y9,Sub G G'->D3.nx [x0,x1,y2,x3,some (.obj pp),y5,y6,y7,y8,y9] G'):
  IH gA gN D3 [x0,x1,x2,x3,some (.obj pp),x5,x6,x7,x8,x9] G:=by
 refine⟨pp,rfl,hpp,fun cs hb hl hr=>?_⟩;have h:ym cs:=⟨fun c hc=>⟨(hb.1 c hc).1,hb.2.2 c hc⟩,hl⟩;refine⟨cs,rfl,hb.1,by lia,fun _=>?_,fun _=>IE h hpp q⟩;have e:D.tup (mq (cs.map cD) none (some ((3:Nat):Int)))=ff (cs.take 3):=by
  rw[EB,Km];rfl
 show DY gA gN D3 [x0,x1,x2,x3,some (.obj pp),some (D.tup (mq (cs.map cD) none (some ((3:Nat):Int)))),x6,x7,x8,x9] G;rw[e];exact IE ⟨fun c hc=>h.c c (mI hc),by rw[eP];lia⟩ hpp q
def mn:List af:=(ar 11).map fun k:Nat=>((11:Int),(k:Int))
theorem ID:∀c∈mn,0<c.1:=fun c hc=>by
 obtain⟨k,_,rfl⟩:=aT.mp hc;show (0:Int)<11;decide
theorem ZJ(gA gN:ζ):∀ds G Q,nT ds G Q->IG gA gN (bj Q) (br ["script","many","thing","cell","pen","clocks","size","missed","n","bad"] ds) G:=by
 rintro ds G Q ⟨ns,rfl,hl,q⟩;refine⟨⟨by decide,by decide⟩,by decide,?_⟩;show jj _ _ _ _ _ (kM 0 ((11:Int)).toNat) _ _ _;rw[show ((11:Int)).toNat=11 from rfl,DH];refine rf (fun τ=>∃x,τ=[x]) nD (fun _=>true) (fun k:Nat=>cD ((11:Int),(k:Int))) (G:=G) trivial (ar 11) [] _ ⟨none,rfl⟩ ?_ ?_
 ·rintro k hm τ K1 K2 ⟨x,rfl⟩ h1 h2;exact⟨fun _=>h1 rfl _ ⟨_,rfl⟩,nofun⟩
 intro pt Gt nt;rw[filter_all,eG] at nt;refine⟨_,nt.at_,?_⟩;have ee:D.tup ((ar 11).map fun k:Nat=>cD ((11:Int),(k:Int)))=ff mn:=by
  show _=D.tup (mn.map cD);unfold mn;rw[cy];rfl
 rw[ee];intro pa Ga na;refine⟨_,na.at_,?_⟩;refine p9 (fun ds τ G'=>G'=Ga/\(∀d∈ds,Known iS d)/\∃y2,τ=[some (.fy (ns.map .int)),some (ff mn),y2,none,none,none,none,none,none,none]) (fun _ _ _ h=>?_) ?_ ?_ _ _ _ ⟨rfl,fun d hd=>?_,_,rfl⟩
 ·rw[h.1];exact na.at_
 ·rintro d ds τ G1 N ⟨rfl,hk,y2,rfl⟩ hN;have hlen:mn.length=11:=rfl;exact⟨gA,mn,d,rfl,ID,by rw[hlen];lia,.inl ⟨by rw[hlen];lia,.inl ⟨rfl,hk d aa⟩,_,_,rfl,rfl,aI _,fun g=>absurd g (by decide),fun _=>⟨gN,mn,.int ((0:Nat):Int),rfl,ID,by rw[hlen];lia,.inl ⟨by rw[hlen];lia,.inr ⟨rfl,0,rfl⟩,_,_,rfl,rfl,aI _,fun g=>absurd g (by decide),fun _=>hN _ _ ⟨rfl,fun z hz=>hk z (Γ _ hz),_,rfl⟩⟩⟩⟩⟩
 ·rintro τ Gb ⟨rfl,_,y2,rfl⟩;refine⟨ns,0,rfl,fun i=>?_⟩;intro q0 G0 n0 q1 G1 n1;rw[EB] at n1;have hcl:=SK ns (some 1) (some 5);refine⟨_,_,n1.sub _ _ n0.at_,n1.at_,?_,fun q2 G2 n2=>?_⟩
  ·rw[π];exact eA (by simp;lia)
  have s2:=(nt.sub.trans na.sub).trans ((n0.sub.trans n1.sub).trans n2.sub);refine⟨_,n2.at_,?_⟩;refine p9 (fun ds τ G'=>(∃is:List Int,ds=is.map D.int)/\Sub G2 G'/\∃x2 x3 x4 x5 x6 x7 x8 x9,τ=[some (.fy (ns.map .int)),some (ff mn),x2,x3,x4,x5,x6,x7,x8,x9]) (fun _ _ _ h=>h.2.1 _ _ n2.at_) ?_ ?_ _ _ _ ⟨⟨i::wJ ns (some 1) (some 5),rfl⟩,Sub.refl _,_,_,_,_,_,_,_,_,rfl⟩
  ·rintro d ds τ G3 N ⟨⟨is,e⟩,s3,x2,x3,x4,x5,x6,x7,x8,x9,rfl⟩ hN;cases is with
   |nil=>cases e
   |cons cc is=>
    cases e;exact⟨cc,rfl,fun pp G4 n4=>ZK n4.at_ fun G5 y2 y5 y6 y7 y8 y9 s5=>hN _ _ ⟨⟨is,rfl⟩,s3.trans (n4.sub.trans s5),_,_,_,_,_,_,_,_,rfl⟩⟩
  ·rintro τ G3 ⟨_,s3,x2,x3,x4,x5,x6,x7,x8,x9,rfl⟩;exact rh (s2.trans s3) q
 ·have hd:d∈[D.int 0,D.aB]:=hd;simp only[Ω,ba,or_false] at hd;rcases hd with rfl|rfl<;>trivial
end My
namespace My
open PySem L2 L3
def top(i:Nat):aM:=PySem.Challenge.pw_coverclocks_k50_missed_ones_numbered.main.body.getD i (.Pass ⟨0,0,0,0⟩)
def NR:aM->aM
 |.ClassDef _ _ _ b ..=>b.getD 0 (.Pass ⟨0,0,0,0⟩)
 |s=>s
abbrev DX:aM:=top 10
abbrev ZI:List ν:=["thing"]
theorem Y5:bp ZI ["thing"] (Ξ DX):=⟨rfl,rfl,rfl,by decide +kernel,rfl,by decide +kernel,by decide +kernel⟩
abbrev DW:aM:=top 11
abbrev Y4:List ν:=["many","most"]
theorem Y3:bp Y4 ["many","most"] (Ξ DW):=⟨rfl,rfl,rfl,by decide +kernel,rfl,by decide +kernel,by decide +kernel⟩
abbrev DV:aM:=top 12
abbrev Y2:List ν:=["times","number","turn"]
theorem wQ:bp Y2 ["times"] (Ξ DV):=⟨rfl,rfl,rfl,by decide +kernel,rfl,by decide +kernel,by decide +kernel⟩
abbrev DU:aM:=top 13
abbrev Y1:List ν:=["one","other","left"]
theorem yo:bp Y1 ["one","other"] (Ξ DU):=⟨rfl,rfl,rfl,by decide +kernel,rfl,by decide +kernel,by decide +kernel⟩
abbrev DT:aM:=top 14
abbrev Y0:List ν:=["number","bound","high","low","high_factor","low_factor","turns","left","left_factor"]
theorem je:bp Y0 ["number","bound"] (Ξ DT):=⟨rfl,rfl,rfl,by decide +kernel,rfl,by decide +kernel,by decide +kernel⟩
abbrev DS:aM:=top 16
abbrev YZ:List ν:=["clock","number"]
theorem YY:bp YZ ["clock","number"] (Ξ DS):=⟨rfl,rfl,rfl,by decide +kernel,rfl,by decide +kernel,by decide +kernel⟩
abbrev AM:aM:=top 17
abbrev IC:List ν:=["clocks","number"]
theorem YX:bp IC ["clocks","number"] (Ξ AM):=⟨rfl,rfl,rfl,by decide +kernel,rfl,by decide +kernel,by decide +kernel⟩
abbrev DR:aM:=top 18
abbrev YW:List ν:=["one","other","shared","apart","many","turns"]
theorem uk:bp YW ["one","other"] (Ξ DR):=⟨rfl,rfl,rfl,by decide +kernel,rfl,by decide +kernel,by decide +kernel⟩
abbrev DQ:aM:=top 20
abbrev YV:List ν:=["clocks","thing"]
theorem YU:bp YV ["clocks","thing"] (Ξ DQ):=⟨rfl,rfl,rfl,by decide +kernel,rfl,by decide +kernel,by decide +kernel⟩
abbrev AL:aM:=top 23
abbrev IB:List ν:=["clocks","weights","clock","grown","met","weight","both"]
theorem nU:bp IB ["clocks"] (Ξ AL):=⟨rfl,rfl,rfl,by decide +kernel,rfl,by decide +kernel,by decide +kernel⟩
abbrev AK:aM:=top 24
abbrev Jn:List ν:=["weights","met","weight","ahead"]
theorem C9:bp Jn ["weights","met","weight"] (Ξ AK):=⟨rfl,rfl,rfl,by decide +kernel,rfl,by decide +kernel,by decide +kernel⟩
abbrev Es:aM:=top 25
abbrev YT:List ν:=["clock","bound"]
theorem YS:bp YT ["clock","bound"] (Ξ Es):=⟨rfl,rfl,rfl,by decide +kernel,rfl,by decide +kernel,by decide +kernel⟩
abbrev AJ:aM:=top 26
abbrev Jm:List ν:=["weights","bound"]
theorem YR:bp Jm ["weights","bound"] (Ξ AJ):=⟨rfl,rfl,rfl,by decide +kernel,rfl,by decide +kernel,by decide +kernel⟩
abbrev Er:aM:=top 27
abbrev YQ:List ν:=["clocks","n","weights","low","high","middle"]
theorem pZ:bp YQ ["clocks","n"] (Ξ Er):=⟨rfl,rfl,rfl,by decide +kernel,rfl,by decide +kernel,by decide +kernel⟩
abbrev Ep:aM:=top 28
abbrev YO:List ν:=["clocks","number"]
theorem YN:bp YO ["clocks","number"] (Ξ Ep):=⟨rfl,rfl,rfl,by decide +kernel,rfl,by decide +kernel,by decide +kernel⟩
abbrev Eo:aM:=top 29
abbrev YM:List ν:=["clocks"]
theorem YL:bp YM ["clocks"] (Ξ Eo):=⟨rfl,rfl,rfl,by decide +kernel,rfl,by decide +kernel,by decide +kernel⟩
abbrev En:aM:=top 30
abbrev YK:List ν:=["clocks","number","looked"]
theorem Dd:bp YK ["clocks","number"] (Ξ En):=⟨rfl,rfl,rfl,by decide +kernel,rfl,by decide +kernel,by decide +kernel⟩
abbrev Em:aM:=top 32
abbrev YJ:List ν:=["script","k"]
theorem YI:bp YJ ["script","k"] (Ξ Em):=⟨rfl,rfl,rfl,by decide +kernel,rfl,by decide +kernel,by decide +kernel⟩
abbrev El:aM:=top 33
abbrev YH:List ν:=["seed"]
theorem C7:bp YH ["seed"] (Ξ El):=⟨rfl,rfl,rfl,by decide +kernel,rfl,by decide +kernel,by decide +kernel⟩
abbrev Ek:aM:=top 34
abbrev YG:List ν:=["cell","left"]
theorem Dc:bp YG ["cell"] (Ξ Ek):=⟨rfl,rfl,rfl,by decide +kernel,rfl,by decide +kernel,by decide +kernel⟩
abbrev Ej:aM:=top 35
abbrev YF:List ν:=["pen","many","found"]
theorem C6:bp YF ["pen","many"] (Ξ Ej):=⟨rfl,rfl,rfl,by decide +kernel,rfl,by decide +kernel,by decide +kernel⟩
abbrev Ei:aM:=top 36
abbrev Zf:List ν:=["found"]
theorem Ze:bp Zf ["found"] (Ξ Ei):=⟨rfl,rfl,rfl,by decide +kernel,rfl,by decide +kernel,by decide +kernel⟩
abbrev DP:aM:=top 37
abbrev Zd:List ν:=["e","marks"]
theorem yI:bp Zd ["e"] (Ξ DP):=⟨rfl,rfl,rfl,by decide +kernel,rfl,by decide +kernel,by decide +kernel⟩
abbrev DO:aM:=top 38
abbrev Zc:List ν:=["pen","most","step"]
theorem Gn:bp Zc ["pen","most"] (Ξ DO):=⟨rfl,rfl,rfl,by decide +kernel,rfl,by decide +kernel,by decide +kernel⟩
abbrev AI:aM:=top 39
abbrev Jl:List ν:=["pen","least","most","clocks","k","step","rest"]
theorem sF:bp Jl ["pen","least","most"] (Ξ AI):=⟨rfl,rfl,rfl,by decide +kernel,rfl,by decide +kernel,by decide +kernel⟩
abbrev AH:aM:=top 40
abbrev Jk:List ν:=["pen","most","way","found","steps","turn","step"]
theorem pJ:bp Jk ["pen","most"] (Ξ AH):=⟨rfl,rfl,rfl,by decide +kernel,rfl,by decide +kernel,by decide +kernel⟩
abbrev DN:aM:=top 41
abbrev Zb:List ν:=["clock","number"]
theorem Za:bp Zb ["clock","number"] (Ξ DN):=⟨rfl,rfl,rfl,by decide +kernel,rfl,by decide +kernel,by decide +kernel⟩
abbrev DM:aM:=top 42
abbrev Y9:List ν:=["one","other"]
theorem C8:bp Y9 ["one","other"] (Ξ DM):=⟨rfl,rfl,rfl,by decide +kernel,rfl,by decide +kernel,by decide +kernel⟩
abbrev DL:aM:=top 43
abbrev Y8:List ν:=["clocks","found","step","rest"]
theorem uo:bp Y8 ["clocks"] (Ξ DL):=⟨rfl,rfl,rfl,by decide +kernel,rfl,by decide +kernel,by decide +kernel⟩
abbrev AG:aM:=top 44
abbrev Jj:List ν:=["clocks","number"]
theorem Y7:bp Jj ["clocks","number"] (Ξ AG):=⟨rfl,rfl,rfl,by decide +kernel,rfl,by decide +kernel,by decide +kernel⟩
abbrev DK:aM:=top 45
abbrev Y6:List ν:=["call","clocks","thing","e"]
theorem C5:bp Y6 ["call","clocks","thing"] (Ξ DK):=⟨rfl,rfl,rfl,by decide +kernel,rfl,by decide +kernel,by decide +kernel⟩
abbrev DJ:aM:=top 46
abbrev Yu:List ν:=["clocks","missed","n","size","due","found","ahead"]
theorem um:bp Yu ["clocks","missed","n"] (Ξ DJ):=⟨rfl,rfl,rfl,by decide +kernel,rfl,by decide +kernel,by decide +kernel⟩
abbrev xy:aM:=top 47
abbrev AF:List ν:=["script","many","thing","cell","pen","clocks","size","missed","n","bad"]
theorem iF:bp AF ["script"] (Ξ xy):=⟨rfl,rfl,rfl,by decide +kernel,rfl,by decide +kernel,by decide +kernel⟩
abbrev xw:aM:=NR (top 8)
theorem Yt:bp ["self","many","most"] ["self","many","most"] (Ξ xw):=⟨rfl,rfl,rfl,by decide +kernel,rfl,by decide +kernel,by decide +kernel⟩
set_option genInjectivity false in
structure HA where
 B1:ζ
 Cy:aq
 FI:ζ
 FT:aq
 BJ:ζ
 Cd:aq
 FO:ζ
 FY:aq
 B0:ζ
 Cw:aq
 BI:ζ
 Cc:aq
 BO:ζ
 Cj:aq
 BK:ζ
 Ce:aq
 BS:ζ
 Co:aq
 BX:ζ
 Cs:aq
 BZ:ζ
 Cv:aq
 FH:ζ
 FQ:aq
 FJ:ζ
 FU:aq
 nL:ζ
 Ct:aq
 rA:ζ
 FR:aq
 BP:ζ
 Ck:aq
 B5:ζ
 CC:aq
 B3:ζ
 CA:aq
 BN:ζ
 Ci:aq
 B2:ζ
 Cz:aq
 BM:ζ
 Cg:aq
 BV:ζ
 Cq:aq
 B4:ζ
 CB:aq
 FL:ζ
 FW:aq
 FK:ζ
 FV:aq
 FN:ζ
 FX:aq
 BR:ζ
 Cn:aq
 BY:ζ
 Cu:aq
 BW:ζ
 Cr:aq
 BU:ζ
 Cp:aq
 BL:ζ
 Cf:aq
 BQ:ζ
 Cm:aq
 B6:ζ
 xa:aq
 jZ:ζ
 nY:ζ
 df:ζ
 nX:ζ
 rV:ζ
 mr:ζ
 qf:ζ
 de:ζ
 gK:ζ
 zZ:aq
 vz:Tok
structure Txt(K:η)(mg:ν->Option ε)(t:HA):Prop where
 Ht:dR K "whole_good" "whole_good" DX t.B1 t.Cy
 NG:mg "whole_good" = some (.ref t.B1)
 N9:Binds K t.Cy ["thing"] []
 Ge:dR K "refuse_above" "refuse_above" DW t.FI t.FT
 MH:mg "refuse_above" = some (.ref t.FI)
 MY:Binds K t.FT ["many","most"] []
 Hk:dR K "doubled" "doubled" DV t.BJ t.Cd
 Nx:mg "doubled" = some (.ref t.BJ)
 NY:Binds K t.Cd ["times"] []
 Nd:dR K "common_divisor" "common_divisor" DU t.FO t.FY
 aaI:mg "common_divisor" = some (.ref t.FO)
 aa5:Binds K t.FY ["one","other"] []
 Hs:dR K "inverse_of" "inverse_of" DT t.B0 t.Cw
 NF:mg "inverse_of" = some (.ref t.B0)
 N8:Binds K t.Cw ["number","bound"] []
 Hj:dR K "rings" "rings" DS t.BI t.Cc
 Nw:mg "rings" = some (.ref t.BI)
 NX:Binds K t.Cc ["clock","number"] []
 CL:dR K "rings_at" "rings_at" AM t.BO t.Cj
 GF:mg "rings_at" = some (.ref t.BO)
 GU:Binds K t.Cj ["clocks","number"] []
 Hl:dR K "meet_of" "meet_of" DR t.BK t.Ce
 Ny:mg "meet_of" = some (.ref t.BK)
 NZ:Binds K t.Ce ["one","other"] []
 Ho:dR K "miss_good" "miss_good" DQ t.BS t.Co
 NB:mg "miss_good" = some (.ref t.BS)
 N5:Binds K t.Co ["clocks","thing"] []
 CO:dR K "weights_of" "weights_of" AL t.BX t.Cs
 GI:mg "weights_of" = some (.ref t.BX)
 GX:Binds K t.Cs ["clocks"] []
 CQ:dR K "put_weight" "put_weight" AK t.BZ t.Cv
 GJ:mg "put_weight" = some (.ref t.BZ)
 GZ:Binds K t.Cv ["weights","met","weight"] []
 Na:dR K "rings_below" "rings_below" Es t.FH t.FQ
 aaF:mg "rings_below" = some (.ref t.FH)
 aa2:Binds K t.FQ ["clock","bound"] []
 Gf:dR K "missed_below" "missed_below" AJ t.FJ t.FU
 MI:mg "missed_below" = some (.ref t.FJ)
 MZ:Binds K t.FU ["weights","bound"] []
 CP:dR K "nth_missed" "nth_missed" Er t.nL t.Ct
 Bx:mg "nth_missed" = some (.ref t.nL)
 GY:Binds K t.Ct ["clocks","n"] []
 Gd:dR K "missed_ahead" "missed_ahead" Ep t.rA t.FR
 Fx:mg "missed_ahead" = some (.ref t.rA)
 MX:Binds K t.FR ["clocks","number"] []
 CM:dR K "window_of" "window_of" Eo t.BP t.Ck
 GG:mg "window_of" = some (.ref t.BP)
 GV:Binds K t.Ck ["clocks"] []
 Hx:dR K "next_missed" "next_missed" En t.B5 t.CC
 NJ:mg "next_missed" = some (.ref t.B5)
 Oc:Binds K t.CC ["clocks","number"] []
 Hw:dR K "_law_cell_at" "_law_cell_at" Em t.B3 t.CA
 NI:mg "_law_cell_at" = some (.ref t.B3)
 Ob:Binds K t.CA ["script","k"] []
 CK:dR K "_law_next" "_law_next" El t.BN t.Ci
 GD:mg "_law_next" = some (.ref t.BN)
 GS:Binds K t.Ci ["seed"] []
 Hu:dR K "_law_pen_of" "_law_pen_of" Ek t.B2 t.Cz
 NH:mg "_law_pen_of" = some (.ref t.B2)
 Oa:Binds K t.Cz ["cell"] []
 ib:dR K "_law_draw" "_law_draw" Ej t.BM t.Cg
 iz:mg "_law_draw" = some (.ref t.BM)
 iA:Binds K t.Cg ["pen","many"] []
 CN:dR K "_law_whole" "_law_whole" Ei t.BV t.Cq
 GH:mg "_law_whole" = some (.ref t.BV)
 GW:Binds K t.Cq ["found"] []
 CS:dR K "_law_kind_of" "_law_kind_of" DP t.B4 t.CB
 GK:mg "_law_kind_of" = some (.ref t.B4)
 Hc:Binds K t.CB ["e"] []
 Gh:dR K "_law_clock_by" "_law_clock_by" DO t.FL t.FW
 MJ:mg "_law_clock_by" = some (.ref t.FL)
 M0:Binds K t.FW ["pen","most"] []
 Nb:dR K "_law_parts_by" "_law_parts_by" AI t.FK t.FV
 aaG:mg "_law_parts_by" = some (.ref t.FK)
 aa3:Binds K t.FV ["pen","least","most"] []
 Nc:dR K "_law_clocks_by" "_law_clocks_by" AH t.FN t.FX
 aaH:mg "_law_clocks_by" = some (.ref t.FN)
 aa4:Binds K t.FX ["pen","most"] []
 Hn:dR K "_law_rings" "_law_rings" DN t.BR t.Cn
 NA:mg "_law_rings" = some (.ref t.BR)
 N4:Binds K t.Cn ["clock","number"] []
 Hr:dR K "_law_common" "_law_common" DM t.BY t.Cu
 ND:mg "_law_common" = some (.ref t.BY)
 N7:Binds K t.Cu ["one","other"] []
 yz:dR K "_law_round" "_law_round" DL t.BW t.Cr
 Bw:mg "_law_round" = some (.ref t.BW)
 CG:Binds K t.Cr ["clocks"] []
 Hq:dR K "_law_times" "_law_times" AG t.BU t.Cp
 NC:mg "_law_times" = some (.ref t.BU)
 N6:Binds K t.Cp ["clocks","number"] []
 xh:dR K "_law_said" "_law_said" DK t.BL t.Cf
 yr:mg "_law_said" = some (.ref t.BL)
 yx:Binds K t.Cf ["call","clocks","thing"] []
 Hm:dR K "_law_right" "_law_right" DJ t.BQ t.Cm
 Nz:mg "_law_right" = some (.ref t.BQ)
 N0:Binds K t.Cm ["clocks","missed","n"] []
 Of:dR K "law" "law" xy t.B6 t.xa
 NN:mg "law" = some (.ref t.B6)
 abN:Binds K t.xa ["script"] []
 zF:mg "ClockError" = some (.ref t.jZ)
 HP:dG K "ClockError" t.jZ
 Dn:mg "NoClock" = some (.ref t.nY)
 NU:dG K "NoClock" t.nY
 sQ:mg "NoNumber" = some (.ref t.df)
 dJ:dG K "NoNumber" t.df
 Dm:mg "NoPlace" = some (.ref t.nX)
 NT:dG K "NoPlace" t.nX
 HI:mg "NoRow" = some (.ref t.rV)
 aaZ:dG K "NoRow" t.rV
 Bz:mg "NoClocks" = some (.ref t.mr)
 Ng:dG K "NoClocks" t.mr
 Fy:mg "NoText" = some (.ref t.qf)
 Oq:dG K "NoText" t.qf
 wW:mg "TooGreat" = some (.ref t.de)
 dU:dG K "TooGreat" t.de
 sP:qj K t.df t.jZ none
 fS:fU K t.df
 t9:ω K (.ref t.df) (.ref t.nY)=some false
 sZ:ω K (.ref t.df) (.ref t.mr)=some false
 sY:ω K (.ref t.df) (.ref t.df)=some true
 t8:ω K (.ref t.df) (.ref t.nX)=some false
 vB:ω K (.ref t.df) (.ref t.rV)=some false
 uF:ω K (.ref t.df) (.ref t.qf)=some false
 sX:ω K (.ref t.df) (.ref t.de)=some false
 zV:ω K (.ref t.df) (.type "ValueError")=some true
 wF:my K t.df "many"
 wD:my K t.df "most"
 wV:vw K t.de t.jZ t.gK t.zZ "TooGreat.__init__" xw ["many","most"]
 fR:fU K t.de
 t7:ω K (.ref t.de) (.ref t.nY)=some false
 sV:ω K (.ref t.de) (.ref t.mr)=some false
 sU:ω K (.ref t.de) (.ref t.df)=some false
 t6:ω K (.ref t.de) (.ref t.nX)=some false
 vA:ω K (.ref t.de) (.ref t.rV)=some false
 uE:ω K (.ref t.de) (.ref t.qf)=some false
 sT:ω K (.ref t.de) (.ref t.de)=some true
 zU:ω K (.ref t.de) (.type "ValueError")=some true
 wC:my K t.de "many"
 wB:my K t.de "most"
 pb:mg "MOST_FAR_CLOCKS" = some (.int 10 t.vz)
 zE:mg "ValueError" = none
 Dl:mg "bool" = none
 By:mg "int" = none
 dH:mg "isinstance" = none
 i4:mg "len" = none
 yt:mg "max" = none
 NM:mg "min" = none
 nj:mg "range" = none
 NL:mg "set" = none
 wz:mg "sorted" = none
 NK:mg "sum" = none
 Aj:mg "tuple" = none
 GC:mg "zip" = none
abbrev rs:List ν:=["NoNumber","TooGreat"]
section
variable {P:ag} {w:av} {K:η} {mg:ν->Option ε} {base:Ψ} {t:HA}
theorem kD{x:ν}{C D:ζ}(h:dG K x C)(h2:dG K x D):C=D:=by
 unfold dG at h h2;rw[h] at h2;cases h2;rfl
theorem Txt.zX(T:Txt K mg t):∀z∈rs,∀D,dG K z D->fU K D/\ω K (.ref D) (.ref t.nY)=some (z=="NoClock"):=by
 intro z hz D cn;simp only[Ω,ba,or_false] at hz;rcases hz with rfl|rfl
 ·cases kD cn T.dJ;exact⟨T.fS,T.t9⟩
 ·cases kD cn T.dU;exact⟨T.fR,T.t7⟩
theorem Txt.zL(T:Txt K mg t):∀z∈rs,∀D,dG K z D->fU K D/\ω K (.ref D) (.ref t.mr)=some (z=="NoClocks"):=by
 intro z hz D cn;simp only[Ω,ba,or_false] at hz;rcases hz with rfl|rfl
 ·cases kD cn T.dJ;exact⟨T.fS,T.sZ⟩
 ·cases kD cn T.dU;exact⟨T.fR,T.sV⟩
theorem Txt.zK(T:Txt K mg t):∀z∈rs,∀D,dG K z D->fU K D/\ω K (.ref D) (.ref t.df)=some (z=="NoNumber"):=by
 intro z hz D cn;simp only[Ω,ba,or_false] at hz;rcases hz with rfl|rfl
 ·cases kD cn T.dJ;exact⟨T.fS,T.sY⟩
 ·cases kD cn T.dU;exact⟨T.fR,T.sU⟩
theorem Txt.zW(T:Txt K mg t):∀z∈rs,∀D,dG K z D->fU K D/\ω K (.ref D) (.ref t.nX)=some (z=="NoPlace"):=by
 intro z hz D cn;simp only[Ω,ba,or_false] at hz;rcases hz with rfl|rfl
 ·cases kD cn T.dJ;exact⟨T.fS,T.t8⟩
 ·cases kD cn T.dU;exact⟨T.fR,T.t6⟩
theorem Txt.Dp(T:Txt K mg t):∀z∈rs,∀D,dG K z D->fU K D/\ω K (.ref D) (.ref t.rV)=some (z=="NoRow"):=by
 intro z hz D cn;simp only[Ω,ba,or_false] at hz;rcases hz with rfl|rfl
 ·cases kD cn T.dJ;exact⟨T.fS,T.vB⟩
 ·cases kD cn T.dU;exact⟨T.fR,T.vA⟩
theorem Txt.BD(T:Txt K mg t):∀z∈rs,∀D,dG K z D->fU K D/\ω K (.ref D) (.ref t.qf)=some (z=="NoText"):=by
 intro z hz D cn;simp only[Ω,ba,or_false] at hz;rcases hz with rfl|rfl
 ·cases kD cn T.dJ;exact⟨T.fS,T.uF⟩
 ·cases kD cn T.dU;exact⟨T.fR,T.uE⟩
theorem Txt.zJ(T:Txt K mg t):∀z∈rs,∀D,dG K z D->fU K D/\ω K (.ref D) (.ref t.de)=some (z=="TooGreat"):=by
 intro z hz D cn;simp only[Ω,ba,or_false] at hz;rcases hz with rfl|rfl
 ·cases kD cn T.dJ;exact⟨T.fS,T.sX⟩
 ·cases kD cn T.dU;exact⟨T.fR,T.sT⟩
theorem Txt.isv(T:Txt K mg t):∀z∈rs,∀D,dG K z D->fU K D/\ω K (.ref D) (.type "ValueError")=some true:=by
 intro z hz D cn;simp only[Ω,ba,or_false] at hz;rcases hz with rfl|rfl
 ·cases kD cn T.dJ;exact⟨T.fS,T.zV⟩
 ·cases kD cn T.dU;exact⟨T.fR,T.zU⟩
theorem Txt.FG(T:Txt K mg t):∀z∈rs,∀D,dG K z D->my K D "many":=by
 intro z hz D cn;simp only[Ω,ba,or_false] at hz;rcases hz with rfl|rfl
 ·cases kD cn T.dJ;exact T.wF
 ·cases kD cn T.dU;exact T.wC
theorem Txt.FF(T:Txt K mg t):∀z∈rs,∀D,dG K z D->my K D "most":=by
 intro z hz D cn;simp only[Ω,ba,or_false] at hz;rcases hz with rfl|rfl
 ·cases kD cn T.dJ;exact T.wD
 ·cases kD cn T.dU;exact T.wB
theorem Txt.takes(T:Txt K mg t):yy K rs t.jZ:=by
 intro z hz D cn;simp only[Ω,ba,or_false] at hz;rcases hz with rfl|rfl
 ·cases kD cn T.dJ;exact⟨_,T.sP⟩
 ·cases kD cn T.dU;exact⟨_,T.wV.ex⟩
theorem Ys:∀ds G Q,xQ ds G Q->ds.length=1:=by
 intro ds G Q h
 first
  | (rcases ds with _|⟨_,_|⟨_,_|⟨_,_|⟨_,_⟩⟩⟩⟩<;>first|rfl|exact h.elim)
  | (obtain⟨rfl,_⟩:=h;rfl)
  | (obtain⟨_,rfl,_⟩:=h;rfl)
  | (obtain⟨_,_,rfl,_⟩:=h;rfl)
  | (obtain⟨_,_,_,rfl,_⟩:=h;rfl)
  | (obtain⟨_,_,_,_,rfl,_⟩:=h;rfl)
  | (obtain⟨_,_,_,_,_,rfl,_⟩:=h;rfl)
  | (obtain⟨_,_,_,_,_,_,rfl,_⟩:=h;rfl)
  | (obtain⟨_,_,_,_,_,_,_,rfl,_⟩:=h;rfl)
  | (obtain⟨_,_,_,_,_,_,_,_,rfl,_⟩:=h;rfl)
theorem Yr(T:Txt K mg t):dC P w K mg base 1 t.B1 t.Cy ["thing"] xQ:=by
 refine fB (k:=0) (sp:=xQ) T.Ht Y5 (by decide) Ys (EE) (fun cdv A outer s H E hr=>?_) TY;refine bZ (eE ?_);refine Bs (Bo KZ rfl (χ (pv 0)) T.dH T.By rfl (by decide) (by decide)) ?_;refine Bt (KH (Bo KY rfl (χ (pv 0)) T.dH T.Dl rfl (by decide) (by decide)))
theorem Yq:∀ds Q E,xK ds Q E->ds.length=2:=by
 intro ds Q E h
 first
  | (rcases ds with _|⟨_,_|⟨_,_|⟨_,_|⟨_,_⟩⟩⟩⟩<;>first|rfl|exact h.elim)
  | (obtain⟨rfl,_⟩:=h;rfl)
  | (obtain⟨_,rfl,_⟩:=h;rfl)
  | (obtain⟨_,_,rfl,_⟩:=h;rfl)
  | (obtain⟨_,_,_,rfl,_⟩:=h;rfl)
  | (obtain⟨_,_,_,_,rfl,_⟩:=h;rfl)
  | (obtain⟨_,_,_,_,_,rfl,_⟩:=h;rfl)
  | (obtain⟨_,_,_,_,_,_,rfl,_⟩:=h;rfl)
  | (obtain⟨_,_,_,_,_,_,_,rfl,_⟩:=h;rfl)
  | (obtain⟨_,_,_,_,_,_,_,_,rfl,_⟩:=h;rfl)
theorem Ji(T:Txt K mg t):uT P w K mg base 1 t.FI t.FT ["many","most"] xK:=by
 refine AD (k:=0) (sp:=xK) T.Ge Y3 (by decide) Yq JT (fun cdv A outer s H E0 E hr hE=>?_) Pf;refine bZ (jI (gx xY xI (χ (pv 0)) (χ (pv 1)) (b9 _)) ?_ lS);refine bZ (P8 Ee hE T.wV T.dU T.wW hr rfl (Δ (χ (pv 0)) (Δ (χ (pv 1)) aP)))
theorem Yp:∀ds G Q,yO ds G Q->ds.length=1:=by
 intro ds G Q h;obtain⟨_,rfl,_⟩:=h;rfl
theorem Yo(T:Txt K mg t):dC P w K mg base 1 t.BJ t.Cd ["times"] yO:=by
 refine fB (k:=0) (sp:=yO) T.Hk wQ (by decide) Yp (Ja) (fun cdv A outer s H E hr=>?_) aak;refine bR (da (i:=1) wQ.nd aU) (bR ?_ (bZ (eE (χ (pv 1)))));refine rj cN rfl (xR T.nj (Δ (χ (pv 0)) aP)) (iG (i:=2) wQ.nd) ?_;refine bZ (T6 (i:=1) T9 wQ.nd (χ (pv 1)) W2)
theorem Yn:∀ds G Q,zB ds G Q->ds.length=2:=by
 intro ds G Q h;obtain⟨_,_,rfl,_⟩:=h;rfl
theorem Ym(T:Txt K mg t):dC P w K mg base 1 t.FO t.FY ["one","other"] zB:=by
 refine fB (k:=0) (sp:=zB) T.Nd yo (by decide) Yn (J8) (fun cdv A outer s H E hr=>?_) R7;refine bR ?_ (bZ (eE (χ (pv 0))));refine zb cN (gx rq (rk hr.units) (χ (pv 1)) aU (b9 _)) ?_;refine bR (da (i:=2) yo.nd (bM mf mh (χ (pv 0)) (χ (pv 1)))) ?_;refine bR (da (i:=0) yo.nd (χ (pv 1))) (bZ (da (i:=1) yo.nd (χ (pv 2))))
theorem Yl:∀ds G Q,zA ds G Q->ds.length=2:=by
 intro ds G Q h;obtain⟨_,_,rfl,_⟩:=h;rfl
theorem Yk(T:Txt K mg t):dC P w K mg base 1 t.B0 t.Cw ["number","bound"] zA:=by
 refine fB (k:=0) (sp:=zA) T.Hs je (by decide) Yl (J7) (fun cdv A outer s H E hr=>?_) RN;refine bR (da (i:=2) je.nd (χ (pv 1))) ?_;refine bR (da (i:=3) je.nd (bM mf mh (χ (pv 0)) (χ (pv 1)))) ?_;refine bR (da (i:=4) je.nd aU) (bR (da (i:=5) je.nd aU) ?_);refine bR ?_ (bZ (eE (bM mf mh (χ (pv 4)) (χ (pv 1)))));refine zb cN (gx rq (rk hr.units) (χ (pv 3)) aU (b9 _)) ?_;refine bR (da (i:=6) je.nd (bM rl rm (χ (pv 2)) (χ (pv 3)))) ?_;refine bR (da (i:=7) je.nd (bM oG oJ (χ (pv 2)) (bM oX oY (χ (pv 6)) (χ (pv 3))))) ?_;refine bR (da (i:=8) je.nd (bM oG oJ (χ (pv 4)) (bM oX oY (χ (pv 6)) (χ (pv 5))))) ?_;refine bR (da (i:=2) je.nd (χ (pv 3))) (bR (da (i:=4) je.nd (χ (pv 5))) ?_);refine bR (da (i:=3) je.nd (χ (pv 7))) (bZ (da (i:=5) je.nd (χ (pv 8))))
theorem Yj:∀ds G Q,yX ds G Q->ds.length=2:=by
 intro ds G Q h;obtain⟨_,_,rfl,_⟩:=h;rfl
theorem Yi(T:Txt K mg t):dC P w K mg base 1 t.BI t.Cc ["clock","number"] yX:=by
 refine fB (k:=0) (sp:=yX) T.Hj YY (by decide) Yj (Lb) (fun cdv A outer s H E hr=>?_) SO;refine bZ (eE (ze nk (m9 hr.units) (bM mf mh (χ (pv 1)) (iR (χ (pv 0)) aU)) (iR (χ (pv 0)) aU) (b9 _)))
theorem Yh:∀ds G Q,wb ds G Q->ds.length=2:=by
 intro ds G Q h;obtain⟨_,_,rfl,_⟩:=h;rfl
theorem Jh(T:Txt K mg t):dC P w K mg base 2 t.BO t.Cj ["clocks","number"] wb:=by
 refine fB (k:=1) (sp:=wb) T.CL YX (by decide) Yh (La) (fun cdv A outer s H E hr=>?_) SN;refine bZ (eE ?_);refine ux rfl (show eK IC (Ξ AM) _ ["clock"] [1] from⟨rfl,by decide +kernel,by decide +kernel,by decide +kernel,by decide +kernel,by decide +kernel⟩) ?_ ?_;refine sM (χ (pv 0));intro s0 H0 fp0;refine⟨(iG (i:=0) (show (["clock","number"]:List ν).Nodup by decide +kernel)),?_,(χ (pv 0))⟩;refine EG (xB (dw ((Yi T).mono (by decide)) hr T.Nw T.Hj.kp T.NX (Δ (χ (pv 0)) (Δ (χ (pv 1)) aP))))
theorem Yg:∀ds G Q,zy ds G Q->ds.length=2:=by
 intro ds G Q h;obtain⟨_,_,rfl,_⟩:=h;rfl
theorem Yf(T:Txt K mg t):dC P w K mg base 2 t.BK t.Ce ["one","other"] zy:=by
 refine fB (k:=1) (sp:=zy) T.Hl uk (by decide) Yg (J5) (fun cdv A outer s H E hr=>?_) Sm;refine bR (da (i:=2) uk.nd ?_) ?_;refine dw ((Ym T).mono (by decide)) hr T.aaI T.Nd.kp T.aa5 ?_;refine Δ (iR (χ (pv 0)) aU) (Δ (iR (χ (pv 1)) aU) aP);refine bR (da (i:=3) uk.nd (bM oG oJ (iR (χ (pv 1)) aU) (iR (χ (pv 0)) aU))) ?_;refine bR (jI (gx rq (rk hr.units) (bM mf mh (χ (pv 3)) (χ (pv 2))) aU (b9 _)) (bZ (eE xC)) lS) ?_;refine bR (da (i:=4) uk.nd (bM rl rm (iR (χ (pv 1)) aU) (χ (pv 2)))) ?_;refine bR (da (i:=5) uk.nd ?_) (bZ (eE ?_));refine bM mf mh (bM oX oY (bM rl rm (χ (pv 3)) (χ (pv 2))) ?_) (χ (pv 4));refine dw ((Yk T).mono (by decide)) hr T.NF T.Hs.kp T.N8 ?_;refine Δ (bM rl rm (iR (χ (pv 0)) aU) (χ (pv 2))) (Δ (χ (pv 4)) aP);refine p8 (Δ (bM oX oY (iR (χ (pv 0)) aU) (χ (pv 4))) ?_);refine Δ (bM jg jh (iR (χ (pv 0)) aU) (bM oX oY (iR (χ (pv 0)) aU) (χ (pv 5)))) aP
theorem Ye:∀ds G Q,yV ds G Q->ds.length=2:=by
 intro ds G Q h;obtain⟨_,_,rfl,_⟩:=h;rfl
theorem Yd(T:Txt K mg t):dC P w K mg base 3 t.BS t.Co ["clocks","thing"] yV:=by
 refine fB (k:=2) (sp:=yV) T.Ho YU (by decide) Ye (Kn) (fun cdv A outer s H E hr=>?_) SM;refine bZ (eE ?_);refine Bs (dw ((Yr T).mono (by decide)) hr T.NG T.Ht.kp T.N9 (Δ (χ (pv 1)) aP)) ?_;refine Bt (ze nk (m9 hr.units) ?_ (lR aP) (b9 _));refine dw ((Jh T).mono (by decide)) hr T.GF T.CL.kp T.GU (Δ (χ (pv 0)) (Δ (χ (pv 1)) aP))
theorem Yc:∀ds G Q,xM ds G Q->ds.length=3:=by
 intro ds G Q h;obtain⟨_,_,_,_,_,_,rfl,_⟩:=h;rfl
theorem Jg(T:Txt K mg t):dC P w K mg base 1 t.BZ t.Cv ["weights","met","weight"] xM:=by
 refine fB (k:=0) (sp:=xM) T.CQ C9 (by decide) Yc (JK) (fun cdv A outer s H E hr=>?_) QF;refine bR ?_ (bZ (Ry hr.units (χ (pv 0)) (χ (pv 1)) (JN ?_)));refine da (i:=3) C9.nd (Rx hr.units (χ (pv 0)) (χ (pv 1)) ?_);refine bM oX oY (lR (Δ aU aP)) (lI hr.units T.i4 (Δ (χ (pv 2)) aP));refine ux rfl (show eK Jn (Ξ AK) _ ["one","other"] [] from⟨rfl,by decide +kernel,by decide +kernel,by decide +kernel,by decide +kernel,by decide +kernel⟩) ?_ ?_;refine Li T.GC (Δ (χ (pv 3)) (Δ (χ (pv 2)) aP));intro s0 H0 fp0;refine⟨(xS rfl ?_),wc,(bM jg jh (χ (pv 0)) (χ (pv 1)))⟩;refine oF (iG (i:=0) (show (["one","other"]:List ν).Nodup by decide +kernel)) ?_;refine oF (iG (i:=1) (show (["one","other"]:List ν).Nodup by decide +kernel)) xT
theorem Yb:∀ds G Q,v9 ds G Q->ds.length=1:=by
 intro ds G Q h;obtain⟨_,rfl,_⟩:=h;rfl
theorem Jf(T:Txt K mg t):dC P w K mg base 3 t.BX t.Cs ["clocks"] v9:=by
 refine fB (k:=2) (sp:=v9) T.CO nU (by decide) Yb (JH) (fun cdv A outer s H E hr=>?_) Qs;refine bR (da (i:=1) nU.nd (Rw hr.units (p8 (Δ aU (Δ aU aP))) (JN (lR (Δ aU aP))))) ?_;refine bR ?_ (bZ (eE (χ (pv 1))));refine rj cN rfl (sM (χ (pv 0))) (iG (i:=2) nU.nd) ?_;refine bR (da (i:=3) nU.nd Rz) (bR ?_ (bZ (da (i:=1) nU.nd (χ (pv 3)))));refine rj cN rfl (JL (χ (pv 1))) ?_ ?_;refine xS rfl (oF (iG (i:=4) nU.nd) (oF (iG (i:=5) nU.nd) xT));refine bR (xU ?_) ?_;refine dw ((Jg T).mono (by decide)) hr T.GJ T.CQ.kp T.GZ ?_;refine Δ (χ (pv 3)) (Δ (χ (pv 4)) (Δ (bM Eh EX (χ (pv 5)) (lR (Δ aU aP))) aP));refine bR (da (i:=6) nU.nd ?_) (bZ ?_);refine dw ((Yf T).mono (by decide)) hr T.Ny T.Hl.kp T.NZ (Δ (χ (pv 4)) (Δ (χ (pv 2)) aP));refine jI (gx U0 WM (χ (pv 6)) xC (b9 _)) (bZ (xU ?_)) lS;refine dw ((Jg T).mono (by decide)) hr T.GJ T.CQ.kp T.GZ ?_;refine Δ (χ (pv 3)) (Δ (χ (pv 6)) (Δ ?_ aP));refine ux rfl (show eK IB (Ξ AL) _ ["more","less"] [] from⟨rfl,by decide +kernel,by decide +kernel,by decide +kernel,by decide +kernel,by decide +kernel⟩) ?_ ?_;refine Li T.GC ?_;refine Δ (bM Eh EX (lR (Δ aU aP)) (χ (pv 5))) ?_;refine Δ (bM Eh EX (χ (pv 5)) (lR (Δ aU aP))) aP;intro s0 H0 fp0;refine⟨(xS rfl ?_),wc,(bM oG oJ (χ (pv 0)) (χ (pv 1)))⟩;refine oF (iG (i:=0) (show (["more","less"]:List ν).Nodup by decide +kernel)) ?_;refine oF (iG (i:=1) (show (["more","less"]:List ν).Nodup by decide +kernel)) xT
theorem Ya:∀ds G Q,zt ds G Q->ds.length=2:=by
 intro ds G Q h;obtain⟨_,_,rfl,_⟩:=h;rfl
theorem X9(T:Txt K mg t):dC P w K mg base 1 t.FH t.FQ ["clock","bound"] zt:=by
 refine fB (k:=0) (sp:=zt) T.Na YS (by decide) Ya (JE) (fun cdv A outer s H E hr=>?_) Qr;refine bZ (eE ?_);refine Bp hr.units T.yt (Δ aU (Δ (bM jg jh ?_ aU) aP));refine bM rl rm (bM oG oJ (bM oG oJ (χ (pv 1)) (iR (χ (pv 0)) aU)) aU) (iR (χ (pv 0)) aU)
theorem X8:∀ds G Q,v8 ds G Q->ds.length=2:=by
 intro ds G Q h;obtain⟨_,_,_,_,rfl,_⟩:=h;rfl
theorem Je(T:Txt K mg t):dC P w K mg base 2 t.FJ t.FU ["weights","bound"] v8:=by
 refine fB (k:=1) (sp:=v8) T.Gf YR (by decide) X8 (JC) (fun cdv A outer s H E hr=>?_) Qn;refine bZ (eE (T1 hr.units T.NK (Δ ?_ aP)));refine ux rfl (show eK Jm (Ξ AJ) _ ["met","weight"] [1] from⟨rfl,by decide +kernel,by decide +kernel,by decide +kernel,by decide +kernel,by decide +kernel⟩) ?_ ?_;refine JL (χ (pv 0));intro s0 H0 fp0;refine⟨(xS rfl ?_),wc,(bM oX oY (iR (χ (pv 1)) aU) ?_)⟩;refine oF (iG (i:=0) (show (["met","weight","bound"]:List ν).Nodup by decide +kernel)) ?_;refine oF (iG (i:=1) (show (["met","weight","bound"]:List ν).Nodup by decide +kernel)) xT;refine dw ((X9 T).mono (by decide)) hr T.aaF T.Na.kp T.aa2 (Δ (χ (pv 0)) (Δ (χ (pv 2)) aP))
theorem X7:∀ds G Q,v3 ds G Q->ds.length=1:=by
 intro ds G Q h;obtain⟨_,rfl,_⟩:=h;rfl
theorem Iz(T:Txt K mg t):dC P w K mg base 2 t.BP t.Ck ["clocks"] v3:=by
 refine fB (k:=1) (sp:=v3) T.CM YL (by decide) X7 (IZ) (fun cdv A outer s H E hr=>?_) aaj;refine bZ (eE ?_);refine dw ((Yo T).mono (by decide)) hr T.Nx T.Hk.kp T.NY (Δ (lI hr.units T.i4 (Δ (χ (pv 0)) aP)) aP)
theorem X6:∀ds Q E,yM ds Q E->ds.length=2:=by
 intro ds Q E h
 first
  | (rcases ds with _|⟨_,_|⟨_,_|⟨_,_|⟨_,_⟩⟩⟩⟩<;>first|rfl|exact h.elim)
  | (obtain⟨rfl,_⟩:=h;rfl)
  | (obtain⟨_,rfl,_⟩:=h;rfl)
  | (obtain⟨_,_,rfl,_⟩:=h;rfl)
  | (obtain⟨_,_,_,rfl,_⟩:=h;rfl)
  | (obtain⟨_,_,_,_,rfl,_⟩:=h;rfl)
  | (obtain⟨_,_,_,_,_,rfl,_⟩:=h;rfl)
  | (obtain⟨_,_,_,_,_,_,rfl,_⟩:=h;rfl)
  | (obtain⟨_,_,_,_,_,_,_,rfl,_⟩:=h;rfl)
  | (obtain⟨_,_,_,_,_,_,_,_,rfl,_⟩:=h;rfl)
theorem X5(T:Txt K mg t):uT P w K mg base 3 t.B5 t.CC ["clocks","number"] yM:=by
 refine AD (k:=2) (sp:=yM) T.Hx Dd (by decide) X6 IX (fun cdv A outer s H E0 E hr hE=>?_) ZU;refine bR (xU ?_) (bR ?_ (bZ (eE xC)));refine yR ((Ji T).mono (by decide)) hr (Bu hE) T.MH T.Ge.kp T.MY ?_;refine Δ (lI hr.units T.i4 (Δ (χ (pv 0)) aP)) (Δ (KN T.pb) aP);refine rj Jy rfl (OV T.nj (Δ (χ (pv 1)) (Δ ?_ aP))) (iG (i:=2) Dd.nd) (bZ ?_);refine bM jg jh (χ (pv 1)) (dw ((Iz T).mono (by decide)) hr T.GG T.CM.kp T.GV (Δ (χ (pv 0)) aP));refine jI (gx nk (m9 hr.units) ?_ (lR aP) (b9 _)) (bZ (eE (χ (pv 2)))) lS;refine dw ((Jh T).mono (by decide)) hr T.GF T.CL.kp T.GU (Δ (χ (pv 0)) (Δ (χ (pv 2)) aP))
theorem YE:∀ds Q E,uv ds Q E->ds.length=2:=by
 intro ds Q E h
 first
  | (rcases ds with _|⟨_,_|⟨_,_|⟨_,_|⟨_,_⟩⟩⟩⟩<;>first|rfl|exact h.elim)
  | (obtain⟨rfl,_⟩:=h;rfl)
  | (obtain⟨_,rfl,_⟩:=h;rfl)
  | (obtain⟨_,_,rfl,_⟩:=h;rfl)
  | (obtain⟨_,_,_,rfl,_⟩:=h;rfl)
  | (obtain⟨_,_,_,_,rfl,_⟩:=h;rfl)
  | (obtain⟨_,_,_,_,_,rfl,_⟩:=h;rfl)
  | (obtain⟨_,_,_,_,_,_,rfl,_⟩:=h;rfl)
  | (obtain⟨_,_,_,_,_,_,_,rfl,_⟩:=h;rfl)
  | (obtain⟨_,_,_,_,_,_,_,_,rfl,_⟩:=h;rfl)
theorem Iy(T:Txt K mg t):uT P w K mg base 4 t.nL t.Ct ["clocks","n"] uv:=by
 refine AD (k:=3) (sp:=uv) T.CP pZ (by decide) YE IW (fun cdv A outer s H E0 E hr hE=>?_) aas;refine bR ?_ ?_;refine jI (gx aaM WN ?_ xC (b9 _)) (bZ (JX Ee hE T.sP T.dJ T.sQ rfl)) lS;refine yR ((X5 T).mono (by decide)) hr (Bu hE) T.NJ T.Hx.kp T.Oc (Δ (χ (pv 0)) (Δ aU aP));refine bR (da (i:=2) pZ.nd ?_) (bR (da (i:=3) pZ.nd aU) ?_);refine dw ((Jf T).mono (by decide)) hr T.GI T.CO.kp T.GX (Δ (χ (pv 0)) aP);refine bR (da (i:=4) pZ.nd ?_) (bR ?_ (bZ (eE (χ (pv 3)))));refine bM oG oJ (bM oX oY (bM jg jh (χ (pv 1)) aU) ?_) aU;refine dw ((Iz T).mono (by decide)) hr T.GG T.CM.kp T.GV (Δ (χ (pv 0)) aP);refine zb Jy (gx zj (zk hr.uh) (χ (pv 3)) (χ (pv 4)) (b9 _)) ?_;refine bR (da (i:=5) pZ.nd (bM rl rm (bM jg jh (χ (pv 3)) (χ (pv 4))) aU)) (bZ ?_);refine jI (gx xY xI ?_ (χ (pv 1)) (b9 _)) (bZ (da (i:=4) pZ.nd (χ (pv 5)))) ?_;refine dw ((Je T).mono (by decide)) hr T.MI T.Gf.kp T.MZ ?_;refine Δ (χ (pv 2)) (Δ (bM jg jh (χ (pv 5)) aU) aP);refine bZ (da (i:=3) pZ.nd (bM jg jh (χ (pv 5)) aU))
theorem YD:∀ds Q E,uu ds Q E->ds.length=2:=by
 intro ds Q E h
 first
  | (rcases ds with _|⟨_,_|⟨_,_|⟨_,_|⟨_,_⟩⟩⟩⟩<;>first|rfl|exact h.elim)
  | (obtain⟨rfl,_⟩:=h;rfl)
  | (obtain⟨_,rfl,_⟩:=h;rfl)
  | (obtain⟨_,_,rfl,_⟩:=h;rfl)
  | (obtain⟨_,_,_,rfl,_⟩:=h;rfl)
  | (obtain⟨_,_,_,_,rfl,_⟩:=h;rfl)
  | (obtain⟨_,_,_,_,_,rfl,_⟩:=h;rfl)
  | (obtain⟨_,_,_,_,_,_,rfl,_⟩:=h;rfl)
  | (obtain⟨_,_,_,_,_,_,_,rfl,_⟩:=h;rfl)
  | (obtain⟨_,_,_,_,_,_,_,_,rfl,_⟩:=h;rfl)
theorem Iw(T:Txt K mg t):uT P w K mg base 4 t.rA t.FR ["clocks","number"] uu:=by
 refine AD (k:=3) (sp:=uu) T.Gd YN (by decide) YD IV (fun cdv A outer s H E0 E hr hE=>?_) aap;refine bR (xU ?_) ?_;refine yR ((Ji T).mono (by decide)) hr (Bu hE) T.MH T.Ge.kp T.MY ?_;refine Δ (lI hr.units T.i4 (Δ (χ (pv 0)) aP)) (Δ (KN T.pb) aP);refine bR ?_ (bZ (eE ?_));refine jI (wd ?_) (bZ (JX Ee hE T.sP T.dJ T.sQ rfl)) lS;refine zc (AY ?_) (zd (gx zj (zk hr.uh) (χ (pv 1)) aU (b9 _)));refine xB (dw ((Yd T).mono (by decide)) hr T.NB T.Ho.kp T.N5 (Δ (χ (pv 0)) (Δ (χ (pv 1)) aP)));refine dw ((Je T).mono (by decide)) hr T.MI T.Gf.kp T.MZ ?_;refine Δ (dw ((Jf T).mono (by decide)) hr T.GI T.CO.kp T.GX (Δ (χ (pv 0)) aP)) ?_;refine Δ (χ (pv 1)) aP
theorem YC:∀ds G Q,yY ds G Q->ds.length=2:=by
 intro ds G Q h;obtain⟨_,_,rfl,_⟩:=h;rfl
theorem YB(T:Txt K mg t):dC P w K mg base 1 t.B3 t.CA ["script","k"] yY:=by
 refine fB (k:=0) (sp:=yY) T.Hw YI (by decide) YC (Lf) (fun cdv A outer s H E hr=>?_) SX;refine bR ?_ (bZ (eE aU));refine jI (gx zj (zk hr.uh) (χ (pv 1)) (lI hr.units T.i4 (Δ (χ (pv 0)) aP)) (b9 _)) ?_ lS;refine bZ (eE (iR (χ (pv 0)) (χ (pv 1))))
theorem YA:∀ds G Q,xP ds G Q->ds.length=1:=by
 intro ds G Q h;obtain⟨_,rfl,_⟩:=h;rfl
theorem Iv(T:Txt K mg t):dC P w K mg base 1 t.BN t.Ci ["seed"] xP:=by
 refine fB (k:=0) (sp:=xP) T.CK C7 (by decide) YA (Le) (fun cdv A outer s H E hr=>?_) SW;refine bR (da (i:=0) C7.nd (bM mf mh (bM jg jh (χ (pv 0)) aU) aU)) ?_;refine bZ (eE (bM mf mh ?_ aU));refine bM jg jh (bM jg jh (bM oX oY (χ (pv 0)) (χ (pv 0))) (bM oX oY aU (χ (pv 0)))) aU
theorem Yz:∀ds G Q,Bl ds G Q->ds.length=1:=by
 intro ds G Q h;obtain⟨_,rfl,_⟩:=h;rfl
theorem Yy(T:Txt K mg t):dC P w K mg base 1 t.B2 t.Cz ["cell"] ED:=by
 refine j5.imp ?_ SQ;refine fB (k:=0) (sp:=Bl) T.Hu Dc (by decide) Yz (Lc) (fun cdv A outer s H E hr=>?_) SR;refine bR (da (i:=1) Dc.nd (Bp hr.units T.yt (Δ (χ (pv 0)) (Δ (bM oG oJ aU (χ (pv 0))) aP)))) ?_;refine bZ (eE (lR (Δ (χ (pv 1)) ?_)));refine Δ (T5 hr.units T.By (Δ (ze aaN WO (χ (pv 1)) (bM zl zm aU aU) (b9 _)) aP)) ?_;refine Δ (bM mf mh (χ (pv 1)) aU) aP
theorem Yx:∀ds G Q,Bm ds G Q->ds.length=2:=by
 intro ds G Q h;obtain⟨_,_,_,_,_,rfl,_⟩:=h;rfl
theorem kN(T:Txt K mg t):dC P w K mg base 2 t.BM t.Cg ["pen","many"] mT:=by
 refine j5.imp ?_ SU;refine fB (k:=1) (sp:=Bm) T.ib C6 (by decide) Yx (Ld) (fun cdv A outer s H E hr=>?_) SV;refine bR ?_ ?_;refine jI (gx nk (m9 hr.units) (iR (χ (pv 0)) aU) aU (b9 _)) ?_ lS;refine bR (da (i:=2) C6.nd (bM mf mh (iR (χ (pv 0)) aU) (χ (pv 1)))) ?_;refine bR (EH (bM rl rm (iR (χ (pv 0)) aU) (χ (pv 1))) (KG (χ (pv 0)) aU)) (bZ (eE (χ (pv 2))));refine bR (EH ?_ (KG (χ (pv 0)) aU)) ?_;refine dw ((Iv T).mono (by decide)) hr T.GD T.CK.kp T.GS (Δ ?_ aP);refine bM jg jh (dw ((Iv T).mono (by decide)) hr T.GD T.CK.kp T.GS (Δ (iR (χ (pv 0)) aU) aP)) (aU);refine bZ (eE (bM mf mh (bM rl rm (iR (χ (pv 0)) aU) aU) (χ (pv 1))))
theorem Yw:∀ds G Q,yZ ds G Q->ds.length=1:=by
 intro ds G Q h
 first
  | (rcases ds with _|⟨_,_|⟨_,_|⟨_,_|⟨_,_⟩⟩⟩⟩<;>first|rfl|exact h.elim)
  | (obtain⟨rfl,_⟩:=h;rfl)
  | (obtain⟨_,rfl,_⟩:=h;rfl)
  | (obtain⟨_,_,rfl,_⟩:=h;rfl)
  | (obtain⟨_,_,_,rfl,_⟩:=h;rfl)
  | (obtain⟨_,_,_,_,rfl,_⟩:=h;rfl)
  | (obtain⟨_,_,_,_,_,rfl,_⟩:=h;rfl)
  | (obtain⟨_,_,_,_,_,_,rfl,_⟩:=h;rfl)
  | (obtain⟨_,_,_,_,_,_,_,rfl,_⟩:=h;rfl)
  | (obtain⟨_,_,_,_,_,_,_,_,rfl,_⟩:=h;rfl)
theorem Iu(T:Txt K mg t):dC P w K mg base 1 t.BV t.Cq ["found"] yZ:=by
 refine fB (k:=0) (sp:=yZ) T.CN Ze (by decide) Yw (TX) (fun cdv A outer s H E hr=>?_) SY;refine bZ (eE ?_);refine Bs (Bo KZ rfl (χ (pv 0)) T.dH T.By rfl (by decide) (by decide)) ?_;refine Bt (KH (Bo KY rfl (χ (pv 0)) T.dH T.Dl rfl (by decide) (by decide)))
theorem Yv:∀ds G Q,(xA rs) ds G Q->ds.length=1:=by
 intro ds G Q h
 first
  | (rcases ds with _|⟨_,_|⟨_,_|⟨_,_|⟨_,_⟩⟩⟩⟩<;>first|rfl|exact h.elim)
  | (obtain⟨rfl,_⟩:=h;rfl)
  | (obtain⟨_,rfl,_⟩:=h;rfl)
  | (obtain⟨_,_,rfl,_⟩:=h;rfl)
  | (obtain⟨_,_,_,rfl,_⟩:=h;rfl)
  | (obtain⟨_,_,_,_,rfl,_⟩:=h;rfl)
  | (obtain⟨_,_,_,_,_,rfl,_⟩:=h;rfl)
  | (obtain⟨_,_,_,_,_,_,rfl,_⟩:=h;rfl)
  | (obtain⟨_,_,_,_,_,_,_,rfl,_⟩:=h;rfl)
  | (obtain⟨_,_,_,_,_,_,_,_,rfl,_⟩:=h;rfl)
theorem Ir(T:Txt K mg t):zT P w K mg base 1 t.B4 t.CB ["e"] (xA rs):=by
 refine XJ (k:=0) (sp:=(xA rs)) T.CS yI (by decide) Yv (IU rs) (fun cdv A outer s H E hr=>?_) (ZE rs);refine bR (da (i:=1) yI.nd ?_) ?_;refine lR (Δ (v5 (T.zX) (χ (pv 0)) T.dH T.Dn) ?_);refine Δ (v5 (T.zK) (χ (pv 0)) T.dH T.sQ) ?_;refine Δ (v5 (T.zW) (χ (pv 0)) T.dH T.Dm) (Δ (v5 (T.Dp) (χ (pv 0)) T.dH T.HI) aP);refine bR ?_ ?_;refine da (i:=1) yI.nd (bM jg jh (χ (pv 1)) (lR ?_));refine Δ (v5 (T.zL) (χ (pv 0)) T.dH T.Bz) ?_;refine Δ (v5 (T.BD) (χ (pv 0)) T.dH T.Fy) (Δ (v5 (T.zJ) (χ (pv 0)) T.dH T.wW) aP);refine bR (jI (wd ?_) (bZ (eE kO)) lS) (bZ (eE ?_));refine zc (AY (xB (Pl (T.isv) (χ (pv 0)) T.dH T.zE))) (zd ?_);refine gx rq (rk hr.units) (za Qg PySem.F.slot_list_count PySem.F.type_list_count Py (χ (pv 1)) (Δ sN aP)) aU (b9 _);refine KE (Δ kO (Δ kO (Δ kO (Δ kO (Δ kO (Δ kO (Δ kO aP))))))) ?_;refine za Qf PySem.F.slot_list_index PySem.F.type_list_index Qh (χ (pv 1)) (Δ sN aP)
theorem X4:∀ds G Q,xN ds G Q->ds.length=2:=by
 intro ds G Q h;obtain⟨_,_,rfl,_⟩:=h;rfl
theorem Iq(T:Txt K mg t):dC P w K mg base 3 t.FL t.FW ["pen","most"] xN:=by
 refine fB (k:=2) (sp:=xN) T.Gh Gn (by decide) X4 (Kg) (fun cdv A outer s H E hr=>?_) SE;refine bR (da (i:=2) Gn.nd (bM jg jh aU ?_)) (bZ (eE (p8 (Δ (χ (pv 2)) ?_))));refine dw ((kN T).mono (by decide)) hr T.iz T.ib.kp T.iA (Δ (χ (pv 0)) (Δ (χ (pv 1)) aP));refine Δ (dw ((kN T).mono (by decide)) hr T.iz T.ib.kp T.iA (Δ (χ (pv 0)) (Δ (χ (pv 2)) aP))) (aP)
theorem X3:∀ds G Q,yQ ds G Q->ds.length=3:=by
 intro ds G Q h;obtain⟨_,_,_,rfl,_⟩:=h;rfl
theorem X2(T:Txt K mg t):dC P w K mg base 3 t.FK t.FV ["pen","least","most"] yQ:=by
 refine fB (k:=2) (sp:=yQ) T.Nb sF (by decide) X3 (JS) (fun cdv A outer s H E hr=>?_) O4;refine bR (da (i:=3) sF.nd (lR (Δ (p8 (Δ aU (Δ aU aP))) aP))) ?_;refine bR ?_ (bZ (eE (Lj hr.units T.wz (Δ (χ (pv 3)) aP))));refine zb cN (wd ?_) ?_;refine zc (gx zj (zk hr.uh) (lI hr.units T.i4 (Δ (χ (pv 3)) aP)) (χ (pv 1)) (b9 _)) (zd (wd ?_));refine KI ?_ (KJ (gx zj (zk hr.uh) (lI hr.units T.i4 (Δ (χ (pv 3)) aP)) (χ (pv 2)) (b9 _)));refine gx xY xI (dw ((kN T).mono (by decide)) hr T.iz T.ib.kp T.iA (Δ (χ (pv 0)) (Δ aU aP))) ?_ (b9 _);refine aU;refine bR (da (i:=4) sF.nd ?_) ?_;refine KE (Δ aU (Δ aU (Δ aU (Δ aU (Δ aU (Δ aU aP)))))) ?_;refine dw ((kN T).mono (by decide)) hr T.iz T.ib.kp T.iA (Δ (χ (pv 0)) (Δ aU aP));refine bR (da (i:=4) sF.nd ?_) ?_;refine T4 hr.units T.NM (Δ (χ (pv 4)) (Δ (Bp hr.units T.yt ?_) aP));refine Δ aU (Δ (bM jg jh (bM oG oJ (χ (pv 2)) (lI hr.units T.i4 (Δ (χ (pv 3)) aP))) aU) aP);refine bR ?_ ?_;refine EH ?_ (xS rfl (oF (iG (i:=5) sF.nd) (oF (iG (i:=6) sF.nd) xT)));refine za Ls su sr Mt (χ (pv 3)) (Δ ?_ aP);refine dw ((kN T).mono (by decide)) hr T.iz T.ib.kp T.iA ?_;refine Δ (χ (pv 0)) (Δ (lI hr.units T.i4 (Δ (χ (pv 3)) aP)) aP);refine bR ?_ ?_;refine jI (gx xY xI (bM oX oY (χ (pv 5)) (χ (pv 4))) aU (b9 _)) (bZ (eE (Lj hr.units T.wz ?_))) lS;refine Δ (bM jg jh (χ (pv 3)) (lR (Δ (p8 (Δ (χ (pv 5)) (Δ (χ (pv 6)) aP))) aP))) aP;refine bZ (da (i:=3) sF.nd (bM jg jh (χ (pv 3)) ?_));refine ux rfl (show eK Jl (Ξ AI) _ ["part"] [5,4,6] from⟨rfl,by decide +kernel,by decide +kernel,by decide +kernel,by decide +kernel,by decide +kernel⟩) ?_ ?_;refine xR T.nj (Δ (χ (pv 4)) aP);intro s0 H0 fp0;refine⟨(iG (i:=0) (show (["part","step","k","rest"]:List ν).Nodup by decide +kernel)),wc,?_⟩;refine p8 (Δ (bM oX oY (χ (pv 1)) (χ (pv 2))) ?_);refine Δ (bM jg jh (χ (pv 3)) (bM oX oY (χ (pv 1)) (χ (pv 0)))) aP
theorem X1:∀ds G Q,yP ds G Q->ds.length=2:=by
 intro ds G Q h;obtain⟨_,rfl,_⟩:=h;rfl
theorem X0(T:Txt K mg t):dC P w K mg base 4 t.FN t.FX ["pen","most"] yP:=by
 refine fB (k:=3) (sp:=yP) T.Nc pJ (by decide) X1 (JR) (fun cdv A outer s H E hr=>?_) O1;refine bR (da (i:=2) pJ.nd ?_) ?_;refine dw ((kN T).mono (by decide)) hr T.iz T.ib.kp T.iA (Δ (χ (pv 0)) (Δ aU aP));refine bR ?_ ?_;refine jI (gx nk (m9 hr.units) (χ (pv 2)) aU (b9 _)) (bZ ?_) (bZ ?_);refine Lh (i:=3) rfl pJ.nd (show eK Jk (Ξ AH) _ ["turn"] [0] from⟨rfl,by decide +kernel,by decide +kernel,by decide +kernel,by decide +kernel,by decide +kernel⟩) ?_ ?_;refine xR T.nj (Δ ?_ aP);refine dw ((kN T).mono (by decide)) hr T.iz T.ib.kp T.iA ?_;refine Δ (χ (pv 0)) (Δ (bM jg jh (χ (pv 1)) aU) aP);intro s0 H0 fp0;refine⟨(iG (i:=0) (show (["turn","pen"]:List ν).Nodup by decide +kernel)),wc,?_⟩;refine dw ((Iq T).mono (by decide)) hr T.MJ T.Gh.kp T.M0 (Δ (χ (pv 1)) (Δ aU aP));refine jI (gx nk (m9 hr.units) (χ (pv 2)) aU (b9 _)) ?_ ?_;refine bR (da (i:=4) pJ.nd ?_) (bR (da (i:=3) pJ.nd (lR aP)) (bZ ?_));refine lR (Δ aU (Δ aU (Δ aU (Δ aU (Δ aU (Δ aU (Δ aU aP)))))));refine rj cN rfl (xR T.nj (Δ ?_ aP)) (iG (i:=5) pJ.nd) ?_;refine dw ((kN T).mono (by decide)) hr T.iz T.ib.kp T.iA ?_;refine Δ (χ (pv 0)) (Δ (bM jg jh (χ (pv 1)) aU) aP);refine bR (da (i:=6) pJ.nd ?_) (bZ (xU ?_));refine iR (χ (pv 4)) (dw ((kN T).mono (by decide)) hr T.iz T.ib.kp T.iA (Δ (χ (pv 0)) (Δ aU aP)));refine za Vm PySem.F.slot_list_append PySem.F.type_list_append LY (χ (pv 3)) (Δ (p8 (Δ (χ (pv 6)) ?_)) aP);refine Δ (dw ((kN T).mono (by decide)) hr T.iz T.ib.kp T.iA (Δ (χ (pv 0)) (Δ (χ (pv 6)) aP))) (aP);refine bR (da (i:=3) pJ.nd ?_) ?_;refine dw ((X2 T).mono (by decide)) hr T.aaG T.Nb.kp T.aa3 ?_;refine Δ (χ (pv 0)) (Δ aU (Δ (Bp hr.units T.yt (Δ aU (Δ (bM oG oJ (χ (pv 1)) aU) aP))) aP));refine bR ?_ (bZ ?_);refine jI (gx nk (m9 hr.units) (χ (pv 2)) aU (b9 _)) (bZ ?_) lS;refine da (i:=3) pJ.nd (bM jg jh (χ (pv 3)) (lR (Δ ?_ aP)));refine dw ((Iq T).mono (by decide)) hr T.MJ T.Gh.kp T.M0 (Δ (χ (pv 0)) (Δ aU aP));refine jI (gx nk (m9 hr.units) (χ (pv 2)) aU (b9 _)) (bZ (xU ?_)) lS;refine za Ls su sr Mt (χ (pv 3)) (Δ ?_ aP);refine dw ((kN T).mono (by decide)) hr T.iz T.ib.kp T.iA ?_;refine Δ (χ (pv 0)) (Δ (lI hr.units T.i4 (Δ (χ (pv 3)) aP)) aP);refine bZ (eE (EF (KA hr.units T.Aj (Δ (T3 hr.units (χ (pv 3)) T.wz T.NL) aP)) KC (Bq (χ (pv 1)))))
theorem XZ:∀ds G Q,yT ds G Q->ds.length=2:=by
 intro ds G Q h;obtain⟨_,_,rfl,_⟩:=h;rfl
theorem XY(T:Txt K mg t):dC P w K mg base 1 t.BR t.Cn ["clock","number"] yT:=by
 refine fB (k:=0) (sp:=yT) T.Hn Za (by decide) XZ (Kc) (fun cdv A outer s H E hr=>?_) Te;refine bZ (eE ?_);refine ze nk (m9 hr.units) (bM mf mh (bM oG oJ (χ (pv 1)) (iR (χ (pv 0)) aU)) (iR (χ (pv 0)) aU)) aU (b9 _)
theorem XX:∀ds G Q,yS ds G Q->ds.length=2:=by
 intro ds G Q h;obtain⟨_,_,rfl,_⟩:=h;rfl
theorem XW(T:Txt K mg t):dC P w K mg base 1 t.BY t.Cu ["one","other"] yS:=by
 refine fB (k:=0) (sp:=yS) T.Hr C8 (by decide) XX (Kb) (fun cdv A outer s H E hr=>?_) Tb;refine bR ?_ (bZ (eE (χ (pv 0))));refine zb cN (gx xY xI (χ (pv 1)) aU (b9 _)) (bZ ?_);refine TZ (i:=0) (j:=1) rfl C8.nd rfl rfl (by decide) rfl rfl ?_ rfl;refine Δ (χ (pv 1)) (Δ (bM mf mh (χ (pv 0)) (χ (pv 1))) aP)
theorem XU:∀ds G Q,wa ds G Q->ds.length=1:=by
 intro ds G Q h;obtain⟨_,rfl,_⟩:=h;rfl
theorem DI(T:Txt K mg t):dC P w K mg base 2 t.BW t.Cr ["clocks"] wa:=by
 refine fB (k:=1) (sp:=wa) T.yz uo (by decide) XU (Ka) (fun cdv A outer s H E hr=>?_) S6;refine bR (da (i:=1) uo.nd aU) (bR ?_ (bZ (eE (χ (pv 1)))));refine rj cN rfl (sM (χ (pv 0))) ?_ (bZ ?_);refine xS rfl (oF (iG (i:=2) uo.nd) (oF (iG (i:=3) uo.nd) xT));refine da (i:=1) uo.nd (bM oX oY (bM rl rm (χ (pv 1)) ?_) (χ (pv 2)));refine dw ((XW T).mono (by decide)) hr T.ND T.Hr.kp T.N7 (Δ (χ (pv 1)) (Δ (χ (pv 2)) aP))
theorem XT:∀ds G Q,zC ds G Q->ds.length=2:=by
 intro ds G Q h;obtain⟨_,_,rfl,_⟩:=h;rfl
theorem XS(T:Txt K mg t):dC P w K mg base 2 t.BU t.Cp ["clocks","number"] zC:=by
 refine fB (k:=1) (sp:=zC) T.Hq Y7 (by decide) XT (J9) (fun cdv A outer s H E hr=>?_) Sd;refine bZ (eE (lI hr.units T.i4 (Δ ?_ aP)));refine ux rfl (show eK Jj (Ξ AG) _ ["clock"] [1] from⟨rfl,by decide +kernel,by decide +kernel,by decide +kernel,by decide +kernel,by decide +kernel⟩) ?_ ?_;refine sM (χ (pv 0));intro s0 H0 fp0;refine⟨(iG (i:=0) (show (["clock","number"]:List ν).Nodup by decide +kernel)),(EG ?_),(χ (pv 0))⟩;refine xB (dw ((XY T).mono (by decide)) hr T.NA T.Hn.kp T.N4 (Δ (χ (pv 0)) (Δ (χ (pv 1)) aP)))
theorem XR:∀ds G Q,(ur t.rA t.nL) ds G Q->ds.length=3:=by
 intro ds G Q h
 first
  | (rcases ds with _|⟨_,_|⟨_,_|⟨_,_|⟨_,_⟩⟩⟩⟩<;>first|rfl|exact h.elim)
  | (obtain⟨rfl,_⟩:=h;rfl)
  | (obtain⟨_,rfl,_⟩:=h;rfl)
  | (obtain⟨_,_,rfl,_⟩:=h;rfl)
  | (obtain⟨_,_,_,rfl,_⟩:=h;rfl)
  | (obtain⟨_,_,_,_,rfl,_⟩:=h;rfl)
  | (obtain⟨_,_,_,_,_,rfl,_⟩:=h;rfl)
  | (obtain⟨_,_,_,_,_,_,rfl,_⟩:=h;rfl)
  | (obtain⟨_,_,_,_,_,_,_,rfl,_⟩:=h;rfl)
  | (obtain⟨_,_,_,_,_,_,_,_,rfl,_⟩:=h;rfl)
theorem AE(T:Txt K mg t):dC P w K mg base 5 t.BL t.Cf ["call","clocks","thing"] (ur t.rA t.nL):=by
 refine fB (k:=4) (sp:=(ur t.rA t.nL)) T.xh C5 (by decide) XR (IT rs t.rA t.nL) (fun cdv A outer s H E hr=>?_) (ZC t.rA t.nL);refine P9 (i:=3) (names:=rs) MS T.takes T.zF C5.nd (Qb ?_ Qa) ?_ (bZ (eE kO));refine ZY (i:=0) (fun f sp h=>by
  rcases h with⟨rfl,rfl⟩|⟨rfl,rfl⟩
  ·exact⟨_,_,(Iw T).mono (by decide),T.Gd.kp,T.MX⟩
  ·exact⟨_,_,(Iy T).mono (by decide),T.CP.kp,T.GY⟩) hr ?_
 refine Δ (χ (pv 1)) (Δ (χ (pv 2)) aP);intro e0;refine bR (jI (wd ?_) (bZ (eE kO)) lS) ?_;refine KI (gx nk (m9 hr.units) ?_ kO (b9 _)) (KJ ?_);refine Jo ((Ir T).mono (by decide)) hr.h.mark T.GK T.CS.kp T.Hc (Δ (χ (pv 3)) aP);refine gx rq (rk hr.units) (p8 (Δ (JV T.FG (χ (pv 3))) (Δ (JV T.FF (χ (pv 3))) aP))) ?_ (b9 _);refine p8 (Δ (lI hr.units T.i4 (Δ (χ (pv 1)) aP)) (Δ aU aP));refine bZ (eE (Jo ((Ir T).mono (by decide)) hr.h.mark T.GK T.CS.kp T.Hc (Δ (χ (pv 3)) aP)))
theorem XQ:∀ds G Q,yL ds G Q->ds.length=3:=by
 intro ds G Q h
 first
  | (rcases ds with _|⟨_,_|⟨_,_|⟨_,_|⟨_,_⟩⟩⟩⟩<;>first|rfl|exact h.elim)
  | (obtain⟨rfl,_⟩:=h;rfl)
  | (obtain⟨_,rfl,_⟩:=h;rfl)
  | (obtain⟨_,_,rfl,_⟩:=h;rfl)
  | (obtain⟨_,_,_,rfl,_⟩:=h;rfl)
  | (obtain⟨_,_,_,_,rfl,_⟩:=h;rfl)
  | (obtain⟨_,_,_,_,_,rfl,_⟩:=h;rfl)
  | (obtain⟨_,_,_,_,_,_,rfl,_⟩:=h;rfl)
  | (obtain⟨_,_,_,_,_,_,_,rfl,_⟩:=h;rfl)
  | (obtain⟨_,_,_,_,_,_,_,_,rfl,_⟩:=h;rfl)
theorem XO(T:Txt K mg t):dC P w K mg base 5 t.BQ t.Cm ["clocks","missed","n"] yL:=by
 refine fB (k:=4) (sp:=yL) T.Hm um (by decide) XQ (IL) (fun cdv A outer s H E hr=>?_) Zr;refine bR ?_ ?_;refine da (i:=3) um.nd (dw ((DI T).mono (by decide)) hr T.Bw T.yz.kp T.CG (Δ (χ (pv 0)) aP));refine bR (da (i:=4) um.nd ?_) ?_;refine bM jg jh (bM oX oY (bM rl rm (χ (pv 2)) (lI hr.units T.i4 (Δ (χ (pv 1)) aP))) (χ (pv 3))) ?_;refine iR (χ (pv 1)) (bM mf mh (χ (pv 2)) (lI hr.units T.i4 (Δ (χ (pv 1)) aP)));refine bR (da (i:=5) um.nd ?_) ?_;refine yR ((Iy T).mono (by decide)) hr Gy T.Bx T.CP.kp T.GY (Δ (χ (pv 0)) (Δ (χ (pv 2)) aP));refine bR (jI (wd ?_) (bZ (eE sN)) lS) ?_;refine zc (AY (xB (dw ((Iu T).mono (by decide)) hr T.GH T.CN.kp T.GW (Δ (χ (pv 5)) aP)))) ?_;refine zd (gx rq (rk hr.units) (χ (pv 5)) (χ (pv 4)) (b9 _));refine bR (da (i:=6) um.nd ?_) (bZ (eE ?_));refine yR ((Iw T).mono (by decide)) hr Gy T.Fx T.Gd.kp T.MX ?_;refine Δ (χ (pv 0)) (Δ (χ (pv 5)) aP);refine Bs (dw ((Iu T).mono (by decide)) hr T.GH T.CN.kp T.GW (Δ (χ (pv 6)) aP)) ?_;refine Bt (ze nk (m9 hr.units) (χ (pv 6)) (χ (pv 2)) (b9 _))
theorem XN:∀ds G Q,nT ds G Q->ds.length=1:=by
 intro ds G Q h;obtain⟨_,rfl,_⟩:=h;rfl
theorem MA(T:Txt K mg t):dC P w K mg base 6 t.B6 t.xa ["script"] nT:=by
 refine fB (k:=5) (sp:=nT) T.Of iF (by decide) XN (IG t.rA t.nL) (fun cdv A outer s H E hr=>?_) (ZJ t.rA t.nL);refine bR (da (i:=1) iF.nd (KA hr.units T.Aj (Δ ?_ aP))) ?_;refine ux rfl (show eK AF (Ξ xy) _ ["k"] [] from⟨rfl,by decide +kernel,by decide +kernel,by decide +kernel,by decide +kernel,by decide +kernel⟩) ?_ ?_;refine xR T.nj (Δ aU aP);intro s0 H0 fp0;refine⟨(iG (i:=0) (show (["k"]:List ν).Nodup by decide +kernel)),wc,(p8 (Δ aU (Δ (χ (pv 0)) aP)))⟩;refine bR ?_ (bR ?_ (bZ (eE sN)));refine rj cN rfl (sM (lR (Δ aU (Δ xC aP)))) (iG (i:=2) iF.nd) ?_;refine bZ (jI (wd ?_) (bZ (eE sN)) lS);refine zc (gx rq (rk hr.units) ?_ kO (b9 _)) (zd (gx rq (rk hr.units) ?_ kO (b9 _)));refine dw ((AE T).mono (by decide)) hr T.yr T.xh.kp T.yx ?_;refine Δ (AN T.Fx) (Δ (χ (pv 1)) (Δ (χ (pv 2)) aP));refine dw ((AE T).mono (by decide)) hr T.yr T.xh.kp T.yx ?_;refine Δ (AN T.Bx) (Δ (χ (pv 1)) (Δ aU aP));refine rj cN rfl (sM ?_) (iG (i:=3) iF.nd) ?_;refine bM jg jh (lR ?_) (EF (χ (pv 0)) (Bq aU) (Bq aU));refine Δ (dw ((YB T).mono (by decide)) hr T.NI T.Hw.kp T.Ob (Δ (χ (pv 0)) (Δ aU aP))) (aP);refine bR ?_ ?_;refine da (i:=4) iF.nd (dw ((Yy T).mono (by decide)) hr T.NH T.Hu.kp T.Oa (Δ (χ (pv 3)) aP));refine bR (da (i:=5) iF.nd ?_) ?_;refine dw ((X0 T).mono (by decide)) hr T.aaH T.Nc.kp T.aa4 (Δ (χ (pv 4)) (Δ aU aP));refine bR ?_ ?_;refine jI ?_ (bZ (da (i:=5) iF.nd (EF (χ (pv 5)) KC (Bq aU)))) lS;refine gx xY xI (dw ((DI T).mono (by decide)) hr T.Bw T.yz.kp T.CG (Δ (χ (pv 5)) aP)) aU (b9 _);refine bR ?_ ?_;refine da (i:=6) iF.nd (dw ((DI T).mono (by decide)) hr T.Bw T.yz.kp T.CG (Δ (χ (pv 5)) aP));refine bR (jI (gx aaK WQ (χ (pv 6)) aU (b9 _)) ?_ lS) ?_;refine bR ?_ (bZ ?_);refine Lh (i:=7) rfl iF.nd (show eK AF (Ξ xy) _ ["number"] [5] from⟨rfl,by decide +kernel,by decide +kernel,by decide +kernel,by decide +kernel,by decide +kernel⟩) ?_ ?_;refine xR T.nj (Δ (χ (pv 6)) aP);intro s0 H0 fp0;refine⟨(iG (i:=0) (show (["number","clocks"]:List ν).Nodup by decide +kernel)),(EG (gx nk (m9 hr.units) ?_ aU (b9 _))),?_⟩;refine dw ((XS T).mono (by decide)) hr T.NC T.Hq.kp T.N6 (Δ (χ (pv 1)) (Δ (χ (pv 0)) aP));refine χ (pv 0);refine jI (gx nk (m9 hr.units) (χ (pv 7)) (lR aP) (b9 _)) (bZ ?_) (bZ ?_);refine jI (gx rq (rk hr.units) ?_ kO (b9 _)) (bZ (eE sN)) lS;refine dw ((AE T).mono (by decide)) hr T.yr T.xh.kp T.yx ?_;refine Δ (AN T.Bx) (Δ (χ (pv 5)) (Δ ?_ aP));refine dw ((kN T).mono (by decide)) hr T.iz T.ib.kp T.iA ?_;refine Δ (χ (pv 4)) (Δ (bM zl zm aU aU) aP);refine rj cN rfl (sM (lR (Δ aU ?_))) (iG (i:=8) iF.nd) ?_;refine Δ aU (Δ (lI hr.units T.i4 (Δ (χ (pv 7)) aP)) ?_);refine Δ (dw ((kN T).mono (by decide)) hr T.iz T.ib.kp T.iA (Δ (χ (pv 4)) (Δ aU aP))) ?_;refine Δ ?_ (Δ (bM zl zm aU aU) aP);refine dw ((kN T).mono (by decide)) hr T.iz T.ib.kp T.iA ?_;refine Δ (χ (pv 4)) (Δ (bM zl zm aU aU) aP);refine bZ (jI (AY (xB ?_)) (bZ (eE sN)) lS);refine dw ((XO T).mono (by decide)) hr T.Nz T.Hm.kp T.N0 ?_;refine Δ (χ (pv 5)) (Δ (χ (pv 7)) (Δ (χ (pv 8)) aP));refine bR (da (i:=9) iF.nd ?_) ?_
 refine lR (Δ (KL aU) (Δ sN (Δ xC (Δ kO ?_))));refine Δ (p8 (Δ aU aP)) (Δ (bM oG oJ (KL aU) ?_) aP);refine dw ((kN T).mono (by decide)) hr T.iz T.ib.kp T.iA (Δ (χ (pv 4)) (Δ aU aP));refine bR (da (i:=9) iF.nd (bM jg jh (χ (pv 9)) ?_)) (bZ ?_);refine ux rfl (show eK AF (Ξ xy) _ ["clock"] [4] from⟨rfl,by decide +kernel,by decide +kernel,by decide +kernel,by decide +kernel,by decide +kernel⟩) ?_ ?_;refine sM (χ (pv 5));intro s0 H0 fp0;refine⟨(iG (i:=0) (show (["clock","pen"]:List ν).Nodup by decide +kernel)),wc,?_⟩;refine bM jg jh (iR (χ (pv 0)) aU) (bM oX oY (iR (χ (pv 0)) aU) ?_);refine dw ((kN T).mono (by decide)) hr T.iz T.ib.kp T.iA ?_;refine Δ (χ (pv 1)) (Δ (bM zl zm aU aU) aP);refine rj cN rfl (sM (χ (pv 9))) (iG (i:=2) iF.nd) (bZ ?_);refine jI (gx rq (rk hr.units) ?_ kO (b9 _)) (bZ (eE sN)) lS;refine dw ((AE T).mono (by decide)) hr T.yr T.xh.kp T.yx ?_;refine Δ (AN T.Fx) (Δ (χ (pv 5)) (Δ (χ (pv 2)) aP))
end
def gg(K:η)(nm:ν)(st:aM):Prop:=∃f d,dR K nm nm st f d/\bw K aS nm=some (some (.ref f))
theorem cG{K:η}{nm:ν}{st:aM}{f:ζ}{od an:Option ζ}{sl:Array (Option ε)}{oc kV dc pm cd ct:ε}(a:bw K aS nm=some (some (.ref f)))(l:K.lookup f=some ⟨oc,od,.func (gT nm nm (pQ st) (fu st) (Ξ st) .none kV dc pm an cd ct),sl⟩)(c:ky K cd nm=true)(k:bW K (.ref f)=true):gg K nm st:=⟨f,_,Mr l c k,a⟩
theorem yB{K:η}{h:Ψ}{mg:ν->Option ε}(X:K.In h)(G:h.Ns aS mg)
  (h0:gg K "whole_good" DX)
  (h1:gg K "refuse_above" DW)
  (h2:gg K "doubled" DV)
  (h3:gg K "common_divisor" DU)
  (h4:gg K "inverse_of" DT)
  (h5:gg K "rings" DS)
  (h6:gg K "rings_at" AM)
  (h7:gg K "meet_of" DR)
  (h8:gg K "miss_good" DQ)
  (h9:gg K "weights_of" AL)
  (uK:gg K "put_weight" AK)
  (h11:gg K "rings_below" Es)
  (h12:gg K "missed_below" AJ)
  (h13:gg K "nth_missed" Er)
  (h14:gg K "missed_ahead" Ep)
  (h15:gg K "window_of" Eo)
  (h16:gg K "next_missed" En)
  (h17:gg K "_law_cell_at" Em)
  (h18:gg K "_law_next" El)
  (h19:gg K "_law_pen_of" Ek)
  (h20:gg K "_law_draw" Ej)
  (h21:gg K "_law_whole" Ei)
  (h22:gg K "_law_kind_of" DP)
  (h23:gg K "_law_clock_by" DO)
  (h24:gg K "_law_parts_by" AI)
  (h25:gg K "_law_clocks_by" AH)
  (h26:gg K "_law_rings" DN)
  (h27:gg K "_law_common" DM)
  (h28:gg K "_law_round" DL)
  (h29:gg K "_law_times" AG)
  (h30:gg K "_law_said" DK)
  (h31:gg K "_law_right" DJ)
  (h32:gg K "law" xy)
  {C_ClockError:ζ} (n_ClockError:bw K aS "ClockError" = some (some (.ref C_ClockError)))
  {C_NoClock:ζ} (n_NoClock:bw K aS "NoClock" = some (some (.ref C_NoClock)))
  {C_NoNumber:ζ} (n_NoNumber:bw K aS "NoNumber" = some (some (.ref C_NoNumber)))
  {C_NoPlace:ζ} (n_NoPlace:bw K aS "NoPlace" = some (some (.ref C_NoPlace)))
  {C_NoRow:ζ} (n_NoRow:bw K aS "NoRow" = some (some (.ref C_NoRow)))
  {C_NoClocks:ζ} (n_NoClocks:bw K aS "NoClocks" = some (some (.ref C_NoClocks)))
  {C_NoText:ζ} (n_NoText:bw K aS "NoText" = some (some (.ref C_NoText)))
  {C_TooGreat:ζ} (n_TooGreat:bw K aS "TooGreat" = some (some (.ref C_TooGreat)))
  (pM:excIn K C_NoNumber (.ref C_ClockError::gM) none "ValueError.__new__" = true)
  (vK:bX K (.ref C_NoNumber) "__setattr__" = some (some (.builtin "object.__setattr__"))) (v2_NoNumber:jo K C_NoNumber (.type "object")=some true) (v3_NoNumber:bW K (.ref C_NoNumber)=true) (v4_NoNumber:bX K (.ref C_NoNumber) "__getattribute__" = some (some (.builtin "BaseException.__getattribute__"))) (v8_NoNumber:bX K (.ref C_NoNumber) "__getattr__" = some none) (v9_NoNumber:jo K C_NoNumber (.type "BaseException")=some true) (v5_NoNumber:pB K C_NoNumber=true) (v6_NoNumber:bX K (.ref C_NoNumber) "__class__" = some (some (.builtin "object.__class__")))
  (ma:bX K (.ref C_NoNumber) "many" = some none)
  (lZ:bX K (.ref C_NoNumber) "most" = some none)
  (jW:ω K (.ref C_NoNumber) (.ref C_NoClock)=some false)
  (jB:ω K (.ref C_NoNumber) (.ref C_NoClocks)=some false)
  (jA:ω K (.ref C_NoNumber) (.ref C_NoNumber)=some true)
  (jV:ω K (.ref C_NoNumber) (.ref C_NoPlace)=some false)
  (lH:ω K (.ref C_NoNumber) (.ref C_NoRow)=some false)
  (kL:ω K (.ref C_NoNumber) (.ref C_NoText)=some false)
  (jz:ω K (.ref C_NoNumber) (.ref C_TooGreat)=some false)
  (qX:ω K (.ref C_NoNumber) (.type "ValueError")=some true)
  {gK:ζ} (i_TooGreat:bX K (.ref C_TooGreat) "__init__" = some (some (.ref gK)))
  {qd_TooGreat qn_TooGreat:Option ζ} {qs_TooGreat:Array (Option ε)} {qc_TooGreat qk_TooGreat qo_TooGreat qp_TooGreat qe_TooGreat qt_TooGreat:ε} (j_TooGreat:K.lookup gK=some ⟨qc_TooGreat,qd_TooGreat,.func (gT "__init__" "TooGreat.__init__" (pQ xw) (fu xw) (Ξ xw) .none qk_TooGreat qo_TooGreat qp_TooGreat qn_TooGreat qe_TooGreat qt_TooGreat),qs_TooGreat⟩) (h_TooGreat:ky K qe_TooGreat "TooGreat.__init__" = true) (g_TooGreat:bW K (.ref gK)=true) (y_TooGreat:sj K (.ref gK)=some (.type "function"))
  (mo:excIn K C_TooGreat (.ref C_ClockError::gM) (some (.ref gK)) "ValueError.__new__" = true)
  (qY:bX K (.ref C_TooGreat) "__setattr__" = some (some (.builtin "object.__setattr__"))) (v2_TooGreat:jo K C_TooGreat (.type "object")=some true) (v3_TooGreat:bW K (.ref C_TooGreat)=true) (v4_TooGreat:bX K (.ref C_TooGreat) "__getattribute__" = some (some (.builtin "BaseException.__getattribute__"))) (v8_TooGreat:bX K (.ref C_TooGreat) "__getattr__" = some none) (v9_TooGreat:jo K C_TooGreat (.type "BaseException")=some true) (v5_TooGreat:pB K C_TooGreat=true) (v6_TooGreat:bX K (.ref C_TooGreat) "__class__" = some (some (.builtin "object.__class__")))
  (jG:bX K (.ref C_TooGreat) "many" = some none)
  (jF:bX K (.ref C_TooGreat) "most" = some none)
  (jU:ω K (.ref C_TooGreat) (.ref C_NoClock)=some false)
  (jy:ω K (.ref C_TooGreat) (.ref C_NoClocks)=some false)
  (jx:ω K (.ref C_TooGreat) (.ref C_NoNumber)=some false)
  (jT:ω K (.ref C_TooGreat) (.ref C_NoPlace)=some false)
  (lG:ω K (.ref C_TooGreat) (.ref C_NoRow)=some false)
  (kK:ω K (.ref C_TooGreat) (.ref C_NoText)=some false)
  (jw:ω K (.ref C_TooGreat) (.ref C_TooGreat)=some true)
  (qW:ω K (.ref C_TooGreat) (.type "ValueError")=some true)
  (eb:excIn K C_ClockError gM none "ValueError.__new__" = true) (u1:vE K (.builtin "object.__class__") "__get__" = some (some (.builtin "getset_descriptor.__get__"))) (u2:xm K (.builtin "object.__class__")=some true)
  {t0:Tok} (gint0:bw K aS "MOST_FAR_CLOCKS" = some (some (.int 10 t0)))
  (z0:bw K aS "ValueError" = some none)
  (z1:bw K aS "bool" = some none)
  (z2:bw K aS "int" = some none)
  (z3:bw K aS "isinstance" = some none)
  (z4:bw K aS "len" = some none)
  (z5:bw K aS "max" = some none)
  (z6:bw K aS "min" = some none)
  (z7:bw K aS "range" = some none)
  (z8:bw K aS "set" = some none)
  (z9:bw K aS "sorted" = some none)
  (HS:bw K aS "sum" = some none)
  (HR:bw K aS "tuple" = some none)
  (HQ:bw K aS "zip" = some none)
  : ∃t:HA,Txt K mg t/\∀(s:θ) (v:ε),pV s t.xa ⟨[v],[]⟩ [("script",v)]:=by
 obtain⟨f0,d0,F0,a0⟩:=h0;obtain⟨f1,d1,F1,a1⟩:=h1;obtain⟨f2,d2,F2,a2⟩:=h2;obtain⟨f3,d3,F3,a3⟩:=h3;obtain⟨f4,d4,F4,a4⟩:=h4;obtain⟨f5,d5,F5,a5⟩:=h5;obtain⟨f6,d6,F6,a6⟩:=h6;obtain⟨f7,d7,F7,a7⟩:=h7;obtain⟨f8,d8,F8,a8⟩:=h8;obtain⟨f9,d9,F9,a9⟩:=h9;obtain⟨f10,d10,F10,a10⟩:=uK;obtain⟨f11,d11,F11,a11⟩:=h11;obtain⟨f12,d12,F12,a12⟩:=h12;obtain⟨f13,d13,F13,a13⟩:=h13;obtain⟨f14,d14,F14,a14⟩:=h14;obtain⟨f15,d15,F15,a15⟩:=h15;obtain⟨f16,d16,F16,a16⟩:=h16;obtain⟨f17,d17,F17,a17⟩:=h17;obtain⟨f18,d18,F18,a18⟩:=h18;obtain⟨f19,d19,F19,a19⟩:=h19;obtain⟨f20,d20,F20,a20⟩:=h20;obtain⟨f21,d21,F21,a21⟩:=h21;obtain⟨f22,d22,F22,a22⟩:=h22;obtain⟨f23,d23,F23,a23⟩:=h23;obtain⟨f24,d24,F24,a24⟩:=h24;obtain⟨f25,d25,F25,a25⟩:=h25;obtain⟨f26,d26,F26,a26⟩:=h26;obtain⟨f27,d27,F27,a27⟩:=h27;obtain⟨f28,d28,F28,a28⟩:=h28;obtain⟨f29,d29,F29,a29⟩:=h29;obtain⟨f30,d30,F30,a30⟩:=h30;obtain⟨f31,d31,F31,a31⟩:=h31;obtain⟨f32,d32,F32,a32⟩:=h32;have I_TooGreat:=Mr (st:=xw) j_TooGreat h_TooGreat g_TooGreat;exact⟨⟨f0,d0,f1,d1,f2,d2,f3,d3,f4,d4,f5,d5,f6,d6,f7,d7,f8,d8,f9,d9,f10,d10,f11,d11,f12,d12,f13,d13,f14,d14,f15,d15,f16,d16,f17,d17,f18,d18,f19,d19,f20,d20,f21,d21,f22,d22,f23,d23,f24,d24,f25,d25,f26,d26,f27,d27,f28,d28,f29,d29,f30,d30,f31,d31,f32,d32,C_ClockError,C_NoClock,C_NoNumber,C_NoPlace,C_NoRow,C_NoClocks,C_NoText,C_TooGreat,gK,_,t0⟩,⟨F0,
  ak X G a0,
  F0.binds (ps:=["thing"]) fun _ _ _ _ _ _ us hl=>by obtain⟨_,rfl⟩:=qb hl;rfl,
  F1,
  ak X G a1,
  F1.binds (ps:=["many","most"]) fun _ _ _ _ _ _ us hl=>by obtain⟨_,_,rfl⟩:=iI hl;rfl,
  F2,
  ak X G a2,
  F2.binds (ps:=["times"]) fun _ _ _ _ _ _ us hl=>by obtain⟨_,rfl⟩:=qb hl;rfl,
  F3,
  ak X G a3,
  F3.binds (ps:=["one","other"]) fun _ _ _ _ _ _ us hl=>by obtain⟨_,_,rfl⟩:=iI hl;rfl,
  F4,
  ak X G a4,
  F4.binds (ps:=["number","bound"]) fun _ _ _ _ _ _ us hl=>by obtain⟨_,_,rfl⟩:=iI hl;rfl,
  F5,
  ak X G a5,
  F5.binds (ps:=["clock","number"]) fun _ _ _ _ _ _ us hl=>by obtain⟨_,_,rfl⟩:=iI hl;rfl,
  F6,
  ak X G a6,
  F6.binds (ps:=["clocks","number"]) fun _ _ _ _ _ _ us hl=>by obtain⟨_,_,rfl⟩:=iI hl;rfl,
  F7,
  ak X G a7,
  F7.binds (ps:=["one","other"]) fun _ _ _ _ _ _ us hl=>by obtain⟨_,_,rfl⟩:=iI hl;rfl,
  F8,
  ak X G a8,
  F8.binds (ps:=["clocks","thing"]) fun _ _ _ _ _ _ us hl=>by obtain⟨_,_,rfl⟩:=iI hl;rfl,
  F9,
  ak X G a9,
  F9.binds (ps:=["clocks"]) fun _ _ _ _ _ _ us hl=>by obtain⟨_,rfl⟩:=qb hl;rfl,
  F10,
  ak X G a10,
  F10.binds (ps:=["weights","met","weight"]) fun _ _ _ _ _ _ us hl=>by obtain⟨_,_,_,rfl⟩:=zI hl;rfl,
  F11,
  ak X G a11,
  F11.binds (ps:=["clock","bound"]) fun _ _ _ _ _ _ us hl=>by obtain⟨_,_,rfl⟩:=iI hl;rfl,
  F12,
  ak X G a12,
  F12.binds (ps:=["weights","bound"]) fun _ _ _ _ _ _ us hl=>by obtain⟨_,_,rfl⟩:=iI hl;rfl,
  F13,
  ak X G a13,
  F13.binds (ps:=["clocks","n"]) fun _ _ _ _ _ _ us hl=>by obtain⟨_,_,rfl⟩:=iI hl;rfl,
  F14,
  ak X G a14,
  F14.binds (ps:=["clocks","number"]) fun _ _ _ _ _ _ us hl=>by obtain⟨_,_,rfl⟩:=iI hl;rfl,
  F15,
  ak X G a15,
  F15.binds (ps:=["clocks"]) fun _ _ _ _ _ _ us hl=>by obtain⟨_,rfl⟩:=qb hl;rfl,
  F16,
  ak X G a16,
  F16.binds (ps:=["clocks","number"]) fun _ _ _ _ _ _ us hl=>by obtain⟨_,_,rfl⟩:=iI hl;rfl,
  F17,
  ak X G a17,
  F17.binds (ps:=["script","k"]) fun _ _ _ _ _ _ us hl=>by obtain⟨_,_,rfl⟩:=iI hl;rfl,
  F18,
  ak X G a18,
  F18.binds (ps:=["seed"]) fun _ _ _ _ _ _ us hl=>by obtain⟨_,rfl⟩:=qb hl;rfl,
  F19,
  ak X G a19,
  F19.binds (ps:=["cell"]) fun _ _ _ _ _ _ us hl=>by obtain⟨_,rfl⟩:=qb hl;rfl,
  F20,
  ak X G a20,
  F20.binds (ps:=["pen","many"]) fun _ _ _ _ _ _ us hl=>by obtain⟨_,_,rfl⟩:=iI hl;rfl,
  F21,
  ak X G a21,
  F21.binds (ps:=["found"]) fun _ _ _ _ _ _ us hl=>by obtain⟨_,rfl⟩:=qb hl;rfl,
  F22,
  ak X G a22,
  F22.binds (ps:=["e"]) fun _ _ _ _ _ _ us hl=>by obtain⟨_,rfl⟩:=qb hl;rfl,
  F23,
  ak X G a23,
  F23.binds (ps:=["pen","most"]) fun _ _ _ _ _ _ us hl=>by obtain⟨_,_,rfl⟩:=iI hl;rfl,
  F24,
  ak X G a24,
  F24.binds (ps:=["pen","least","most"]) fun _ _ _ _ _ _ us hl=>by obtain⟨_,_,_,rfl⟩:=zI hl;rfl,
  F25,
  ak X G a25,
  F25.binds (ps:=["pen","most"]) fun _ _ _ _ _ _ us hl=>by obtain⟨_,_,rfl⟩:=iI hl;rfl,
  F26,
  ak X G a26,
  F26.binds (ps:=["clock","number"]) fun _ _ _ _ _ _ us hl=>by obtain⟨_,_,rfl⟩:=iI hl;rfl,
  F27,
  ak X G a27,
  F27.binds (ps:=["one","other"]) fun _ _ _ _ _ _ us hl=>by obtain⟨_,_,rfl⟩:=iI hl;rfl,
  F28,
  ak X G a28,
  F28.binds (ps:=["clocks"]) fun _ _ _ _ _ _ us hl=>by obtain⟨_,rfl⟩:=qb hl;rfl,
  F29,
  ak X G a29,
  F29.binds (ps:=["clocks","number"]) fun _ _ _ _ _ _ us hl=>by obtain⟨_,_,rfl⟩:=iI hl;rfl,
  F30,
  ak X G a30,
  F30.binds (ps:=["call","clocks","thing"]) fun _ _ _ _ _ _ us hl=>by obtain⟨_,_,_,rfl⟩:=zI hl;rfl,
  F31,
  ak X G a31,
  F31.binds (ps:=["clocks","missed","n"]) fun _ _ _ _ _ _ us hl=>by obtain⟨_,_,_,rfl⟩:=zI hl;rfl,
  F32,
  ak X G a32,
  F32.binds (ps:=["script"]) fun _ _ _ _ _ _ us hl=>by obtain⟨_,rfl⟩:=qb hl;rfl,
  ak X G n_ClockError,
  n_ClockError,
  ak X G n_NoClock,
  n_NoClock,
  ak X G n_NoNumber,
  n_NoNumber,
  ak X G n_NoPlace,
  n_NoPlace,
  ak X G n_NoRow,
  n_NoRow,
  ak X G n_NoClocks,
  n_NoClocks,
  ak X G n_NoText,
  n_NoText,
  ak X G n_TooGreat,
  n_TooGreat,
  ⟨pM,eb⟩,
  ⟨⟨v4_NoNumber,v8_NoNumber,v9_NoNumber⟩,JU pM,v6_NoNumber,u1,u2,v2_NoNumber⟩,
  jW,
  jB,
  jA,
  jV,
  lH,
  kL,
  jz,
  qX,
  ⟨⟨v4_NoNumber,v8_NoNumber,v9_NoNumber⟩,v5_NoNumber,ma⟩,
  ⟨⟨v4_NoNumber,v8_NoNumber,v9_NoNumber⟩,v5_NoNumber,lZ⟩,
  ⟨⟨mo,eb⟩,⟨qY,v2_TooGreat,Ph mo,fun n hn=>by
   simp only[Ω,ba,or_false] at hn;rcases hn with rfl|rfl
   ·exact jG
   ·exact jF⟩,I_TooGreat,Yt,.cons ⟨⟨_,_,_,_,rfl⟩,by decide⟩ (.cons ⟨⟨_,_,_,_,rfl⟩,by decide⟩ (.nil)),by decide +kernel,I_TooGreat.binds (ps:=["self","many","most"]) (fun _ _ _ _ _ _ us hl=>by obtain⟨_,_,_,rfl⟩:=zI hl;rfl),v3_TooGreat,by decide,Pg y_TooGreat⟩,
  ⟨⟨v4_TooGreat,v8_TooGreat,v9_TooGreat⟩,JU mo,v6_TooGreat,u1,u2,v2_TooGreat⟩,
  jU,
  jy,
  jx,
  jT,
  lG,
  kK,
  jw,
  qW,
  ⟨⟨v4_TooGreat,v8_TooGreat,v9_TooGreat⟩,v5_TooGreat,jG⟩,
  ⟨⟨v4_TooGreat,v8_TooGreat,v9_TooGreat⟩,v5_TooGreat,jF⟩,
  ak X G gint0,
  cb X G z0,
  cb X G z1,
  cb X G z2,
  cb X G z3,
  cb X G z4,
  cb X G z5,
  cb X G z6,
  cb X G z7,
  cb X G z8,
  cb X G z9,
  cb X G HS,
  cb X G HR,
  cb X G HQ⟩,fun s v=>by
  obtain⟨_,_,_,_,_,_,_,_,_,rfl,_⟩:=F32.ex;exact .of_eq rfl⟩
theorem XM(K:η)(H:Hp)(a:ζ)(ns:List Int)(hl:ns.length≤63)(ho:CJ H)(hS:fg K H a (ns.map V.int)):nH K nT [.ref a] H (fun v _=>v=.bl true) fun _ _ _=>False:=by
 refine⟨[.fy (ns.map .int)],fun _=>none,fun d _=>d=.bl true,.cons ?_ .nil,(fun _ _ e=>nomatch e),⟨ns,rfl,hl,rfl⟩,fun v H' d G' hv _ _ q=>?_⟩
 ·unfold Hv;refine⟨a,ns.map V.int,rfl,?_,aR.ints ns⟩;rcases hS with (h|h)|h
  ·rcases ho a with z|⟨o,xs,z⟩
   ·rw[z] at h;cases h
   ·rw[z] at h;cases h
  ·exact .inl h
  ·exact .inr h
 ·subst q;exact wm hv
theorem walk{l:xo}{q:ag}{loose:List ν}{XP:(ν->Option ε)->Ψ->Prop}{YP:av->Ψ->Prop}{d:DefRec}{K:Params->η}(hn:l.most=some 63)(hdf:d.params.defaults=[])
  (hY:∀(w:av) (h:Ψ),YP w h->(K w.params).In h)
  (F:∀(w:av) (mg:ν->Option ε) (fa:ζ) (h:Ψ),(K w.params).In h->h.Ns aS mg->mg d.name=some (.ref fa) ->
   ∃fd:aq,(∀(s:θ) (u:ε),pV s fd ⟨[u],[]⟩ [("script",u)])/\∀base:Ψ,(K w.params).In base->base.Ns aS mg->j5 l.prog w (K w.params) mg base se 6 fa fd ["script"] (nH (K w.params) nT)):
  PySem.W.WalkO q loose XP YP l.row.toRowW d [] (fun f vs=>xl f vs):=
 L2.Ac (n:=63) (k:=6) (x:="script") (CX:=fun _=>se) (sp:=fun w=>nH (K w.params) nT) hn (by decide) hdf ⟨rfl,by decide,by decide⟩ hY F (fun w H a ns hl ho hS=>XM (K w.params) H a ns hl ho hS) fun _ _ _ _ _ z=>z
end My
open PySem PySem.W PyProof.Rows
set_option maxRecDepth 100000 in
set_option maxHeartbeats 0 in
theorem PySem.Challenge.cw_coverclocks_k50_missed_ones_numbered_holds : PySem.Challenge.rw_coverclocks_k50_missed_ones_numbered.Holds := by
 w_on;o_law;k_head;(case hw=>w_witness2)
 k_fill
 refine My.walk (l:=PySem.Challenge.rw_coverclocks_k50_missed_ones_numbered) rfl rfl (fun w h Y=>PySem.W.kIn_of Y) ?F
 case F=>
  intro w mg fa h KX G hmg
  refine' Exists.elim (My.yB KX G (My.cG ?a0 ?l0 ?c0 ?k0) (My.cG ?a1 ?l1 ?c1 ?k1) (My.cG ?a2 ?l2 ?c2 ?k2) (My.cG ?a3 ?l3 ?c3 ?k3) (My.cG ?a4 ?l4 ?c4 ?k4) (My.cG ?a5 ?l5 ?c5 ?k5) (My.cG ?a6 ?l6 ?c6 ?k6) (My.cG ?a7 ?l7 ?c7 ?k7) (My.cG ?a8 ?l8 ?c8 ?k8) (My.cG ?a9 ?l9 ?c9 ?k9) (My.cG ?a10 ?l10 ?c10 ?k10) (My.cG ?a11 ?l11 ?c11 ?k11) (My.cG ?a12 ?l12 ?c12 ?k12) (My.cG ?a13 ?l13 ?c13 ?k13) (My.cG ?a14 ?l14 ?c14 ?k14) (My.cG ?a15 ?l15 ?c15 ?k15) (My.cG ?a16 ?l16 ?c16 ?k16) (My.cG ?a17 ?l17 ?c17 ?k17) (My.cG ?a18 ?l18 ?c18 ?k18) (My.cG ?a19 ?l19 ?c19 ?k19) (My.cG ?a20 ?l20 ?c20 ?k20) (My.cG ?a21 ?l21 ?c21 ?k21) (My.cG ?a22 ?l22 ?c22 ?k22) (My.cG ?a23 ?l23 ?c23 ?k23) (My.cG ?a24 ?l24 ?c24 ?k24) (My.cG ?a25 ?l25 ?c25 ?k25) (My.cG ?a26 ?l26 ?c26 ?k26) (My.cG ?a27 ?l27 ?c27 ?k27) (My.cG ?a28 ?l28 ?c28 ?k28) (My.cG ?a29 ?l29 ?c29 ?k29) (My.cG ?a30 ?l30 ?c30 ?k30) (My.cG ?a31 ?l31 ?c31 ?k31) (My.cG ?a32 ?l32 ?c32 ?k32) ?n_ClockError ?n_NoClock ?n_NoNumber ?n_NoPlace ?n_NoRow ?n_NoClocks ?n_NoText ?n_TooGreat ?pM ?vK ?v2_NoNumber ?v3_NoNumber ?v4_NoNumber ?v8_NoNumber ?v9_NoNumber ?v5_NoNumber ?v6_NoNumber ?ma ?lZ ?jW ?jB ?jA ?jV ?lH ?kL ?jz ?qX ?i_TooGreat ?j_TooGreat ?h_TooGreat ?g_TooGreat ?y_TooGreat ?mo ?qY ?v2_TooGreat ?v3_TooGreat ?v4_TooGreat ?v8_TooGreat ?v9_TooGreat ?v5_TooGreat ?v6_TooGreat ?jG ?jF ?jU ?jy ?jx ?jT ?lG ?kK ?jw ?qW ?eb ?u1 ?u2 ?gint0 ?z0 ?z1 ?z2 ?z3 ?z4 ?z5 ?z6 ?z7 ?z8 ?z9 ?HS ?HR ?HQ) ?fin
  case a0|l0|c0|k0|a1|l1|c1|k1|a2|l2|c2|k2|a3|l3|c3|k3|a4|l4|c4|k4|a5|l5|c5|k5|a6|l6|c6|k6|a7|l7|c7|k7|a8|l8|c8|k8|a9|l9|c9|k9=>k_is
  case a10|l10|c10|k10|a11|l11|c11|k11|a12|l12|c12|k12|a13|l13|c13|k13|a14|l14|c14|k14|a15|l15|c15|k15|a16|l16|c16|k16|a17|l17|c17|k17|a18|l18|c18|k18|a19|l19|c19|k19=>k_is
  case a20|l20|c20|k20|a21|l21|c21|k21|a22|l22|c22|k22|a23|l23|c23|k23|a24|l24|c24|k24|a25|l25|c25|k25|a26|l26|c26|k26|a27|l27|c27|k27|a28|l28|c28|k28|a29|l29|c29|k29=>k_is
  case a30|l30|c30|k30|a31|l31|c31|k31|a32|l32|c32|k32|n_ClockError|n_NoClock|n_NoNumber|n_NoPlace|n_NoRow|n_NoClocks|n_NoText|n_TooGreat=>k_is
  case pM=>kernel_rfl
  case vK|v2_NoNumber|v3_NoNumber|v4_NoNumber|v8_NoNumber|v9_NoNumber|v5_NoNumber|v6_NoNumber|ma|lZ=>k_is
  case jW|jB|jA|jV|lH|kL|jz|qX=>kernel_rfl
  case i_TooGreat|j_TooGreat|h_TooGreat|g_TooGreat|y_TooGreat=>k_is
  case mo=>kernel_rfl
  case qY|v2_TooGreat|v3_TooGreat|v4_TooGreat|v8_TooGreat|v9_TooGreat|v5_TooGreat|v6_TooGreat|jG|jF=>k_is
  case jU|jy|jx|jT|lG|kK|jw|qW|eb=>kernel_rfl
  case u1|u2|gint0|z0|z1|z2|z3|z4|z5|z6|z7|z8|z9|HS|HR|HQ=>k_is
  case fin=>
   rintro t ⟨T,b⟩
   have e2:=hmg.symm.trans T.NN
   cases e2
   exact⟨t.xa,b,fun base _ _=>My.MA T⟩
