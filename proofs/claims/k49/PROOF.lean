import PyProof.Rows.All
import Wide.All
import OpenK.AllK
import Wide.FinOn
import Lean
import PyProof.EqAt
import PyProof.EqKinds
import PyProof.TupleCall
import PyProof.NeKinds
import KE.KSortAsk
import PySem.SetTable
import PyProof.SetKind
import PyProof.TupleKey
import PyProof.IsRules
import PyProof.DictKinds
import PyProof.FactsAll.set
import PyProof.RangeIter
import PyProof.Seq
import PyProof.ForAny
import PyProof.WalksMore
import PyProof.CollectWalk
import PyProof.CollectIter
import PyProof.WalksS
import PyProof.Rows.SetFrom
import KE.KSortTup
import PyProof.Draws
import PyProof.Rows.Range3
import PyProof.DictRoadsH
import PyProof.DictTruth
import PyProof.DictItems
import PyProof.Rows.TupDisplay
import PyProof.Rows.SeqMore
import PyProof.ExcClass2
import PyProof.InstSpecial
import PyProof.RaisesMany
import PyProof.Rows.Own
import KE.KTryDeep
import PyProof.InstStoreFacts
import PyProof.ExcArgs
import PySem.Challenge.RW_coverclocks_k49_rung_far_on
set_option Elab.async false
set_option linter.all false
set_option maxRecDepth 100000
set_option maxHeartbeats 6400000
namespace PySem.W.Fast
def tw10026259289029759448:=0
def tw10027103205811776926:=0
def tw10146124407994400706:=0
def tw10185105947122395577:=0
def tw10229485742374099906:=0
def tw10269781628232915129:=0
def tw10509321420201683824:=0
def tw11079237875096966421:=0
def tw11429741232653221187:=0
def tw11708814173275107421:=0
def tw12169370493847957982:=0
def tw1247594276895620976:=0
def tw12535425180587362581:=0
def tw12643424795381004123:=0
def tw12814862245082148881:=0
def tw13412227413033399206:=0
def tw13505836845870784713:=0
def tw13571423749676215335:=0
def tw1417617739451823460:=0
def tw14240173538546846666:=0
def tw14478443123658703042:=0
def tw14511858076221727283:=0
def tw14625835266430288554:=0
def tw14883606264326581917:=0
def tw15000447432696229732:=0
def tw15247841796006019307:=0
def tw15837708100197162723:=0
def tw16208886388323515972:=0
def tw16313996661442318917:=0
def tw16324843771108246032:=0
def tw16380569650634985576:=0
def tw17090451962158582143:=0
def tw17130204863691318404:=0
def tw1718046435717631166:=0
def tw17650467213249819648:=0
def tw1784824224834073233:=0
def tw17901451776532186953:=0
def tw18259352735906177181:=0
def tw18372632363003118166:=0
def tw1941290893421960029:=0
def tw2050440934177866216:=0
def tw2071557428517470905:=0
def tw2383883916811722611:=0
def tw2409926751469261582:=0
def tw2545538085499859617:=0
def tw296756362732884419:=0
def tw3014801733934223942:=0
def tw3167179637589969400:=0
def tw3304469776217386046:=0
def tw3326173774786922753:=0
def tw3328964733979146992:=0
def tw356881955186288542:=0
def tw3600004570457909486:=0
def tw3741072401221958661:=0
def tw3880568684522855369:=0
def tw3931887417912505370:=0
def tw4056067654837211279:=0
def tw4308341787792112010:=0
def tw4550202349866681948:=0
def tw4613335368007513467:=0
def tw4627352622638658931:=0
def tw4640527661807969202:=0
def tw4748154810232422649:=0
def tw4984387853294429446:=0
def tw5162883046183054225:=0
def tw6113314906109612177:=0
def tw6164742193344789462:=0
def tw6200330517081173744:=0
def tw6265517444262035057:=0
def tw6311432057565019355:=0
def tw6565778835202515307:=0
def tw6741421356893884651:=0
def tw7017249084624933297:=0
def tw7376089277613661172:=0
def tw770589524323800052:=0
def tw7735293411397586551:=0
def tw7759300794847343440:=0
def tw7816770949926929101:=0
def tw7969334393823649639:=0
def tw8168369539090218190:=0
def tw8203763627542125956:=0
def tw827995907588092901:=0
def tw8289587789403818888:=0
def tw8356295555831416976:=0
def tw8518818613801134050:=0
def tw8680626620972574872:=0
def tw877388424956659849:=0
def tw8805226036240254642:=0
def tw8902134522522776370:=0
def tw8908526024448011759:=0
def tw892877360804950440:=0
def tw9353873585658067343:=0
def tw9596327161199027434:=0
def tw969473673099269922:=0
def tw9820673320519305382:=0
def tw9851248617789183629:=0
def tw9873234828244740888:=0
def tw9893021292744891942:=0
def tw11147910573271634014:=0
def tw12120611511582179589:=0
def tw13101363553170753744:=0
def tw1353614684154115319:=0
def tw13599433189620334992:=0
def tw13905571553546397237:=0
def tw13951200143936131295:=0
def tw14037070075289566243:=0
def tw1411117054483542962:=0
def tw14124539832062094689:=0
def tw14239623241434819167:=0
def tw14401786931346008024:=0
def tw15436478883528489893:=0
def tw15528917654905364631:=0
def tw1606553586005798439:=0
def tw16155735468165829479:=0
def tw16211357920958445620:=0
def tw16230587769739235624:=0
def tw16541702311696607844:=0
def tw16594573569706117460:=0
def tw16863024969680590250:=0
def tw16899109025720047312:=0
def tw17391101740847922031:=0
def tw17397286587257824990:=0
def tw17560874117310509059:=0
def tw18194711283835106957:=0
def tw201181662339079836:=0
def tw4035577976389796690:=0
def tw4225471084377264489:=0
def tw441325632131420164:=0
def tw4927732278106020894:=0
def tw5784849555212071161:=0
def tw5926076807340382034:=0
def tw6876256741385152871:=0
def tw7605767746324375755:=0
def tw8176117105897389121:=0
def tw8548541567629216865:=0
def tw8909895604630492169:=0
def tw9013354842250865034:=0
def tw9899491928492024802:=0
def tw10343219158523387786:=0
def tw10763719711358520391:=0
def tw1160692149987670851:=0
def tw11875558609769621009:=0
def tw11979983485554581953:=0
def tw12626393011197341433:=0
def tw13533224393253244121:=0
def tw15696704094662067977:=0
def tw15789521452312528968:=0
def tw16475223687866133904:=0
def tw16516317998881226991:=0
def tw17619601149333739937:=0
def tw17714297188203053106:=0
def tw18102497669234523623:=0
def tw18150013155098464566:=0
def tw18332396551513054041:=0
def tw228574265338661761:=0
def tw2537428144016541705:=0
def tw360797651181070688:=0
def tw3954414748607338947:=0
def tw3971398686748496784:=0
def tw5440782452665299718:=0
def tw5957826413995348777:=0
def tw6277939433144801208:=0
def tw6292510214740620557:=0
def tw658058246729397445:=0
def tw6925646552948560402:=0
def tw7774479959775417587:=0
def tw9374720047349974965:=0
def tw9394430859110310023:=0
def tw9768284350273363173:=0
def tw10608077359673119865:=0
def tw10788741884541961806:=0
def tw12602617240935021087:=0
def tw13527801582209537015:=0
def tw13717410706496118489:=0
def tw13921094923336976133:=0
def tw14927512224929072339:=0
def tw1551802346190002896:=0
def tw2240858955037587856:=0
def tw2410275946863905312:=0
def tw3761790427185675641:=0
def tw5183616864926949291:=0
def tw5374060727871328043:=0
def tw7723741729364343126:=0
def tw8981099799352350222:=0
def tw9955714203372160277:=0
def tw10448225999816549168:=0
def tw10890715832455108741:=0
def tw1397496597747124887:=0
def tw5599354398620465517:=0
def tw5954837106910946069:=0
def tw626423980597246339:=0
def tw6445647559617337771:=0
def tw7097132705393648648:=0
def tw8578105330062737350:=0
def tw10842541014114736353:=0
def tw11644659874694139427:=0
def tw15681616624283654611:=0
def tw17394705939441120503:=0
def tw1878185743723054272:=0
def tw2126171160617971217:=0
def tw4577018847244537960:=0
def tw764216338613396498:=0
end PySem.W.Fast
open Array renaming getElem?_eq_some_iff->aG,getElem?_toList->aY,length_toList->fH,mem_toList_iff->gD,getElem?_eq_none_iff->je,getElem?_eq_getElem->jD,getD->my,toList->p8,toList_filterMap->qV,toList_extract->sT,forIn_toList->uF
open Bool renaming false_ne_true->az,and_eq_true->cM,false_eq_true->dD,eq_iff_iff->qw,and_true->tD,or_true->uE
open Classical renaming byContradiction->bf
open False renaming elim->cC
open ForInStep renaming yield->ie
open Int renaming emod_lt_of_pos->cf,toNat_of_nonneg->cm,toNat_natCast->cB,emod_nonneg->cJ,mul_ediv_add_emod->cR,natCast_mul->cY,mul_comm->dH,mul_assoc->dI,dvd_mul_right->dP,natCast_nonneg->eX,mul_le_mul_of_nonneg_left->fy,natCast_dvd_natCast->fB,dvd_sub->fP,natAbs_dvd_natAbs->gm,natCast_ediv->gQ,le_trans->gR,dvd_trans->g8,mul_sub->il,natCast_emod->iZ,natAbs_natCast->jU,lt_of_le_of_lt->jV,ediv_eq_iff_of_pos->kR,natCast_pos->mw,mul_le_mul_of_nonneg_right->mx,mul_one->nk,dvd_add->nq,emod_eq_zero_of_dvd->qd,natCast_add->qt,pow_nonneg->rM,dvd_natAbs->rN,ofNat_dvd->tz,pow_succ->uC,ofNat_le->uD,sub_mul->vp,one_dvd->vt,mul_neg->vw
open List renaming length_map->π,size_toArray->ψ,mem_cons_self->Γ,mem_cons_of_mem->Δ,length_append->Ω,mem_cons->aa,replicate->aj,map_cons->ak,getElem?_eq_getElem->aw,range->aA,length_cons->aB,getElem?_map->aE,getElem?_eq_some_iff->aM,mem_append_right->aV,not_mem_nil->aZ,mem_map->br,getD_eq_getElem?_getD->bw,append_nil->bB,sum_cons->bK,map_append->bM,map_map->bV,mem_of_getElem?->bZ,mem_range->b9,length_range->cb,lookup_cons->cz,mem_singleton->cF,mem_append->cI,filter_cons->cK,nil_append->cX,replicate_succ->di,getElem?_eq_none->dw,append_assoc->dO,nodup_cons->dU,getElem?_eq_none_iff->dW,drop_eq_getElem_cons->dX,length_singleton->dY,mem_append_left->eG,map_congr_left->eN,getElem?_append_right->eO,length_take->eR,getElem?_append_left->e7,length->fe,of_mem_zip->fm,length_nil->fo,find?_cons->fq,getElem?_replicate->fA,getElem?_range->fF,filterMap_cons->fG,lookup_append->fW,filter_append->fX,length_replicate->gk,flatten_cons->gx,pairwise_iff_getElem->gA,getElem?_of_mem->gB,length_zip->ib,drop_eq_nil_of_le->ik,pairwise_map->iy,ext_getElem?->iz,all_eq_true->iX,sum_append->jz,mem_of_find?_eq_some->jA,zip_cons_cons->jQ,toArray->jR,getD->jS,find?_eq_none->jT,nodup_nil->j8,take_of_length_le->kP,getElem?_set_self->kQ,length_filter_le->lH,getElem?_zipWith->lI,map_uncurry_zip_eq_zipWith->lJ,mem_of_mem_take->mn,getElem?_set_ne->mq,forIn_cons->mr,eq_nil_of_length_eq_zero->mz,length_zipWith->mI,mem_filterMap->nJ,contains_cons->nK,take_sublist->oB,getElem?_zip_eq_some->oP,take_length->pT,mem_of_mem_eraseIdx->pU,length_filterMap_le->pV,length_drop->pW,getElem?_take_of_lt->pX,filterMap_cons_some->pY,length_eq_zero_iff->qb,getElem?_cons_succ->qc,lookup_nil->qp,foldl_cons->qr,zipWith_cons_cons->qS,range_succ_eq_map->qT,take_append_drop->rG,forIn_nil->rH,filterMap_append->rJ,drop_zero->rK,getElem_toArray->sQ,map_take->tm,map_drop->tu,getElem_of_mem->tI,getD_cons_zero->tJ,getD_cons_succ->tK,filter_eq_self->tL,zipWith->uw,map_nil->ux,map_filterMap->uy,getElem_range->uz,getElem?_drop->uA,filterMap_map->uB,foldl->wN
open List.Pairwise renaming nil->u6,map->u7
open List.cons renaming injEq->wO
open Nat renaming le_refl->Ψ,le_trans->av,lcm->aS,ne_of_lt->bh,zero_le->bp,lt_of_lt_of_le->bE,gcd->bP,lt_irrefl->cy,pow_le_pow_right->cW,ne_of_gt->eA,mod_lt->fO,lt_of_le_of_lt->fV,mul_comm->gM,le_add_right->gN,gcd_comm->gO,lt_succ_of_lt->ix,pow_succ->iJ,mul_le_mul_right->iV,gcd_dvd_left->iW,le_of_dvd->jc,div_eq_of_eq_mul_right->jd,lt_trans->jP,le_mul_of_pos_right->kl,dvd_lcm_right->kC,le_mul_of_pos_left->kO,lt_succ_self->ls,dvd_lcm_left->lu,lcm_dvd->nj,gcd_zero_right->nH,add_sub_cancel->nI,mul_assoc->nX,dvd_trans->nY,gcd_dvd_right->oA,succ_pos->pP,min_self->pQ,le_of_not_lt->pR,le_of_lt->pS,gcd_pos_of_pos_left->p9,div_le_self->qo,mul_pos->qO,le_succ->qP,lcm_pos->qQ,gcd_rec->qR,mul_le_mul_left->tH,succ_mul->uu,add_zero->uv
open Ne renaming symm->de
open Option renaming bind_some->iU,isSome_iff_exists->jO,map->sO,getD_none->v9
open Option.some renaming inj->aJ
open Or renaming inr->rF,inl->ur
open PyProof.Rows renaming slot_tuple_getitem->cT,IntsAre->gG,callWith_type1->iO,AllBare->kc,get?_update_seq->mi,assignInOrder_cons->nC,listUpdate_at->nV,IsTup->oQ,SortKind->pM,seqEpoch_at->qN
open PyProof.Rows.F renaming plain_set_update_loop->fU,entry_set_update_loop->jN
open PySem renaming wpAny_bind->δ,Value->ε,Addr->ζ,Shared->θ,wpAny_pure->ι,Str->ξ,wpAny->ρ,Expr->υ,Heap->Φ,Program->ah,Spec->ai,sizeLine->au,World->ax,FuncData->ay,Obj->aK,Around->aL,mainGlobals->aN,Pos->aQ,Stmt->aR,wpAny_newObj_type->bC,wpAny_field->bG,SetTable->bI,wpAny_holding->bO,wpAny_setField_rec->bU,starEach->bW,wpAny_call_entry->bX,wpAny_callSpecial?_slot->ck,sizeLine_eq->cq,wpAny_mono->cO,Builtin->df,Env->dm,wpAny_setState_of->dt,Scope->dZ,wpAny_seqItems->eE,wpAny_Call_Name_kw->eV,wpAny_typeNameOfWhole_itemiter->fj,wpAny_pyIter_list->fw,wpAny_loadPart_at->fx,mem_of_lookup->fE,wpAny_setField->fI,NameKind->fJ,codeAny_mono->fS,wpAny_passesOwn->gi,wpAny_execs_nil->gj,wpAny_attempt->gr,wpAny_typeNameOf_itemiter->gz,bootBuiltins->gK,IsPair->gP,wpAny_standAt->g7,wpAny_pyIter_tuple->hX,codeAny_builtin->hZ,wpAny_truthy_bool->iu,codeAny->iG,wpAny_execs_cons->iS,wpAny_call->iT,IsItemIter->iY,wpAny_newFunctionEnv_cells->i9,wpAny_isSubtype_exc->jo,wpAny_typeOf->jL,DictEntry->jW,call_meets->j5,wpAny_pyIter_slot->kB,wpAny_of_eq->kJ,wpAny_isOneOf_itemiter->kK,Sem->kL,IsZip->kX,wpAny_isInstance->lp,wpAny_forIn_list->lr,codeAny_call_function->lF,PassesOwn->lG,wpAny_updateSeq_pair->me,wpAny_rule->mf,wpAny_loadName_local->mh,codeAny_call_builtin->mj,IsPart->mv,wpAny_newTuple->mW,wpAny_onRaise->nT,plainId_quiet->nU,wpAny_dictEntries->oq,wpAny_Name->oN,BindsTo->oY,wpAny_comprehension_free->pI,wpAny_askSetting->pJ,noFill_tuple_add->pK,concat_meets->pL,wpAny_dictEpoch->ql,codeAny_of_tree->qm,wpAny_letGo->qL,seqIndex_of->qM,wpAny_fieldsOf->rk,isSubtype_type->rl,isSubtype_stop->rm,entryFor_alias->rp,SetTable->rB,Keyword->rL,Operator->sP,wpAny_newList->sY,wpAny_handled->sZ,seq_tuple_add->tf,IsItemIterOut->tw,call->wJ
open PySem.Around renaming under_plainId->gE,frames_deeper->sU
open PySem.Builtin.Dict renaming showsAll->rO
open PySem.Builtin.Dict_items renaming ownsTuple->iK,ownedTupleIsFree->j9,ownedTupleFields->ka,pairFromOwner->ly
open PySem.Builtin.Frozenset renaming slot0->qe
open PySem.Builtin.Int renaming intBits->jq
open PySem.Builtin.List renaming listTooLong->gT,listExtendWith->nN,listSameRef->p6
open PySem.Builtin.Slice renaming slicePlaces->gC,sliceAdjust->jC,sliceApplied->oh
open PySem.Builtin.SmallTypes renaming nextOf->cE,ownedTupleIsFree->eH,ownedTupleHandOut->jX
open PySem.Builtin.Tuple renaming tupleExact->gS,tupleItemsOf->og
open PySem.Calls renaming callWith_builtin->kS,spliced_cons->nM,Name_function_global->nZ,evalArgs_plain->sS,spliced_nil->vd
open PySem.Code renaming quiet_builtin->nL
open PySem.Data renaming cell->qu,fields->vA
open PySem.EntryCells renaming newEntry->tN
open PySem.F renaming args_tuple_add_2->jM,entry_tuple_add->kj,slot_tuple_add->kN,type_list_append->pN,slot_list_append->pO,type_list_pop->rC,slot_list_pop->rD,slot_dict_get->rE
open PySem.Heap renaming get?_push_of_some->μ,lt_size->Θ,get?_push_size->ag,get?_update_other->bH,get?_update_self->cg,SameBut->cL,size_push->dN,get?_none_of_le->ft,IsTuple->pZ,IsList->qU,get?_push_cases->sR,get?_update_ne->tM,ExtBut->vz
open PySem.Heap.IsList renaming push->wa
open PySem.Heap.IsTuple renaming push->u9
open PySem.Heap.SameBut renaming update->dj
open PySem.NameKind renaming free->cU,cell->tj
open PySem.Obj renaming mapSeq->bA,data_mapFields->dC,isFreed_of_fields->eW,mapFields->gs,putSet->oO
open PySem.PassesOwn renaming never->bY
open PySem.SeqAt.EqAt renaming bool_bool->sN
open PySem.SeqAt.RcAt renaming lists_lengths->uq
open PySem.SetTable renaming insertAt->bT,grown->iH,below->iI,sizeAbove->nF
open PySem.Shared renaming heap->ij,TypeIs->kW
open PySem.Str renaming ofString->fk,empty->iN
open PySem.Value renaming ref->aF,none->aU,bool->eF,isInt_shape->iw,builtin->ja,int->nE,type->sM,isInt->vn
open PySem.W renaming Frag->η,kitOne->ar,mg_of->aD,nsIn->bt,mg_none_of->bL,keepIn->cp,kia_one->dA,findIn->dM,fnOf->gL,callWith_K->ia,clsIn->jb,notCls->j6,codeIn->j7,cellsFrom_some->kM,kas_ask->mX,InstAt->mY,codeRec_of->nG,mroIn->nW,methodObj->ou,kitx_list->oz,typeIn->rq,lookIn->rA,looks_clsIn->tG,specialIn->uX,kitx_dict->uY,hasDictIn->uZ,takesIn->wK,findObj->wL,OpenLaw->wM
open PySem.W.KasT renaming kasWp_bind->jB
open PySem.Within renaming cons->vm
open Sum renaming inr->oW,inl->oX
open True renaming intro->ml
namespace L2
open PySem PySem.Spec PyProof.Rows
abbrev Key:=Sum Int ξ
def Fl:Key->ε->Bool
 |.inl k,v=>vn k v
 |.inr x,v=>ε.isStrOf x v
def Yi(w:ax):Key->Int
 |.inl k=>hashInt k
 |.inr x=>hashStr w x
theorem sd:∀{k:Key} {v:ε},Fl k v=true->(∃i t,k=oX i/\v=nE i t)∨(∃x t,k=oW x/\v=ε.str x t)
 |.inl i,v,h=>by
  obtain⟨t,e⟩:=iw (k:=i) (v:=v) h;exact .inl ⟨i,t,rfl,e⟩
 |.inr x,v,h=>by
  obtain⟨t,e⟩:=ε.isStrOf_shape (x:=x) (v:=v) h;exact .inr ⟨x,t,rfl,e⟩
theorem Wb(a b:Int):decide ((oX a:Key)=oX b)=(a==b):=by
 by_cases e:a=b
 ·subst e;simp
 ·have h:¬(oX a:Key)=oX b:=fun q=>e (oX.inj q);rw[decide_eq_false h];exact (beq_eq_false_iff_ne.mpr e).symm
theorem Wa(a b:ξ):decide ((oW a:Key)=oW b)=decide (a=b):=by
 by_cases e:a=b
 ·subst e;simp
 ·have h:¬(oW a:Key)=oW b:=fun q=>e (oW.inj q);rw[decide_eq_false h,decide_eq_false e]
theorem V9(a:Int)(b:ξ):decide ((oX a:Key)=oW b)=false:=decide_eq_false (fun q=>nomatch q)
theorem V8(a:ξ)(b:Int):decide ((oW a:Key)=oX b)=false:=decide_eq_false (fun q=>nomatch q)
def xo(prog:ah)(w:ax):PySem.KeyKind prog w Key where
 is:=Fl
 hash:=Yi w
 inj:=fun v a b ha hb=>by
  rcases sd ha with⟨i,t,rfl,rfl⟩|⟨x,t,rfl,rfl⟩
  ·rcases sd hb with⟨j,u,rfl,e⟩|⟨y,u,rfl,e⟩
   ·injection e with e1 _;rw[e1]
   ·exact nomatch e
  ·rcases sd hb with⟨j,u,rfl,e⟩|⟨y,u,rfl,e⟩
   ·exact nomatch e
   ·injection e with e1 _;rw[e1]
 byValue:=fun k v h=>by
  rcases sd h with⟨i,t,rfl,rfl⟩|⟨x,t,rfl,rfl⟩<;>rfl
 pyHash:=fun hv h=>by
  rcases sd hv with⟨i,t,rfl,rfl⟩|⟨x,t,rfl,rfl⟩
  ·exact wpAny_pyHash_int h
  ·exact wpAny_pyHash_str h
 eqBool:=fun hu hv h=>by
  rcases sd hu with⟨i,t,rfl,rfl⟩|⟨x,t,rfl,rfl⟩
  ·rcases sd hv with⟨j,u,rfl,rfl⟩|⟨y,u,rfl,rfl⟩
   ·rw[Wb] at h;exact wpAny_eqBool_int h
   ·rw[V9] at h;exact SeqAt.EqAt.int_str i t y u _ _ _ _ h
  ·rcases sd hv with⟨j,u,rfl,rfl⟩|⟨y,u,rfl,rfl⟩
   ·rw[V8] at h;exact SeqAt.EqAt.str_int x t j u _ _ _ _ h
   ·rw[Wa] at h;exact wpAny_eqBool_str h
 «strs»:=fun k x t v h=>by
  rcases sd h with⟨i,u,rfl,e⟩|⟨y,u,rfl,e⟩
  ·exact nomatch e
  ·injection e with e1 _;subst e1;cases v<;>rfl
end L2
namespace L2
open PySem PySem.Spec PyProof.Rows
inductive V where
 |aC|bl (b:Bool)|int (i:Int)|str (x:ξ)|Ct (b:Array UInt8)|Lg (b:UInt64)|ref (a:ζ)|ty (n:String)
 deriving DecidableEq
def RelV:V->ε->Prop
 |.aC,u=>u=aU
 |.bl b,u=>u=eF b
 |.int i,u=>∃t,u=nE i t
 |.str x,u=>∃t,u=ε.str x t
 |.Ct b,u=>∃t,u=ε.bytes b t
 |.Lg b,u=>∃t,u=ε.float b t
 |.ref a,u=>u=aF a
 |.ty n,u=>u=sM n
abbrev bj:List V->List ε->Prop:=Paired RelV
theorem bj.length{xs:List V}{us:List ε}(r:bj xs us):xs.length=us.length:=Paired.length r
theorem bj.get:∀{xs:List V} {us:List ε} {i:Nat} {x:V},bj xs us->xs[i]?=some x->∃u,us[i]?=some u/\RelV x u
 |_,_,_,_,.nil,e=>by simp at e
 |_,_,0,_,.cons r _,e=>by simp at e;subst e;exact⟨_,rfl,r⟩
 |_,_,i+1,x,.cons _ t,e=>by
  obtain⟨u,h1,h2⟩:=bj.get (i:=i) (x:=x) t (by simpa using e);exact⟨u,by simpa using h1,h2⟩
theorem bj.set{x:V}{u:ε}(r:RelV x u):∀{xs:List V} {us:List ε} (i:Nat),bj xs us->bj (xs.set i x) (us.set i u)
 |_,_,_,.nil=>.nil
 |_,_,0,.cons _ t=>.cons r t
 |_,_,i+1,.cons q t=>.cons q (bj.set r i t)
theorem bj.append:∀{xs ys:List V} {us ws:List ε},bj xs us->bj ys ws->bj (xs++ys) (us++ws)
 |_,_,_,_,.nil,s=>s
 |_,_,_,_,.cons r t,s=>.cons r (bj.append t s)
theorem bj.take:∀{xs:List V} {us:List ε} (n:Nat),bj xs us->bj (xs.take n) (us.take n)
 |_,_,0,_=>.nil
 |_,_,_+1,.nil=>.nil
 |_,_,n+1,.cons r t=>.cons r (bj.take n t)
theorem bj.drop:∀{xs:List V} {us:List ε} (n:Nat),bj xs us->bj (xs.drop n) (us.drop n)
 |_,_,0,r=>r
 |_,_,_+1,.nil=>.nil
 |_,_,n+1,.cons _ t=>bj.drop n t
def sG:Option V->Option ε->Prop
 |some v,some u=>RelV v u
 |none,none=>True
 |_,_=>False
def KV{κ:Type}:List (κ×V)->List (κ×ε)->Prop:=Paired fun (p:κ×V) (q:κ×ε)=>p.1=q.1/\RelV p.2 q.2
def kV:Key->V
 |.inl i=>.int i
 |.inr x=>.str x
inductive HO where
 |lst (xs:List V)
 |tup (xs:List V)
 |dK (kvs:List (Key×V))|dT (kvs:List (List Key×V))
 |set (S:Int->Bool) (n:Nat)
 |ins (C dx:ζ) (fs:List (ξ×V))
 |own (x:ζ)
 |xd (fs:List (ξ×V))
 |met (f x:ζ)
 |Cd (lo hi:Int)
 |eI (o:aK) (u:HO)
 |wb (ps:Array ε)
 |ext (φ:Φ->Prop)
abbrev Hp:=ζ->Option HO
def upd(H:Hp)(a:ζ)(o:HO):Hp:=fun b=>if b=a then some o else H b
theorem gW{H:Hp}{a:ζ}{o:HO}:upd H a o a=some o:=by unfold upd;rw[if_pos rfl]
theorem dz{H:Hp}{a b:ζ}{o:HO}(h:b≠a):upd H a o b=H b:=by unfold upd;rw[if_neg h]
theorem mR{H:Hp}{a b:ζ}{o:HO}(h:H a=some o)(h':H b=none):a≠b:=by
 intro e;subst e;rw[h] at h';cases h'
def kI(h:Φ)(a:ζ)(items:Array ε):Prop:=∃o,h.get? a=some o/\o.cls=.type "tuple"/\(∃n,o.data=.seq items n)/\o.dict=none
theorem kI.tup{h:Φ}{a:ζ}{items:Array ε}(x:kI h a items):oQ h a items:=let ⟨o,h1,h2,h3,_⟩:=x;⟨o,h1,h2,h3⟩
theorem kI.new(h:Φ)(items:Array ε):kI (h.push { cls:=.type "tuple",data:=.seq items }) h.objs.size items:=⟨_,ag _ rfl,rfl,⟨_,rfl⟩,rfl⟩
theorem kI.lt{h:Φ}{a:ζ}{items:Array ε}(x:kI h a items):a<h.objs.size:=let ⟨_,ho,_⟩:=x;Θ ho
section
variable (P:ah) (w:ax)
def cH(H:Hp)(h:Φ)(a:ζ):HO->Prop
 |.lst xs=>xs.length≤au/\∃(its:List ε) (n:Nat),bj xs its/\h.get? a=some { cls:=.type "list",data:=.seq its.toArray n }
 |.tup xs=>xs.length≤au/\∃its:List ε,bj xs its/\kI h a its.toArray
 |.dK kvs=>kvs.length≤au/\(a==sysModules)=false/\∃vs,KV kvs vs/\h.DictOf (xo P w) a vs
 |.dT kvs=>kvs.length≤au/\(a==sysModules)=false/\∃xs:List (List Key×ζ×ε),
   Paired (fun (p:List Key×V) (q:List Key×ζ×ε)=>p.1=q.1/\H q.2.1=some (.tup (p.1.map kV))/\RelV p.2 q.2.2) kvs xs ∧
   ∃o es ep,h.get? a=some o/\o.ExactDict/\o.data=.dict es ep/\es.toList=xs.map (entryOfKey (tupleKind (xo P w)))/\(xs.map (·.1)).Nodup
 |.set S n=>h.SetOf (intKind P w) a S n
 |.ins C dx fs=>H dx=some (.own a)/\fs.length≤1000/\dx≠a/\h.get? a=some (PySem.W.instObj C dx) ∧
   ∃mA,h.Ns1 dx mA/\(∀f,sG (fs.lookup f) (mA f))/\PySem.Within mA (fs.map (·.1))
 |.own _=>∃o,h.get? a=some o
 |.xd fs=>∃mA,h.Ns1 a mA/\∀f,sG (fs.lookup f) (mA f)
 |.Cd lo hi=>∃t u v,h.get? a=some { cls:=.type "range",data:=.fields #[.int lo t,.int hi u,.int 1 v]}
 |.eI o u=>h.get? a=some o/\cH H h a u
 |.wb ps=>h.get? a=some { cls:=.none,data:=.fields ps }
 |.met f x=>h.get? a=some (ou (.ref f) (.ref x))
 |.ext φ=>φ h/\(∃o,h.get? a=some o)/\∀h1 h2:Φ,φ h1->(∀o,h1.get? a=some o->h2.get? a=some o)->φ h2
def fD(H:Hp)(h:Φ):Prop:=∀a o,H a=some o->cH P w H h a o
end
section
variable {P:ah} {w:ax} {H H':Hp} {h h':Φ} {a:ζ} {o:HO}
theorem cH.lt(x:cH P w H h a o):a<h.objs.size:=by
 cases o with
 |lst xs=>obtain⟨_,_,_,_,e⟩:=x;exact Θ e
 |tup xs=>obtain⟨_,_,_,p⟩:=x;exact p.lt
 |dK kvs=>obtain⟨_,_,_,_,o,_,_,e,_⟩:=x;exact Θ e
 |dT kvs=>obtain⟨_,_,_,_,o,_,_,e,_⟩:=x;exact Θ e
 |set S n=>obtain⟨o,_,_,_,e,_⟩:=x;exact Θ e
 |ins C dx fs=>obtain⟨_,_,_,e,_⟩:=x;exact Θ e
 |own y=>obtain⟨_,e⟩:=x;exact Θ e
 |xd fs=>obtain⟨_,⟨_,_,_,e,_⟩,_⟩:=x;exact Θ e
 |Cd lo hi=>obtain⟨_,_,_,e⟩:=x;exact Θ e
 |eI ob u=>obtain⟨e,_⟩:=x;exact Θ e
 |wb ps=>exact Θ (show h.get? a=some _ from x)
 |met f y=>exact Θ (show h.get? a=some _ from x)
 |ext φ=>obtain⟨_,⟨_,e⟩,_⟩:=x;exact Θ e
theorem Paired.K5{α β:Type}{F G:α->β->Prop}:∀{l₁:List α} {l₂:List β},Paired F l₁ l₂->(∀a b,F a b->G a b)->Paired G l₁ l₂
 |_,_,.nil,_=>.nil
 |_,_,.cons r t,f=>.cons (f _ _ r) (Paired.K5 t f)
theorem cH.mK(x:cH P w H h a o)(k:∀b u,(b=a∨H b=some (.own a))->h.get? b=some u->h'.get? b=some u)
  (ho:∀b,H b=some (.own a)->H' b=some (.own a)) (ht:∀b xs,H b=some (.tup xs)->H' b=some (.tup xs)):cH P w H' h' a o:=by
 induction o with
 |lst xs=>obtain⟨z,its,n,r,e⟩:=x;exact⟨z,its,n,r,k _ _ (.inl rfl) e⟩
 |tup xs=>obtain⟨z,its,r,ob,e,c⟩:=x;exact⟨z,its,r,ob,k _ _ (.inl rfl) e,c⟩
 |dK kvs=>obtain⟨z,y,vs,r,ob,es,ep,e,c⟩:=x;exact⟨z,y,vs,r,ob,es,ep,k _ _ (.inl rfl) e,c⟩
 |dT kvs=>
  obtain⟨z,y,xs,r,ob,es,ep,e,c⟩:=x;exact⟨z,y,xs,Paired.K5 r fun p q z=>⟨z.1,ht _ _ z.2.1,z.2.2⟩,ob,es,ep,k _ _ (.inl rfl) e,c⟩
 |set S n=>obtain⟨ob,es,ep,t,e,c⟩:=x;exact⟨ob,es,ep,t,k _ _ (.inl rfl) e,c⟩
 |ins C dx fs=>
  obtain⟨d,z,ne,e,mA,⟨od,es,ep,e2,c⟩,r⟩:=x;exact⟨ho _ d,z,ne,k _ _ (.inl rfl) e,mA,⟨od,es,ep,k _ _ (.inr d) e2,c⟩,r⟩
 |own y=>obtain⟨ob,e⟩:=x;exact⟨ob,k _ _ (.inl rfl) e⟩
 |xd fs=>obtain⟨mA,⟨od,es,ep,e,c⟩,r⟩:=x;exact⟨mA,⟨od,es,ep,k _ _ (.inl rfl) e,c⟩,r⟩
 |Cd lo hi=>obtain⟨t,u,v,e⟩:=x;exact⟨t,u,v,k _ _ (.inl rfl) e⟩
 |eI ob u ih=>obtain⟨e,q⟩:=x;exact⟨k _ _ (.inl rfl) e,ih q⟩
 |wb ps=>
  have e:h.get? a=some { cls:=.none,data:=.fields ps }:=x;show h'.get? a=some { cls:=.none,data:=.fields ps };exact k a _ (.inl rfl) e
 |met f y=>
  have e:h.get? a=some (ou (.ref f) (.ref y)):=x;show h'.get? a=some (ou (.ref f) (.ref y));exact k a _ (.inl rfl) e
 |ext φ=>obtain⟨p,⟨o,e⟩,st⟩:=x;exact⟨st _ _ p fun o q=>k _ _ (.inl rfl) q,⟨o,k _ _ (.inl rfl) e⟩,st⟩
theorem fD.lt(x:fD P w H h)(e:H a=some o):a<h.objs.size:=(x a o e).lt
theorem fD.fresh(x:fD P w H h)(e:h.objs.size≤a):H a=none:=by
 cases q:H a with
 |none=>rfl
 |some u=>exact absurd (bE (x.lt q) e) (cy _)
theorem fD.kept(x:fD P w H h)(k:∀b u,h.get? b=some u->h'.get? b=some u):fD P w H h':=fun a o e=>
 (x a o e).mK (fun b u _ q=>k b u q) (fun _ q=>q) fun _ _ q=>q
theorem fD.laid(x:fD P w H h)(k:∀b u,h.get? b=some u->h'.get? b=some u)(hp:h.objs.size≤a)(new:cH P w (upd H a o) h' a o):fD P w (upd H a o) h':=fun b u e=>by
 have hn:=x.fresh hp;by_cases hb:b=a
 ·subst hb;rw[gW] at e;cases e;exact new
 ·rw[dz hb] at e;exact (x b u e).mK (fun c v _ q=>k c v q) (fun c q=>by rw[dz (mR q hn)];exact q) fun c xs q=>by rw[dz (mR q hn)];exact q
end
def Rd(H:Hp)(a:ζ)(u:HO):Prop:=H a=some u∨∃o,H a=some (.eI o u)
theorem Rd.ok{P:ah}{w:ax}{H:Hp}{h:Φ}{a:ζ}{u:HO}(r:Rd H a u)(x:fD P w H h):cH P w H h a u:=by
 rcases r with r|⟨o,r⟩
 ·exact x a u r
 ·obtain⟨_,q⟩:=x a _ r;exact q
def Cv:Option HO->Prop
 |some (.lst _)=>True
 |some (.dK _)=>True
 |some (.dT _)=>True
 |some (.set _ _)=>True
 |some (.ins _ _ _)=>True
 |some (.ext _)=>True
 |_=>False
section
variable {P:ah} {w:ax} {H:Hp} {h h':Φ} {x e:ζ} {o':HO}
theorem fD.write(ok:fD P w H h)(mu:Cv (H x))(he:e=x∨H e=some (.own x))(k:∀b u,b≠e->h.get? b=some u->h'.get? b=some u)(heo:∃u,h'.get? e=some u)
  (new:cH P w (upd H x o') h' x o'):fD P w (upd H x o') h':=fun b u q=>by
 have nown:∀c y,H c=some (.own y)->c≠x:=fun c y r z=>by subst z;rw[r] at mu;exact mu
 have ntup:∀c xs,H c=some (.tup xs)->c≠x:=fun c xs r z=>by subst z;rw[r] at mu;exact mu
 by_cases hb:b=x
 ·subst hb;rw[gW] at q;cases q;exact new
 ·rw[dz hb] at q;by_cases hbe:b=e
  ·have q':H b=some (.own x):=by
    rcases he with z|z
    ·exact absurd (hbe.trans z) hb
    ·rw[hbe];exact z
   rw[q] at q';cases q';obtain⟨v,hv⟩:=heo;exact⟨v,by rw[hbe];exact hv⟩
  ·refine (ok b u q).mK (fun c v hc r=>k c v ?_ r) (fun c r=>by rw[dz (nown c b r)];exact r) fun c xs r=>by rw[dz (ntup c xs r)];exact r
   rcases hc with rfl|hc
   ·exact hbe
   ·rintro rfl;rcases he with z|z
    ·exact nown c b hc z
    ·rw[hc] at z;cases z;exact hb rfl
end
structure Un(fs ex:List ζ)(H H':Hp)(h h':Φ):Prop where
 keep:∀b o,h.get? b=some o->H b=none->b∉fs->b∉ex->h'.get? b=some o
 slot:∀b o,h.get? b=some o->H b=none->b∈fs->b∉ex->∃sl,h'.get? b=some { o with slots:=sl }
 free:∀b o,h.get? b=some o->H b=none->b∉ex->H' b=none
 there:∀b o,h.get? b=some o->b∉ex->∃o',h'.get? b=some o'
 iB:∀b xs,H b=some (.tup xs)->H' b=some (.tup xs)
 kx:∀b o u,H b=some (.eI o u)->H' b=some (.eI o u)
 nO:∀b ps,H b=some (.wb ps)->∃more,H' b=some (.wb (ps++more))
section
variable {fs fs' ex ex':List ζ} {H H1 H2:Hp} {h h1 h2 h':Φ} {a x e:ζ} {o:HO}
theorem Un.any(u:Un fs ex H H1 h h1){b:ζ}{ob:aK}(q:h.get? b=some ob)(n:H b=none)(hx:b∉ex):∃sl,h1.get? b=some { ob with slots:=sl }:=by
 by_cases hb:b∈fs
 ·exact u.slot b ob q n hb hx
 ·exact⟨ob.slots,u.keep b ob q n hb hx⟩
theorem Un.kept(k:∀b u,h.get? b=some u->h'.get? b=some u):Un fs ex H H h h':=
 ⟨fun b ob q _ _ _=>k b ob q,fun b ob q _ _ _=>⟨ob.slots,k b ob q⟩,fun _ _ _ n _=>n,fun b ob q _=>⟨ob,k b ob q⟩,fun _ _ q=>q,fun _ _ _ q=>q,fun _ ps q=>⟨#[],by rw[q];simp⟩⟩
theorem Un.refl:Un fs ex H H h h:=Un.kept fun _ _ q=>q
theorem Un.laid(k:∀b u,h.get? b=some u->h'.get? b=some u)(hp:h.objs.size≤a)(hn:H a=none):Un fs ex H (upd H a o) h h' where
 keep:=fun b u q _ _ _=>k b u q
 slot:=fun b u q _ _ _=>⟨u.slots,k b u q⟩
 free:=fun b u q n _=>by rw[dz (bh (bE (Θ q) hp))];exact n
 there:=fun b u q _=>⟨u,k b u q⟩
 iB:=fun b xs q=>by rw[dz (mR q hn)];exact q
 kx:=fun b u xs q=>by rw[dz (mR q hn)];exact q
 nO:=fun b ps q=>⟨#[],by rw[dz (mR q hn),q];simp⟩
theorem Un.write(mu:Cv (H x))(he:e=x∨H e=some (.own x))(k:∀b u,b≠e->h.get? b=some u->h'.get? b=some u)(heo:∃u,h'.get? e=some u):Un fs ex H (upd H x o) h h':=by
 have hx:∀b,H b=none->b≠x:=fun b n z=>by subst z;rw[n] at mu;exact mu
 have hb:∀b,H b=none->b≠e:=fun b n z=>by
  subst z;rcases he with r|r
  ·exact hx b n r
  ·rw[n] at r;cases r
 have hm:∀b u,H b=some u->¬Cv (some u)->b≠x:=fun b u q nm z=>by subst z;rw[q] at mu;exact nm mu
 refine⟨fun b u q n _ _=>k b u (hb b n) q,fun b u q n _ _=>⟨u.slots,k b u (hb b n) q⟩,fun b u q n _=>by rw[dz (hx b n)];exact n,fun b u q _=>?_,
  fun b xs q=>by rw[dz (hm b _ q fun z=>z)];exact q,fun b u xs q=>by rw[dz (hm b _ q fun z=>z)];exact q,fun b ps q=>⟨#[],by rw[dz (hm b _ q fun z=>z),q];simp⟩⟩
 by_cases hbe:b=e
 ·subst hbe;exact heo
 ·exact⟨u,k b u hbe q⟩
end
def oi(h:Φ)(H:Hp):List ζ:=(aA h.objs.size).filter fun a=>(H a).isSome
def sv(h:Φ)(H:Hp):Φ:=PySem.W.hideAll h (oi h H)
theorem V7(h:Φ)(H:Hp):(sv h H).objs.size=h.objs.size:=PySem.W.hideAll_size _ _
theorem V6{h:Φ}{H:Hp}{b:ζ}{o:aK}(e:h.get? b=some o)(n:H b=none):(sv h H).get? b=some o:=
 PySem.W.hideAll_get _ e fun hm=>by
  have q:(H b).isSome=true:=(List.mem_filter.mp hm).2;rw[n] at q;simp at q
theorem Wl{h:Φ}{H:Hp}{b:ζ}{o:aK}(e:(sv h H).get? b=some o):h.get? b=some o/\H b=none:=by
 have e':h.get? b=some o:=PySem.W.of_hideAll (oi h H) e;refine⟨e',?_⟩;cases q:H b with
 |none=>rfl
 |some x=>
  have hm:b∈oi h H:=List.mem_filter.mpr ⟨b9.mpr (Θ e'),by simp[q]⟩;have z:(sv h H).get? b=none:=PySem.W.hideAll_none (oi h H) hm;rw[z] at e;cases e
end L2
namespace L2
open PySem PySem.Spec PyProof.Rows
structure Mod(K:η)(mg:ξ->Option ε)(base:Φ):Prop where
 t9:K.In base
 glob:base.Ns aN mg
 blt:∃mb,base.Ns builtinsNs mb/\∀x:ξ,x≠"__name__"->mb x=gK x
 nolimit:base.NoLimit
structure Cx where
 prog:ah
 w:ax
 K:η
 mg:ξ->Option ε
 base:Φ
 A:aL
 N:List ξ
 s₀:θ
 H₀:Hp
 env:dm
 outer:List dm
 stack:List dm
 ex:List ζ
 fn:ξ->Bool
 calm:Bool
 pn:List (ζ×aK)
 xe:ε->θ->Prop
def fQ(l:List dm):List ζ:=l.filterMap (·.frame)
abbrev Cx.fs(X:Cx):List ζ:=fQ X.outer
def Lk(sc:dZ)(x:ξ):Prop:=sc.names.lookup x=some .local∨sc.names.lookup x=some .cell∨sc.names.lookup x=some .free
def Loc(sc:dZ)(x:ξ):Prop:=sc.names.lookup x=some .local∨sc.names.lookup x=some .cell
def Look(env:dm)(h:Φ)(m:ξ->Option ε)(x:ξ)(u:ε):Prop:=
 (env.kindOf x=some .local/\m x=some u)∨((env.kindOf x=some .cell∨env.kindOf x=some .free)/\∃c,env.cells.lookup x=some c/\h.IsCell c (some u))
structure Cx.Ok(X:Cx):Prop where
 mod:Mod X.K X.mg X.base
 kind:X.env.scope.kind=.function
 glob:X.env.globals=aN
 blt:X.env.builtins=builtinsNs
 above:X.s₀.heap.objs.size≤X.env.locals
 inj:∀x y c,X.env.cells.lookup x=some c->X.env.cells.lookup y=some c->x=y
 has:∀x,(X.env.kindOf x=some .cell∨X.env.kindOf x=some .free)->∃c,X.env.cells.lookup x=some c
 zE:∀x c,X.fn x=true->X.env.cells.lookup x=some c->X.s₀.heap.objs.size≤c
 hd:X.calm=true->X.A.handled=none
 frames:X.A.frames=some X.stack
 B7:X.stack=X.outer∨(X.stack=X.env::X.outer/\X.env.frame=some X.env.locals)
 Cq:∀b∈X.ex,b≠X.env.locals/\∀x c,X.env.cells.lookup x=some c->c≠b
 bs:∀b o,X.base.get? b=some o->X.s₀.heap.get? b=some o/\X.H₀ b=none
 ug:X.base.objs.size≤X.s₀.heap.objs.size
 vS:∀b o,X.base.get? b=some o->b∉X.ex
 xq:∀b∈X.ex,b∉X.fs
 lW:X.s₀.heap.FunFrames X.base X.outer
 xB:∀b∈X.fs,X.H₀ b=none
structure Inv(X:Cx)(pins:List (ζ×aK))(σ:List (Option V))(H:Hp)(s:θ):Prop where
 ok:X.Ok
 os:s.os=X.s₀.os
 bare:kc s.gens
 base:Un X.fs X.ex X.H₀ H X.s₀.heap s.heap
 loc:∃m,s.heap.Ns X.env.locals m/\∀(i:Nat) (x:ξ) (v:V),X.N[i]?=some x->σ[i]?=some (some v)->Lk X.env.scope x->∃u,RelV v u/\Look X.env s.heap m x u
 cell:∀x c,X.env.cells.lookup x=some c->∃v,s.heap.IsCell c v
 free:H X.env.locals=none
 j0:∀x c,X.env.cells.lookup x=some c->H c=none
 pin:∀p∈X.pn++pins,s.heap.get? p.1=some p.2/\H p.1=none/\p.1≠X.env.locals/\p.1∉X.fs/\∀v,p.2.data≠.cell v
 bR:fD X.prog X.w H s.heap
 len:σ.length=X.N.length
section
variable {X:Cx} {pins:List (ζ×aK)} {σ:List (Option V)} {H H':Hp} {s:θ} {h':Φ}
theorem Cx.Ok.X4(ok:X.Ok){b:ζ}{o:aK}(e:X.base.get? b=some o):b∉X.fs:=fun hb=>by
 have:=(ok.lW.mem hb).1;rw[e] at this;cases this
theorem Inv.bs(I:Inv X pins σ H s):∀b o,X.base.get? b=some o->s.heap.get? b=some o/\H b=none:=fun b o e=>
 ⟨I.base.keep b o (I.ok.bs b o e).1 (I.ok.bs b o e).2 (I.ok.X4 e) (I.ok.vS b o e),I.base.free b o (I.ok.bs b o e).1 (I.ok.bs b o e).2 (I.ok.vS b o e)⟩
theorem Inv.bk(I:Inv X pins σ H s):∀b o,X.base.get? b=some o->s.heap.get? b=some o:=fun b o e=>(I.bs b o e).1
theorem Inv.mod(I:Inv X pins σ H s):Mod X.K X.mg X.base:=I.ok.mod
theorem Inv.ir(I:Inv X pins σ H s):X.K.In s.heap:=I.ok.mod.t9.keeps I.bk
theorem Inv.nolimit(I:Inv X pins σ H s):s.heap.NoLimit:=I.ok.mod.nolimit.keeps I.bk
theorem Inv.lt(I:Inv X pins σ H s):X.env.locals<s.heap.objs.size:=let ⟨_,hn,_⟩:=I.loc;hn.lt
theorem Inv.sz(I:Inv X pins σ H s):X.s₀.heap.objs.size≤s.heap.objs.size:=av I.ok.above (pS I.lt)
theorem Inv.X3(I:Inv X pins σ H s){a:ζ}(h:s.heap.objs.size≤a):a∉X.fs:=fun hb=>by
 obtain⟨_,o,ho,_⟩:=I.ok.lW.mem hb;exact absurd (bE (Θ ho) (av I.sz h)) (cy _)
theorem Inv.xC(I:Inv X pins σ H s):∀x c,X.env.cells.lookup x=some c->c≠X.env.locals:=fun x c e z=>by
 obtain⟨v,o,ho,hd⟩:=I.cell x c e;obtain⟨m,⟨o',es,ep,ho',hd',_⟩,_⟩:=I.loc;rw[z,ho'] at ho;cases ho;rw[hd'] at hd;cases hd
theorem Inv.lW(I:Inv X pins σ H s):s.heap.FunFrames X.base X.outer:=by
 have all:∀(l:List dm),(∀b∈fQ l,b∈X.fs)->X.s₀.heap.FunFrames X.base l->s.heap.FunFrames X.base l:=by
  intro l
  induction l with
  |nil=>intro _ _;trivial
  |cons env r ih=>
   intro hs hl;obtain⟨hk,⟨L,o,hf,hn,ho,hd⟩,hr⟩:=hl;have hL:L∈X.fs:=hs L (by unfold fQ;rw[fG,hf];exact Γ);obtain⟨sl,e⟩:=I.base.slot L o ho (I.ok.xB L hL) hL fun z=>I.ok.xq L z hL;exact⟨hk,⟨L,_,hf,hn,e,hd⟩,ih (fun b hb=>hs b (by unfold fQ;rw[fG,hf];exact Δ _ hb)) hr⟩
 exact all X.outer (fun _ hb=>hb) I.ok.lW
theorem Inv.stack(I:Inv X pins σ H s):s.heap.FunFrames X.base X.stack:=by
 rcases I.ok.B7 with e|⟨e,hf⟩
 ·rw[e];exact I.lW
 ·rw[e];obtain⟨m,hn,_⟩:=I.loc;refine .cons (by rw[I.ok.kind];decide) hf hn ?_ I.lW;exact ft (av I.ok.ug I.ok.above)
theorem Inv.tP(I:Inv X pins σ H s):∀b∈fQ X.stack,b∈X.env.locals::X.fs:=fun b hb=>by
 rcases I.ok.B7 with e|⟨e,hf⟩
 ·rw[e] at hb;exact Δ _ hb
 ·rw[e] at hb;unfold fQ at hb;rw[fG,hf] at hb;exact hb
theorem Inv.lA(I:Inv X pins σ H s):∀b∈fQ X.stack,H b=none:=fun b hb=>by
 rcases aa.mp (I.tP b hb) with e|hb
 ·rw[e];exact I.free
 ·obtain⟨_,o,ho,_⟩:=I.ok.lW.mem hb;exact I.base.free b o ho (I.ok.xB b hb) fun z=>I.ok.xq b z hb
theorem Inv.step{g':Array GenState}{t':Nat}{d':Drawn}{ch:List ζ}(I:Inv X pins σ H s)
  (vg:∀b∈ch,(b∈X.ex∨X.s₀.heap.objs.size≤b)/\b≠X.env.locals/\(∀x c,X.env.cells.lookup x=some c->c≠b)/\∀p∈X.pn++pins,p.1≠b)
  (keep:∀b o,b≠X.env.locals->b∉X.fs->b∉ch->s.heap.get? b=some o->H b=none->h'.get? b=some o)
  (slot:∀b o,b≠X.env.locals->b∈X.fs->b∉ch->s.heap.get? b=some o->H b=none->∃sl,h'.get? b=some { o with slots:=sl }) (free:∀b o,b∉ch->s.heap.get? b=some o->H b=none->H' b=none)
  (there:∀b o,b∉ch->s.heap.get? b=some o->∃o',h'.get? b=some o')
  (iB:∀b xs,H b=some (.tup xs)->H' b=some (.tup xs)) (kx:∀b o u,H b=some (.eI o u)->H' b=some (.eI o u)) (nO:∀b ps,H b=some (.wb ps)->∃more,H' b=some (.wb (ps++more)))
  (ns:∀m,s.heap.Ns X.env.locals m->h'.Ns X.env.locals m) (bR:fD X.prog X.w H' h') (hg:kc g'):
  Inv X pins σ H' { s with heap:=h',gens:=g',drawn:=d',toks:=t' }:=by
 have neL:∀b o,X.s₀.heap.get? b=some o->b≠X.env.locals:=fun b o e=>bh (bE (Θ e) I.ok.above);have neC:∀b o,X.s₀.heap.get? b=some o->b∉X.ex->b∉ch:=fun b o e hx hb=>by
  rcases (vg b hb).1 with z|z
  ·exact hx z
  ·exact absurd (bE (Θ e) z) (cy _)
 have cellK:∀x c,X.env.cells.lookup x=some c->∀v,s.heap.IsCell c v->h'.IsCell c v:=fun x c e v ⟨o,ho,hd⟩=>by
  have nch:c∉ch:=fun z=>(vg c z).2.2.1 x c e rfl;by_cases hc:c∈X.fs
  ·obtain⟨sl,q⟩:=slot c o (I.xC x c e) hc nch ho (I.j0 x c e);exact⟨_,q,hd⟩
  ·exact⟨o,keep c o (I.xC x c e) hc nch ho (I.j0 x c e),hd⟩
 refine⟨I.ok,I.os,hg,⟨fun b o e n hb hx=>?_,fun b o e n hb hx=>?_,fun b o e n hx=>?_,fun b o e hx=>?_,fun b xs e=>iB b xs (I.base.iB b xs e),fun b o xs e=>kx b o xs (I.base.kx b o xs e),fun b ps e=>?_⟩,?_,fun x c e=>?_,?_,fun x c e=>?_,fun p hp=>?_,bR,I.len⟩
 ·exact keep b o (neL b o e) hb (neC b o e hx) (I.base.keep b o e n hb hx) (I.base.free b o e n hx)
 ·obtain⟨sl,e1⟩:=I.base.slot b o e n hb hx;obtain⟨sl',e2⟩:=slot b _ (neL b o e) hb (neC b o e hx) e1 (I.base.free b o e n hx);exact⟨sl',e2⟩
 ·obtain⟨o',e1⟩:=I.base.there b o e hx;exact free b o' (neC b o e hx) e1 (I.base.free b o e n hx)
 ·obtain⟨o',e1⟩:=I.base.there b o e hx;exact there b o' (neC b o e hx) e1
 ·obtain⟨m1,e1⟩:=I.base.nO b ps e;obtain⟨m2,e2⟩:=nO b _ e1;exact⟨m1++m2,by rw[e2,Array.append_assoc]⟩
 ·obtain⟨m,hn,hl⟩:=I.loc;refine⟨m,ns m hn,fun i x v e1 e2 e3=>?_⟩;obtain⟨u,r,l⟩:=hl i x v e1 e2 e3;refine⟨u,r,?_⟩;rcases l with l|⟨k,c,e,z⟩
  ·exact .inl l
  ·exact .inr ⟨k,c,e,cellK x c e _ z⟩
 ·obtain⟨v,z⟩:=I.cell x c e;exact⟨v,cellK x c e v z⟩
 ·obtain⟨m,⟨o,_,_,ho,_⟩,_⟩:=I.loc;exact free _ o (fun z=>(vg _ z).2.1 rfl) ho I.free
 ·obtain⟨v,o,ho,hd⟩:=I.cell x c e;exact free c o (fun z=>(vg c z).2.2.1 x c e rfl) ho (I.j0 x c e)
 ·obtain⟨e,n,ne,nf,d⟩:=I.pin p hp;have nch:p.1∉ch:=fun z=>(vg p.1 z).2.2.2 p hp rfl;exact⟨keep p.1 p.2 ne nf nch e n,free p.1 p.2 nch e n,ne,nf,d⟩
theorem Inv.un{t':Nat}(I:Inv X pins σ H s)(u:Un X.fs [] H H' s.heap h')(bR:fD X.prog X.w H' h'):Inv X pins σ H' { s with heap:=h',toks:=t' }:=by
 obtain⟨m,⟨o,es,ep,ho,r⟩,_⟩:=id I.loc;obtain⟨sl,hL⟩:=u.any ho I.free (by simp);exact I.step (g':=s.gens) (d':=s.drawn) (ch:=[]) (fun _ z=>nomatch z) (fun b o _ hb _ e n=>u.keep b o e n hb (by simp)) (fun b o _ hb _ e n=>u.slot b o e n hb (by simp)) (fun b o _ e n=>u.free b o e n (by simp)) (fun b o _ e=>u.there b o e (by simp)) u.iB u.kx u.nO (fun m' hm=>by
  obtain⟨o',es',ep',ho',r'⟩:=hm;rw[ho] at ho';cases ho';exact⟨_,es',ep',hL,r'⟩) bR I.bare
theorem Inv.call{g':Array GenState}{t':Nat}{d':Drawn}{ch:List ζ}(I:Inv X pins σ H s)(u:Un (fQ X.stack) ch H H' s.heap h')(bR:fD X.prog X.w H' h')(hg:kc g')
  (vg:∀b∈ch,(b∈X.ex∨X.s₀.heap.objs.size≤b)/\b≠X.env.locals/\(∀x c,X.env.cells.lookup x=some c->c≠b)/\∀p∈X.pn++pins,p.1≠b):
  Inv X pins σ H' { s with heap:=h',gens:=g',drawn:=d',toks:=t' }:=by
 obtain⟨m,⟨o,es,ep,ho,r⟩,_⟩:=id I.loc;obtain⟨sl,hL⟩:=u.any ho I.free fun z=>(vg _ z).2.1 rfl;exact I.step (ch:=ch) vg (fun b o hL hb hc e n=>u.keep b o e n (fun z=>(aa.mp (I.tP b z)).elim hL hb) hc) (fun b o _ _ hc e n=>u.any e n hc) (fun b o hc e n=>u.free b o e n hc) (fun b o hc e=>u.there b o e hc) u.iB u.kx u.nO (fun m' hm=>by
  obtain⟨o',es',ep',ho',r'⟩:=hm;rw[ho] at ho';cases ho';exact⟨_,es',ep',hL,r'⟩) bR hg
theorem Inv.turned{t':Nat}{it:ζ}(I:Inv X pins σ H s)(k:∀b o,b≠it->s.heap.get? b=some o->h'.get? b=some o)(hn:H it=none)(hL:it≠X.env.locals)
  (h1:it∈X.ex∨X.s₀.heap.objs.size≤it) (h2:∀x c,X.env.cells.lookup x=some c->c≠it) (h3:∀p∈X.pn++pins,p.1≠it):Inv X pins σ H { s with heap:=h',toks:=t' }:=by
 have nit:∀b u,H b=some u->b≠it:=fun b u e z=>by rw[z,hn] at e;cases e
 refine I.step (g':=s.gens) (d':=s.drawn) (ch:=[it]) (fun b hb=>?_) (fun b o _ _ hc e _=>k b o (fun z=>hc (by simp[z])) e) (fun b o _ _ hc e _=>⟨o.slots,k b o (fun z=>hc (by simp[z])) e⟩) (fun _ _ _ _ n=>n)
  (fun b o hc e=>⟨o,k b o (fun z=>hc (by simp[z])) e⟩) (fun _ _ e=>e) (fun _ _ _ e=>e) (fun b ps e=>⟨#[],by rw[e];simp⟩) (fun m hm=>?_) (fun b u e=>?_) I.bare
 ·have e:b=it:=by simpa using hb
  subst e;exact⟨h1,hL,h2,h3⟩
 ·obtain⟨o,es,ep,ho,r⟩:=hm;exact⟨o,es,ep,k _ o (de hL) ho,r⟩
 ·refine (I.bR b u e).mK (fun c v hc q=>k c v ?_ q) (fun _ q=>q) fun _ _ q=>q;rcases hc with z|z
  ·rw[z];exact nit b u e
  ·exact nit c _ z
theorem Inv.tok(I:Inv X pins σ H s)(t:Nat):Inv X pins σ H { s with toks:=t }:=I.un (h':=s.heap) (t':=t) Un.refl I.bR
theorem Inv.kept{t':Nat}(I:Inv X pins σ H s)(k:∀b u,s.heap.get? b=some u->h'.get? b=some u):Inv X pins σ H { s with heap:=h',toks:=t' }:=I.un (Un.kept k) (I.bR.kept k)
theorem Inv.laid{a:ζ}{o:HO}{t':Nat}(I:Inv X pins σ H s)(k:∀b u,s.heap.get? b=some u->h'.get? b=some u)(hp:s.heap.objs.size≤a)(new:cH X.prog X.w (upd H a o) h' a o):
  Inv X pins σ (upd H a o) { s with heap:=h',toks:=t' }:=I.un (Un.laid k hp (I.bR.fresh hp)) (I.bR.laid k hp new)
theorem Inv.write{x e:ζ}{o:HO}{t':Nat}(I:Inv X pins σ H s)(mu:Cv (H x))(he:e=x∨H e=some (.own x))(k:∀b u,b≠e->s.heap.get? b=some u->h'.get? b=some u)(heo:∃u,h'.get? e=some u)
  (new:cH X.prog X.w (upd H x o) h' x o):Inv X pins σ (upd H x o) { s with heap:=h',toks:=t' }:=I.un (Un.write mu he k heo) (I.bR.write mu he k heo new)
theorem Inv.zy{pins':List (ζ×aK)}(I:Inv X pins σ H s)(h:∀p∈pins',s.heap.get? p.1=some p.2/\H p.1=none/\p.1≠X.env.locals/\p.1∉X.fs/\∀v,p.2.data≠.cell v):Inv X pins' σ H s:=
 ⟨I.ok,I.os,I.bare,I.base,I.loc,I.cell,I.free,I.j0,fun p hp=>(cI.mp hp).elim (fun z=>I.pin p (eG _ z)) (h p),I.bR,I.len⟩
theorem Kw{N:List ξ}(hN:N.Nodup){i j:Nat}{x:ξ}(a:N[i]?=some x)(b:N[j]?=some x):i=j:=by
 obtain⟨h1,e1⟩:=aM.mp a;obtain⟨h2,e2⟩:=aM.mp b;exact (List.getElem_inj hN).mp (e1.trans e2.symm)
theorem D9{M:Model}{A:aL}{E:ε->θ->Prop}{i:Nat}{x:ξ}{v:V}{u:ε}{Q:Unit->θ->Prop}(I:Inv X pins σ H s)(hN:X.N.Nodup)(hi:X.N[i]?=some x)(hx:Loc X.env.scope x)(r:RelV v u)
  (h:∀s',Inv X pins (σ.set i (some v)) H s'->(∃a,cL a s.heap s'.heap/\(a=X.env.locals∨X.env.cells.lookup x=some a))->Q () s') (hf:X.fn x=true∨X.env.scope.names.lookup x=some .local:=by first|exact .inl rfl|exact .inr rfl|assumption):ρ M A (storeName X.env x u) Q E s:=by
 obtain⟨m,hn,hl⟩:=id I.loc;have hcls:(X.env.scope.kind==.class||(X.env.scope.kind==.module&&X.env.locals != X.env.globals))=false:=by rw[I.ok.kind];rfl
 have hiσ:i<σ.length:=by rw[I.len];exact (aM.mp hi).1
 have xC:=I.xC;have tracked:∀{a:ζ} {h':Φ},(∃o,s.heap.get? a=some o/\H a=none)->cL a s.heap h'->fD X.prog X.w H h':=fun {a h'} ha hs b ob e=>by
  obtain⟨_,_,hfree⟩:=ha;refine (I.bR b ob e).mK (fun c w' hc q=>(hs.2 c ?_).trans q) (fun _ q=>q) fun _ _ q=>q;rintro rfl;rcases hc with rfl|hc
  ·rw[hfree] at e;cases e
  ·rw[hfree] at hc;cases hc
 rcases hx with hk|hk
 ·refine wpAny_storeName_local hk hn (fun h' hn' hs=>?_) hcls;obtain⟨oL,_,_,hoL,_⟩:=id hn;refine h _ ⟨I.ok,I.os,I.bare,⟨fun b o e n hb hx=>?_,fun b o e n hb hx=>?_,I.base.free,fun b o e hx=>?_,I.base.iB,I.base.kx,I.base.nO⟩,⟨_,hn',fun j y v' e1 e2 e3=>?_⟩,fun y c e=>?_,I.free,I.j0,fun p hp=>?_,tracked ⟨oL,hoL,I.free⟩ hs,by simpa using I.len⟩ ⟨_,hs,.inl rfl⟩
  ·exact (hs.2 b (bh (bE (Θ e) I.ok.above))).trans (I.base.keep b o e n hb hx)
  ·obtain⟨sl,e1⟩:=I.base.slot b o e n hb hx;exact⟨sl,(hs.2 b (bh (bE (Θ e) I.ok.above))).trans e1⟩
  ·obtain⟨o',e1⟩:=I.base.there b o e hx;exact⟨o',(hs.2 b (bh (bE (Θ e) I.ok.above))).trans e1⟩
  ·by_cases hj:j=i
   ·subst hj;rw[hi] at e1;cases e1;rw[kQ hiσ] at e2;cases e2;exact⟨u,r,.inl ⟨hk,by simp⟩⟩
   ·rw[mq (de hj)] at e2;obtain⟨u',r',q⟩:=hl j y v' e1 e2 e3;refine⟨u',r',?_⟩;rcases q with⟨k,e⟩|⟨k,c,e,z⟩
    ·refine .inl ⟨k,?_⟩;have:y≠x:=fun e=>hj (Kw hN e1 (e▸hi));simp[this,e]
    ·exact .inr ⟨k,c,e,z.sameBut hs (xC y c e)⟩
  ·obtain⟨w',z⟩:=I.cell y c e;exact⟨w',z.sameBut hs (xC y c e)⟩
  ·obtain⟨e,n,ne,nf,d⟩:=I.pin p hp;exact⟨(hs.2 p.1 ne).trans e,n,ne,nf,d⟩
 ·have hfn:X.fn x=true:=by
   rcases hf with z|z
   ·exact z
   ·rw[z] at hk;cases hk
  obtain⟨c,hc⟩:=I.ok.has x (.inl hk);obtain⟨w',z⟩:=I.cell x c hc;refine wpAny_storeName_cell I.ok.kind hk hc z (fun h' hc' hs=>?_);obtain⟨oc,hoc,hocd⟩:=id z;refine h { s with heap:=h' } ⟨I.ok,I.os,I.bare,⟨fun b o e n hb hx=>?_,fun b o e n hb hx=>?_,I.base.free,fun b o e hx=>?_,I.base.iB,I.base.kx,I.base.nO⟩,⟨m,hn.sameBut hs (de (xC x c hc)),fun j y v' e1 e2 e3=>?_⟩,fun y c' e=>?_,I.free,I.j0,fun p hp=>?_,tracked ⟨oc,hoc,I.j0 x c hc⟩ hs,by simpa using I.len⟩ ⟨c,hs,.inr hc⟩
  ·exact (hs.2 b (bh (bE (Θ e) (I.ok.zE x c hfn hc)))).trans (I.base.keep b o e n hb hx)
  ·obtain⟨sl,e1⟩:=I.base.slot b o e n hb hx;exact⟨sl,(hs.2 b (bh (bE (Θ e) (I.ok.zE x c hfn hc)))).trans e1⟩
  ·obtain⟨o',e1⟩:=I.base.there b o e hx;exact⟨o',(hs.2 b (bh (bE (Θ e) (I.ok.zE x c hfn hc)))).trans e1⟩
  ·by_cases hj:j=i
   ·subst hj;rw[hi] at e1;cases e1;rw[kQ hiσ] at e2;cases e2;exact⟨u,r,.inr ⟨.inl hk,c,hc,hc'⟩⟩
   ·rw[mq (de hj)] at e2;obtain⟨u',r',q⟩:=hl j y v' e1 e2 e3;refine⟨u',r',?_⟩;rcases q with q|⟨k,c',e,z'⟩
    ·exact .inl q
    ·refine .inr ⟨k,c',e,z'.sameBut hs ?_⟩;rintro rfl;exact hj (Kw hN e1 (I.ok.inj _ _ _ e hc▸hi))
  ·by_cases hcc:c'=c
   ·subst hcc;exact⟨_,hc'⟩
   ·obtain⟨w2,z2⟩:=I.cell y c' e;exact⟨w2,z2.sameBut hs hcc⟩
  ·obtain⟨e,n,ne,nf,d⟩:=I.pin p hp;refine⟨(hs.2 p.1 ?_).trans e,n,ne,nf,d⟩;intro q;rw[q,hoc] at e;have q':oc=p.2:=aJ e;exact d w' (by rw[←q'];exact hocd)
theorem AN{M:Model}{A:aL}{E:ε->θ->Prop}{i:Nat}{x:ξ}{v:V}{u:ε}{Q:Unit->θ->Prop}(I:Inv X pins σ H s)(hN:X.N.Nodup)(hi:X.N[i]?=some x)(hx:Loc X.env.scope x)(r:RelV v u)
  (h:∀s',Inv X pins (σ.set i (some v)) H s'->Q () s') (hf:X.fn x=true∨X.env.scope.names.lookup x=some .local:=by first|exact .inl rfl|exact .inr rfl|assumption):ρ M A (storeName X.env x u) Q E s:=
 D9 I hN hi hx r (fun s' I' _=>h s' I') hf
theorem Inv.BP{s':θ}{ch:List ζ}(I:Inv X pins σ H s)(ho:s'.os=s.os)(u:Un (fQ X.stack) ch H H' s.heap s'.heap)(bR:fD X.prog X.w H' s'.heap)(hg:kc s'.gens)
  (vg:∀b∈ch,(b∈X.ex∨X.s₀.heap.objs.size≤b)/\b≠X.env.locals/\(∀x c,X.env.cells.lookup x=some c->c≠b)/\∀p∈X.pn++pins,p.1≠b):Inv X pins σ H' s':=by
 obtain⟨h',g',d',t',o'⟩:=s';have e:o'=s.os:=ho;subst e;exact I.call (g':=g') (t':=t') (d':=d') u bR hg vg
end
abbrev XK:=ε->Option ζ->Hp->Prop
abbrev St:=List (Option V)
abbrev VK:=V->Hp->Prop
abbrev TE:=St->Hp->VK->Prop
abbrev TT:=St->Hp->(Bool->Hp->Prop)->Prop
abbrev TA:=St->Hp->(List V->Hp->Prop)->Prop
structure Ends where
 nx:St->Hp->Prop
 rt:VK
 bk:St->Hp->Prop:=fun _ _=>False
 ct:St->Hp->Prop:=fun _ _=>False
abbrev TS:=Ends->St->Hp->Prop
def EP(X:Cx)(pins:List (ζ×aK))(σ:St)(Q:VK)(u:ε)(s':θ):Prop:=∃v H',Inv X pins σ H' s'/\RelV v u/\Q v H'
def TP(X:Cx)(pins:List (ζ×aK))(σ:St)(Q:Bool->Hp->Prop)(b:Bool)(s':θ):Prop:=∃H',Inv X pins σ H' s'/\Q b H'
def AP(X:Cx)(pins:List (ζ×aK))(σ:St)(Q:List V->Hp->Prop)(us:List ε)(s':θ):Prop:=∃vs H',Inv X pins σ H' s'/\bj vs us/\Q vs H'
def SP(X:Cx)(pins:List (ζ×aK))(D:Ends)(f:Flow)(s':θ):Prop:=
 match f with
 |.next=>∃σ' H',Inv X pins σ' H' s'/\D.nx σ' H'
 |.brk=>∃σ' H',Inv X pins σ' H' s'/\D.bk σ' H'
 |.cont=>∃σ' H',Inv X pins σ' H' s'/\D.ct σ' H'
 |.ret u=>∃v σ' H',Inv X pins σ' H' s'/\RelV v u/\D.rt v H'
def PE(X:Cx)(e:υ)(t:TE):Prop:=
 ∀(pins:List (ζ×aK)) (s:θ) (σ:St) (H:Hp) (Q:VK),Inv X pins σ H s->t σ H Q->ρ (model X.prog X.w) X.A (eval e X.env) (EP X pins σ Q) X.xe s
def PT(X:Cx)(e:υ)(t:TT):Prop:=
 ∀(pins:List (ζ×aK)) (s:θ) (σ:St) (H:Hp) (Q:Bool->Hp->Prop),Inv X pins σ H s->t σ H Q->ρ (model X.prog X.w) X.A (isTrue e X.env (eval e X.env)) (TP X pins σ Q) X.xe s
def PW(X:Cx)(e:υ)(t:TT):Prop:=
 ∀(whole:kL ε) (pins:List (ζ×aK)) (s:θ) (σ:St) (H:Hp) (Q:Bool->Hp->Prop),Inv X pins σ H s->t σ H Q->ρ (model X.prog X.w) X.A (isTrue e X.env whole) (TP X pins σ Q) X.xe s
theorem PW.pt{X:Cx}{e:υ}{t:TT}(h:PW X e t):PT X e t:=h _
def PA(X:Cx)(es:List υ)(t:TA):Prop:=
 ∀(pos:aQ) (pins:List (ζ×aK)) (s:θ) (σ:St) (H:Hp) (Q:List V->Hp->Prop),Inv X pins σ H s->t σ H Q->ρ (model X.prog X.w) X.A (spliced (backTo pos (bW es X.env))) (AP X pins σ Q) X.xe s
def PS(X:Cx)(st:aR)(t:TS):Prop:=
 ∀(pins:List (ζ×aK)) (s:θ) (σ:St) (H:Hp) (D:Ends),Inv X pins σ H s->t D σ H->ρ (model X.prog X.w) X.A (exec st X.env) (SP X pins D) X.xe s
def nB(X:Cx)(st:List aR)(t:TS):Prop:=
 ∀(pins:List (ζ×aK)) (s:θ) (σ:St) (H:Hp) (D:Ends),Inv X pins σ H s->t D σ H->ρ (model X.prog X.w) X.A (execs st X.env) (SP X pins D) X.xe s
theorem bN{α:Type}{t:kL α}{Q Q':α->θ->Prop}{M:Model}{A:aL}{E:ε->θ->Prop}{s:θ}(h:ρ M A t Q E s)(hQ:∀a s,Q a s->Q' a s):ρ M A t Q' E s:=cO h hQ fun _ _ x=>x
end L2
namespace L2
open PySem PySem.Spec PyProof.Rows
section
variable {X:Cx}
theorem bin{a b:υ}{ta tb:TE}(ha:PE X a ta)(hb:PE X b tb){pins:List (ζ×aK)}{s:θ}{σ:St}{H:Hp}{R:V->V->Hp->Prop}(I:Inv X pins σ H s)(h:ta σ H fun x H1=>tb σ H1 fun y H2=>R x y H2)
  {α:Type} {Q:α->θ->Prop} {f:ε->ε->kL α}
  (hf:∀v u s2 x y H2,Inv X pins σ H2 s2->RelV x v->RelV y u->R x y H2->ρ (model X.prog X.w) X.A (f v u) Q X.xe s2):
  ρ (model X.prog X.w) X.A (eval a X.env) (fun v s₁=>ρ (model X.prog X.w) X.A (eval b X.env) (fun u s₂=>ρ (model X.prog X.w) X.A (f v u) Q X.xe s₂) X.xe s₁) X.xe s:=by
 refine bN (ha pins s σ H _ I h) fun v s1 ⟨x,H1,I1,r1,q1⟩=>?_;refine bN (hb pins s1 σ H1 _ I1 q1) fun u s2 ⟨y,H2,I2,r2,q2⟩=>?_;exact hf v u s2 x y H2 I2 r1 r2 q2
def zM(i:Nat):TE:=fun σ H Q=>∃v,σ[i]?=some (some v)/\Q v H
def tC(v:V):TE:=fun _ H Q=>Q v H
theorem Wk{i:Nat}{x:ξ}{pos:aQ}(hN:X.N[i]?=some x)(hv:Lk X.env.scope x)(hd:(x==("__debug__":ξ))=false:=by decide)(iL:(x==("__classdict__":ξ))=false:=by decide):PE X (.Name x pos) (zM i):=by
 intro pins s σ H Q I h;obtain⟨v,e,h⟩:=h;obtain⟨m,hn,hl⟩:=I.loc;obtain⟨u,r,l⟩:=hl i x v hN e hv;have fin:EP X pins σ Q u s:=⟨v,H,I,r,h⟩;rcases l with⟨hk,hm⟩|⟨hk,c,hc,hcell⟩
 ·exact oN (mh I.ok.kind hk hn hm fin) hd
 ·rcases hk with hk|hk
  ·exact oN (wpAny_loadName_cell I.ok.kind hk hc hcell fin) hd
  ·exact oN (wpAny_loadName_free I.ok.kind hk hc hcell fin iL) hd
theorem Wj{i j pos}:PE X (.Constant (.int i) j pos) (tC (.int i)):=fun _ _ _ H _ I h=>wpAny_Constant_int ⟨.int i,H,I.tok _,⟨_,rfl⟩,h⟩
theorem Wi{b j pos}:PE X (.Constant (.bool b) j pos) (tC (.bl b)):=fun _ _ _ H _ I h=>Constant_bool ⟨.bl b,H,I,rfl,h⟩
theorem Wh{j pos}:PE X (.Constant .none j pos) (tC .aC):=fun _ _ _ H _ I h=>Constant_none ⟨.aC,H,I,rfl,h⟩
theorem Wg{x j pos}:PE X (.Constant (.str x) j pos) (tC (.str x)):=fun _ _ _ H _ I h=>Calls.Constant_str ⟨.str x,H,I.tok _,⟨_,rfl⟩,h⟩
def Gl(X:Cx)(x:ξ):Prop:=X.env.kindOf x=some .globalImplicit
theorem vR{E:ε->θ->Prop}{pins:List (ζ×aK)}{s:θ}{σ:St}{H:Hp}{x:ξ}{u:ε}{pos:aQ}{Q:ε->θ->Prop}(I:Inv X pins σ H s)(hg:Gl X x)(hm:X.mg x=some u)(h:Q u s)
  (hd:(x==("__debug__":ξ))=false:=by decide):ρ (model X.prog X.w) X.A (eval (.Name x pos) X.env) Q E s:=
 nZ I.ok.kind hg (Calls.loadGlobal_global (by rw[I.ok.glob];exact I.mod.glob.keeps I.bk) hm h) hd
theorem yF{E:ε->θ->Prop}{pins:List (ζ×aK)}{s:θ}{σ:St}{H:Hp}{x:ξ}{u:ε}{pos:aQ}{Q:ε->θ->Prop}(I:Inv X pins σ H s)(hg:Gl X x)(hm:X.mg x=none)(hv:gK x=some u)(h:Q u s)
  (hn:x≠"__name__":=by decide) (hd:(x==("__debug__":ξ))=false:=by decide):ρ (model X.prog X.w) X.A (eval (.Name x pos) X.env) Q E s:=by
 obtain⟨mb,h1,h2⟩:=I.mod.blt;exact nZ I.ok.kind hg (Calls.loadGlobal_builtin (by rw[I.ok.glob];exact I.mod.glob.keeps I.bk) hm (by rw[I.ok.blt];exact h1.keeps I.bk) ((h2 x hn).trans hv) h) hd
theorem Kv{x:ξ}{v:V}{u:ε}{pos:aQ}(hg:Gl X x)(hm:X.mg x=some u)(r:RelV v u)(hd:(x==("__debug__":ξ))=false:=by decide):PE X (.Name x pos) (tC v):=
 fun _ _ _ H _ I h=>vR I hg hm ⟨v,H,I,r,h⟩ hd
theorem Ku{x:ξ}{v:V}{u:ε}{pos:aQ}(hg:Gl X x)(hm:X.mg x=none)(hv:gK x=some u)(r:RelV v u)(hn:x≠"__name__":=by decide)(hd:(x==("__debug__":ξ))=false:=by decide):PE X (.Name x pos) (tC v):=
 fun _ _ _ H _ I h=>yF I hg hm hv ⟨v,H,I,r,h⟩ hn hd
variable {a b:υ} {ta tb:TE} {pos:aQ}
variable {tA tB':TT} {rest:List υ}
def MV(t u:TT):TT:=fun σ H Q=>t σ H fun c H1=>if c=true then u σ H1 Q else Q false H1
def YJ(t u:TT):TT:=fun σ H Q=>t σ H fun c H1=>if c=true then Q true H1 else u σ H1 Q
def MR(t:TT):TT:=fun σ H Q=>t σ H fun c H1=>Q (!c) H1
theorem pw_and1(ha:PT X a tA):PW X (.BoolOp .And [a] pos) tA:=by
 intro wh pins s σ H Q I h;refine isTrue_and (bN (ha pins s σ H Q I h) fun c s1 e=>?_);cases c with
 |true=>exact isTrue_and_nil e
 |false=>exact e
theorem pw_or1(ha:PT X a tA):PW X (.BoolOp .Or [a] pos) tA:=by
 intro wh pins s σ H Q I h;refine isTrue_or (bN (ha pins s σ H Q I h) fun c s1 e=>?_);cases c with
 |false=>exact isTrue_or_nil e
 |true=>exact e
theorem pw_and(ha:PT X a tA)(hb:PW X (.BoolOp .And (b::rest) pos) tB'):PW X (.BoolOp .And (a::b::rest) pos) (MV tA tB'):=by
 intro wh pins s σ H Q I h;refine isTrue_and (bN (ha pins s σ H _ I h) fun c s1 ⟨H1,I1,q1⟩=>?_);cases c with
 |true=>exact hb wh pins s1 σ H1 Q I1 q1
 |false=>exact⟨H1,I1,q1⟩
theorem pw_or(ha:PT X a tA)(hb:PW X (.BoolOp .Or (b::rest) pos) tB'):PW X (.BoolOp .Or (a::b::rest) pos) (YJ tA tB'):=by
 intro wh pins s σ H Q I h;refine isTrue_or (bN (ha pins s σ H _ I h) fun c s1 ⟨H1,I1,q1⟩=>?_);cases c with
 |true=>exact⟨H1,I1,q1⟩
 |false=>exact hb wh pins s1 σ H1 Q I1 q1
theorem Wf(ha:PT X a tA):PT X (.UnaryOp .Not a pos) (MR tA):=by
 intro pins s σ H Q I h;exact isTrue_not (ha pins s σ H (fun c H1=>Q (!c) H1) I h)
def LN(ta tb:TE):TE:=fun σ H Q=>ta σ H fun x H1=>∃c,x=.bl c/\if c=true then tb σ H1 Q else Q (.bl false) H1
def LJ(ta:TE):TE:=fun σ H Q=>ta σ H fun x H1=>∃c,x=.bl c/\Q (.bl (!c)) H1
theorem We{op}{t:TE}(h:PE X a t):PE X (.BoolOp op [a] pos) t:=fun pins s σ H Q I hw=>BoolOp_one (h pins s σ H Q I hw)
theorem Wd(ha:PE X a ta)(hb:PE X (.BoolOp .And (b::rest) pos) tb):PE X (.BoolOp .And (a::b::rest) pos) (LN ta tb):=by
 intro pins s σ H Q I h;refine BoolOp_and (bN (ha pins s σ H _ I h) fun v s1 ⟨x,H1,I1,r1,q1⟩=>?_);obtain⟨c,rfl,q1⟩:=q1;cases r1;refine iu ?_;cases c with
 |true=>exact hb pins s1 σ H1 Q I1 q1
 |false=>exact⟨.bl false,H1,I1,rfl,q1⟩
theorem Wc(ha:PE X a ta):PE X (.UnaryOp .Not a pos) (LJ ta):=by
 intro pins s σ H Q I h;refine UnaryOp_ (bN (ha pins s σ H _ I h) fun v s1 ⟨x,H1,I1,r1,q1⟩=>?_);obtain⟨c,rfl,q1⟩:=q1;cases r1;exact not_of (iu ⟨.bl (!c),H1,I1,rfl,q1⟩)
end
end L2
namespace L2
open PySem PySem.Spec PyProof.Rows
def eU(K:η)(H:Hp)(a:ζ)(xs:List V):Prop:=
 Rd H a (.lst xs) ∨
  ∃(o:aK) (its:Array ε) (n:Nat),K.lookup a=some o/\o.cls=.type "list"/\o.dict=none/\o.data=.seq its n/\its.size≤au/\bj xs its.toList
def cG(K:η)(H:Hp)(a:ζ)(xs:List V):Prop:=
 Rd H a (.tup xs) ∨
  ∃(o:aK) (its:Array ε) (n:Nat),K.lookup a=some o/\o.cls=.type "tuple"/\o.dict=none/\o.data=.seq its n/\its.size≤au/\bj xs its.toList
def YF:ε->Option V
 |.none=>some .aC
 |.bool b=>some (.bl b)
 |.int i _=>some (.int i)
 |.str x _=>some (.str x)
 |.bytes b _=>some (.Ct b)
 |.float b _=>some (.Lg b)
 |.ref a=>some (.ref a)
 |.type n=>some (.ty n)
 |_=>none
theorem RelV.abs{x:V}{u:ε}(r:RelV x u):YF u=some x:=by
 cases x with
 |aC=>cases r;rfl
 |bl _=>cases r;rfl
 |int _=>obtain⟨t,rfl⟩:=r;rfl
 |str _=>obtain⟨t,rfl⟩:=r;rfl
 |Ct _=>obtain⟨t,rfl⟩:=r;rfl
 |Lg _=>obtain⟨t,rfl⟩:=r;rfl
 |ref _=>cases r;rfl
 |ty _=>cases r;rfl
theorem RelV.inj{x y:V}{u:ε}(r:RelV x u)(q:RelV y u):x=y:=aJ (r.abs.symm.trans q.abs)
theorem bj.inj:∀{xs ys:List V} {us:List ε},bj xs us->bj ys us->xs=ys
 |_,_,_,.nil,.nil=>rfl
 |_,_,_,.cons r t,.cons r' t'=>by rw[r.inj r',bj.inj t t']
section
variable {X:Cx} {pins:List (ζ×aK)} {σ:St} {H:Hp} {s:θ} {a:ζ} {xs ys:List V}
theorem eU.of{K:η}(h:H a=some (.lst xs)):eU K H a xs:=.inl (.inl h)
theorem cG.of{K:η}(h:H a=some (.tup xs)):cG K H a xs:=.inl (.inl h)
theorem Inv.list(I:Inv X pins σ H s)(h:eU X.K H a xs):∃its:List ε,bj xs its/\PlainL s.heap a its.toArray/\xs.length≤au:=by
 rcases h with h|⟨o,its,n,hk,hc,hd,hs,hz,r⟩
 ·obtain⟨z,its,n,r,e⟩:=h.ok I.bR;exact⟨its,r,⟨_,n,e,rfl,rfl,rfl⟩,z⟩
 ·refine⟨its.toList,r,⟨o,n,I.ir a o hk,hc,hd,by simpa using hs⟩,?_⟩;have e:=r.length;simp only[fH] at e;lia
theorem Inv.tuple(I:Inv X pins σ H s)(h:cG X.K H a xs):∃its:List ε,bj xs its/\oQ s.heap a its.toArray/\xs.length≤au:=by
 rcases h with h|⟨o,its,n,hk,hc,_,hs,hz,r⟩
 ·obtain⟨z,its,r,p⟩:=h.ok I.bR;exact⟨its,r,p.tup,z⟩
 ·refine⟨its.toList,r,⟨o,I.ir a o hk,hc,n,by simpa using hs⟩,?_⟩;have e:=r.length;simp only[fH] at e;lia
theorem Inv.yT(I:Inv X pins σ H s)(h:eU X.K H a xs)(h':eU X.K H a ys):xs=ys:=by
 obtain⟨its,r,⟨o,n,e,_,_,d⟩,_⟩:=I.list h;obtain⟨its',r',⟨o',n',e',_,_,d'⟩,_⟩:=I.list h';rw[e] at e';cases e';rw[d] at d';injection d' with d1 _
 have:its=its':=by simpa using congrArg p8 d1
 subst this;exact r.inj r'
theorem Inv.xy(I:Inv X pins σ H s)(h:cG X.K H a xs)(h':cG X.K H a ys):xs=ys:=by
 obtain⟨its,r,⟨o,e,_,n,d⟩,_⟩:=I.tuple h;obtain⟨its',r',⟨o',e',_,n',d'⟩,_⟩:=I.tuple h';rw[e] at e';cases e';rw[d] at d';injection d' with d1 _
 have:its=its':=by simpa using congrArg p8 d1
 subst this;exact r.inj r'
end
abbrev Cx.oZ(X:Cx)(E:ε->θ->Prop):Cx:={ X with xe:=E }
abbrev Cx.mH(X:Cx):Cx:=X.oZ fun _ _=>False
theorem Cx.Ok.oZ{X:Cx}(ok:X.Ok)(E:ε->θ->Prop):(X.oZ E).Ok:=
 ⟨ok.mod,ok.kind,ok.glob,ok.blt,ok.above,ok.inj,ok.has,ok.zE,ok.hd,ok.frames,ok.B7,ok.Cq,ok.bs,ok.ug,ok.vS,ok.xq,ok.lW,ok.xB⟩
theorem Cx.Ok.kD{X:Cx}{E:ε->θ->Prop}(ok:(X.oZ E).Ok):X.Ok:=
 ⟨ok.mod,ok.kind,ok.glob,ok.blt,ok.above,ok.inj,ok.has,ok.zE,ok.hd,ok.frames,ok.B7,ok.Cq,ok.bs,ok.ug,ok.vS,ok.xq,ok.lW,ok.xB⟩
section
variable {X:Cx} {pins:List (ζ×aK)} {σ:St} {H:Hp} {s:θ} {E:ε->θ->Prop}
theorem Inv.oZ(I:Inv X pins σ H s)(E:ε->θ->Prop):Inv (X.oZ E) pins σ H s:=⟨I.ok.oZ E,I.os,I.bare,I.base,I.loc,I.cell,I.free,I.j0,I.pin,I.bR,I.len⟩
theorem Inv.kD(I:Inv (X.oZ E) pins σ H s):Inv X pins σ H s:=⟨I.ok.kD,I.os,I.bare,I.base,I.loc,I.cell,I.free,I.j0,I.pin,I.bR,I.len⟩
theorem SP.kD{D:Ends}{f:Flow}{s':θ}(h:SP (X.oZ E) pins D f s'):SP X pins D f s':=by
 cases f with
 |next=>obtain⟨σ',H',I,q⟩:=h;exact⟨σ',H',I.kD,q⟩
 |brk=>obtain⟨σ',H',I,q⟩:=h;exact⟨σ',H',I.kD,q⟩
 |cont=>obtain⟨σ',H',I,q⟩:=h;exact⟨σ',H',I.kD,q⟩
 |ret u=>obtain⟨v,σ',H',I,r,q⟩:=h;exact⟨v,σ',H',I.kD,r,q⟩
theorem nB.mH{st:List aR}{t:TS}(h:nB X.mH st t):nB X st t:=fun pins s σ H D I hw=>
 cO (h pins s σ H D (I.oZ _) hw) (fun _ _ q=>q.kD) fun _ _ z=>cC z
end
section
variable {X:Cx} {st:aR} {rest:List aR} {t u:TS} {e:υ} {te:TE} {pos:aQ}
def LK:TS:=fun D σ H=>D.nx σ H
def MP(t u:TS):TS:=fun D σ H=>t { D with nx:=u D } σ H
theorem VU:nB X [] LK:=fun _ _ σ H _ I h=>gj ⟨σ,H,I,h⟩
theorem VT(h1:PS X st t)(h2:nB X rest u):nB X (st::rest) (MP t u):=by
 intro pins s σ H D I h;refine iS (bN (h1 pins s σ H { D with nx:=u D } I h) fun f s1 q=>?_);cases f with
 |next=>
  obtain⟨σ',H',I',q⟩:=q;exact h2 pins s1 σ' H' D I' q
 |ret v=>exact q
 |brk=>exact q
 |cont=>exact q
theorem VS(h1:PS X st t):nB X [st] t:=by
 intro pins s σ H D I h;refine iS (bN (h1 pins s σ H D I h) fun f s1 q=>?_);cases f with
 |next=>exact gj q
 |ret v=>exact q
 |brk=>exact q
 |cont=>exact q
theorem Inv.quiet{pins:List (ζ×aK)}{σ:St}{H:Hp}{s:θ}(I:Inv X pins σ H s):interactive X.env=false:=by simp[interactive,I.ok.kind]
def LL(te:TE):TS:=fun D σ H=>te σ H fun _ H1=>D.nx σ H1
theorem VR(he:PE X e te)(hs:swapsWith e none pos.line X.env=pure false:=by rfl):PS X (.Expr e pos) (LL te):=by
 intro pins s σ H D I h;exact wpAny_Expr_any (bN (he pins s σ H _ I h) fun v s1 ⟨x,H1,I1,r1,q1⟩=>⟨σ,H1,I1,q1⟩) I.quiet hs
def MQ(te:TE):TS:=fun D σ H=>te σ H D.rt
theorem VQ(he:PE X e te):PS X (.Return (some e) pos) (MQ te):=by
 intro pins s σ H D I h;exact wpAny_Return_some (bN (he pins s σ H _ I h) fun v s1 ⟨x,H1,I1,r1,q1⟩=>⟨x,σ,H1,I1,r1,q1⟩)
def MT(c:TT)(t u:TS):TS:=fun D σ H=>c σ H fun b H1=>if b=true then t D σ H1 else u D σ H1
theorem VP{c:υ}{a b:List aR}{tc:TT}(hc:PT X c tc)(ha:nB X a t)(hb:nB X b u):PS X (.If c a b pos) (MT tc t u):=by
 intro pins s σ H D I h;refine wpAny_If (bN (hc pins s σ H _ I h) fun d s1 ⟨H1,I1,q1⟩=>?_);cases d with
 |true=>exact ha pins s1 σ H1 D I1 q1
 |false=>exact hb pins s1 σ H1 D I1 q1
end
abbrev TG:=V->St->Hp->(St->Hp->Prop)->Prop
abbrev wz:=List V->St->Hp->(St->Hp->Prop)->Prop
def PG(X:Cx)(target:υ)(t:TG):Prop:=
 ∀(pins:List (ζ×aK)) (s:θ) (σ:St) (H:Hp) (v:V) (u:ε) (Q:St->Hp->Prop),Inv X pins σ H s->RelV v u->t v σ H Q ->
  ρ (model X.prog X.w) X.A (assign target X.env u) (fun _ s'=>∃σ' H',Inv X pins σ' H' s'/\Q σ' H') X.xe s
def zj(X:Cx)(ts:List υ)(t:wz):Prop:=
 ∀(pins:List (ζ×aK)) (s:θ) (σ:St) (H:Hp) (vs:List V) (us:List ε) (Q:St->Hp->Prop),Inv X pins σ H s->bj vs us->t vs σ H Q ->
  ρ (model X.prog X.w) X.A (assignInOrder ((assignEach ts X.env).map (·.2)) us) (fun _ s'=>∃σ' H',Inv X pins σ' H' s'/\Q σ' H') X.xe s
abbrev zh:=V->V->V->Hp->(Hp->Prop)->Prop
def EV(X:Cx)(t:zh):Prop:=
 ∀(pins:List (ζ×aK)) (s:θ) (σ:St) (H:Hp) (o i v:V) (ov iv u:ε) (Q:Hp->Prop),Inv X pins σ H s->RelV o ov->RelV i iv->RelV v u->t o i v H Q ->
  ρ (model X.prog X.w) X.A (setItem ov iv u) (fun _ s'=>∃H',Inv X pins σ H' s'/\Q H') X.xe s
abbrev Fu:=V->V->Hp->VK->Prop
def MG(X:Cx)(op:sP)(t:Fu):Prop:=
 ∀(pins:List (ζ×aK)) (s:θ) (σ:St) (H:Hp) (x y:V) (v u:ε) (Q:VK),Inv X pins σ H s->RelV x v->RelV y u->t x y H Q ->
  ρ (model X.prog X.w) X.A (inplaceOp op v u) (EP X pins σ Q) X.xe s
section
variable {X:Cx} {pos:aQ}
def Bc(i:Nat):TG:=fun v σ H Q=>Q (σ.set i (some v)) H
theorem VO{i:Nat}{x:ξ}(hN:X.N.Nodup)(hi:X.N[i]?=some x)(hx:Loc X.env.scope x)(hf:X.fn x=true∨X.env.scope.names.lookup x=some .local:=by first|exact .inl rfl|exact .inr rfl|assumption):PG X (.Name x pos) (Bc i):=by
 intro pins s σ H v u Q I r h;exact wpAny_assign_Name (AN I hN hi hx r (fun s' I'=>⟨_,H,I',h⟩) hf)
def Yn:wz:=fun vs σ H Q=>vs=[]/\Q σ H
def Mf(t:TG)(u:wz):wz:=fun vs σ H Q=>∃v r,vs=v::r/\t v σ H fun σ' H'=>u r σ' H' Q
theorem VN:zj X [] Yn:=by
 intro pins s σ H vs us Q I r h;obtain⟨e,h⟩:=h;subst e;cases r;exact assignInOrder_nil ⟨σ,H,I,h⟩
theorem VM{e:υ}{es:List υ}{t:TG}{u:wz}(h1:PG X e t)(h2:zj X es u)
  (hs:(assignEach (e::es) X.env).map (·.2)=assign e X.env::(assignEach es X.env).map (·.2):=by rfl):zj X (e::es) (Mf t u):=by
 intro pins s σ H vs us Q I r h;obtain⟨v,vr,e1,h⟩:=h;subst e1;cases r with
 |cons r rr=>
  rw[hs];refine nC (bN (h1 pins s σ H _ _ _ I r h) fun _ s1 ⟨σ1,H1,I1,q1⟩=>?_);exact h2 pins s1 σ1 H1 _ _ Q I1 rr q1
def Yl(K:η)(n:Nat)(t:wz):TG:=fun v σ H Q=>∃a xs,v=.ref a/\cG K H a xs/\xs.length=n/\t xs σ H Q
theorem VL{es:List υ}{k:Nat}{t:wz}{n:Nat}(hc:X.calm=true)(h:zj X es t)
  (hn:(assignEach es X.env).length=n:=by rfl) (hst:(assignEach es X.env).findIdx? (·.1)=none:=by rfl):PG X (.Tuple es k pos) (Yl X.K n t):=by
 intro pins s σ H v u Q I r hw;obtain⟨a,xs,e1,hq,hl,hw⟩:=hw;subst e1;cases r;obtain⟨its,rv,ht,hz⟩:=I.tuple hq;refine assign_Tuple_tuple (I.ok.hd hc) ht (by simp[hn,←hl,rv.length]) hst fun h' hx=>?_;have I1:Inv X pins σ H { s with heap:=h' }:=I.kept (t':=s.toks) fun b o e=>hx b o (bh (Θ e)) e
 exact h pins _ σ H xs _ Q I1 (by simpa using rv) hw
def Ym(to ti:TE)(t:zh):TG:=fun v σ H Q=>to σ H fun o H1=>ti σ H1 fun i H2=>t o i v H2 fun H3=>Q σ H3
theorem VJ{o i:υ}{to ti:TE}{t:zh}(ho:PE X o to)(hi:PE X i ti)(hs:EV X t)
  (ha:∀v,assign (.Subscript o i pos) X.env v=(do
   let ov ←holding [v] (eval o X.env)
   let iv ←holding [v,ov] (eval i X.env)
   standAt pos
   holding [v,ov,iv] (setItem ov iv v)
   release [v,ov,iv] []):=by intro _;rfl):PG X (.Subscript o i pos) (Ym to ti t):=by
 intro pins s σ H v u Q I r h
 rw[ha]
 refine δ (bO (bN (ho pins s σ H _ I h) fun ov s1 ⟨x,H1,I1,r1,q1⟩=>?_))
 refine δ (bO (bN (hi pins s1 σ H1 _ I1 q1) fun iv s2 ⟨y,H2,I2,r2,q2⟩=>?_))
 refine δ (g7 (δ (bO (bN (hs pins s2 σ H2 x y v ov iv u _ I2 r1 r2 r q2) fun _ s3 ⟨H3,I3,q3⟩=>?_))))
 exact wpAny_release ⟨σ,H3,I3,q3⟩
def CA(te:TE)(g:TG):TS:=fun D σ H=>te σ H fun x H1=>g x σ H1 D.nx
theorem VI{tg e:υ}{te:TE}{g:TG}(he:PE X e te)(hg:PG X tg g)(hs:swapsWithSole [tg] e pos.line X.env=pure false:=by rfl)(hw:swappedStores [tg] e X.env=pure none:=by rfl)
  (h1:(assignEach [tg] X.env).map (·.2)=[assign tg X.env]:=by rfl):PS X (.Assign [tg] e pos) (CA te g):=by
 intro pins s σ H D I h;refine wpAny_Assign_stores (bN (he pins s σ H _ I h) fun v s1 ⟨x,H1,I1,r1,q1⟩=>?_) hs hw;rw[h1];exact bN (hg pins s1 σ H1 x v _ I1 r1 q1) fun _ s2 q=>q
theorem VH{i:Nat}{x:ξ}{e:υ}{te:TE}{pos':aQ}(hN:X.N.Nodup)(hi:X.N[i]?=some x)(hx:Loc X.env.scope x)(he:PE X e te)(hs:swapsWith e (some (.Name x pos')) pos.line X.env=pure false:=by rfl)(hf:X.fn x=true∨X.env.scope.names.lookup x=some .local:=by first|exact .inl rfl|exact .inr rfl|assumption):
  PS X (.Assign [.Name x pos'] e pos) (CA te (Bc i)):=by
 intro pins s σ H D I h;refine wpAny_Assign_Name (bN (he pins s σ H _ I h) fun v s1 ⟨y,H1,I1,r1,q1⟩=>?_) hs;exact AN I1 hN hi hx r1 (fun s2 I2=>⟨_,H1,I2,q1⟩) hf
def Gi(i j:Nat)(ta:TA):TS:=fun D σ H=>ta σ H fun vs H1=>∃v w,vs=[v,w]/\D.nx ((σ.set i (some v)).set j (some w)) H1
theorem VG{i j:Nat}{x y:ξ}{a b:υ}{ta:TA}{px py pt:aQ}{kt k2 pt2}(hc:X.calm=true)(hN:X.N.Nodup)(hi:X.N[i]?=some x)(hj:X.N[j]?=some y)(hij:i≠j)
  (hx:X.env.scope.names.lookup x=some .local) (hy:X.env.scope.names.lookup y=some .local) (ha:PA X [a,b] ta)
  (hw:swappedStores [.Tuple [.Name x px,.Name y py] kt pt] (.Tuple [a,b] k2 pt2) X.env=pure (some [x,y]))
  (hs:swapsWithSole [.Tuple [.Name x px,.Name y py] kt pt] (.Tuple [a,b] k2 pt2) pos.line X.env=pure false:=by rfl):
  PS X (.Assign [.Tuple [.Name x px,.Name y py] kt pt] (.Tuple [a,b] k2 pt2) pos) (Gi i j ta):=by
 intro pins s σ H D I h;rw[exec_Assign_arm];refine δ (g7 ?_);rw[hs];refine δ (ι ?_);rw[if_neg (by decide)];refine δ (Tuple_ (bN (ha _ pins s σ H _ I h) fun us s1 ⟨vs,H1,I1,r1,q1⟩=>?_));obtain⟨v,w,e1,q1⟩:=q1;subst e1;obtain⟨u1,u2,rfl,rv,rw'⟩:∃u1 u2,us=[u1,u2]/\RelV v u1/\RelV w u2:=by
  cases r1 with
  |cons p q=>
   cases q with
   |cons p' q'=>
    cases q';exact⟨_,_,rfl,p,p'⟩
 refine bC ?_ (by show 2≤au;decide);have I2:Inv X pins σ H1 { s1 with heap:=s1.heap.push { cls:=.type "tuple",data:=.seq [u1,u2].toArray }}:=I1.kept (t':=s1.toks) fun b o e=>μ _ e;rw[hw];refine δ (ι ?_);show ρ (model X.prog X.w) X.A (do rule "assign.swapped-stores";let items ←unpackItems (.ref s1.heap.objs.size) 2 none;assignInOrder [fun v=>bindName X.env y v,fun v=>bindName X.env x v] items.reverse;pure Flow.next) _ _ _
 refine δ (mf (δ (unpackItems_tuple (items:=#[u1,u2]) (I.ok.hd hc) (oQ.new s1.heap _) fun h' hx'=>?_)));have I3:=I2.kept (h':=h') (t':=s1.toks) fun b o e=>hx' b o (bh (Θ e)) e;show ρ _ _ (assignInOrder [fun v=>bindName X.env y v,fun v=>bindName X.env x v] [u2,u1] >>= fun _=>pure Flow.next) _ _ _
 refine δ (nC (wpAny_bindName (AN I3 hN hj (.inl hy) rw' (fun s2 I4=>?_) (.inr hy))));refine nC (wpAny_bindName (AN I4 hN hi (.inl hx) rv (fun s3 I5=>assignInOrder_nil (ι ?_)) (.inr hx)));rw[List.set_comm _ _ (de hij)] at I5;exact⟨_,H1,I5,q1⟩
def LM(to ti te:TE)(tget:V->V->Hp->VK->Prop)(tip:Fu)(tset:zh):TS:=fun D σ H=>to σ H fun o H1=>ti σ H1 fun i H2=>tget o i H2 fun x H3=>te σ H3 fun y H4=>tip x y H4 fun z H5=>tset o i z H5 fun H6=>D.nx σ H6
def Ln(X:Cx)(t:V->V->Hp->VK->Prop):Prop:=
 ∀(pins:List (ζ×aK)) (s:θ) (σ:St) (H:Hp) (o i:V) (ov iv:ε) (Q:VK),Inv X pins σ H s->RelV o ov->RelV i iv->t o i H Q ->
  ρ (model X.prog X.w) X.A (getItem ov iv) (EP X pins σ Q) X.xe s
theorem VF{o i e:υ}{to ti te:TE}{tget:V->V->Hp->VK->Prop}{tip:Fu}{tset:zh}{op:sP}{tpos:aQ}(ho:PE X o to)(hi:PE X i ti)(hg:Ln X tget)(he:PE X e te)(hp:MG X op tip)(hs:EV X tset)
  (ha:∀ov iv new,augStore i ov iv new=(do holding [new,ov,iv] (setItem ov iv new);release [new,ov,iv] [];pure .next):=by intros;rfl):PS X (.AugAssign (.Subscript o i tpos) op e pos) (LM to ti te tget tip tset):=by
 intro pins s σ H D I h;refine wpAny_AugAssign_SubscriptAny (bN (ho pins s σ H _ I h) fun ov s1 ⟨x1,H1,I1,r1,q1⟩=>?_) ha;refine bN (hi pins s1 σ H1 _ I1 q1) fun iv s2 ⟨x2,H2,I2,r2,q2⟩=>?_;refine bN (hg pins s2 σ H2 x1 x2 ov iv _ I2 r1 r2 q2) fun old s3 ⟨x3,H3,I3,r3,q3⟩=>?_;refine bN (he pins s3 σ H3 _ I3 q3) fun v s4 ⟨x4,H4,I4,r4,q4⟩=>?_;refine bN (hp pins s4 σ H4 x3 x4 old v _ I4 r3 r4 q4) fun new s5 ⟨x5,H5,I5,r5,q5⟩=>?_;exact bN (hs pins s5 σ H5 x1 x2 x5 ov iv new _ I5 r1 r2 r5 q5) fun _ s6 ⟨H6,I6,q6⟩=>⟨σ,H6,I6,q6⟩
def YN(f:Int->Int->Int):Fu:=fun x y H Q=>∃i j,x=.int i/\y=.int j/\Q (.int (f i j)) H
theorem VE:MG X .Add (YN fun i j=>i+j):=by
 intro pins s σ H x y v u Q I r1 r2 h;obtain⟨i,j,e1,e2,q⟩:=h;subst e1;subst e2;obtain⟨t,rfl⟩:=r1;obtain⟨t',rfl⟩:=r2;exact iadd_int ⟨.int _,H,I.tok _,⟨_,rfl⟩,q⟩
end
section
variable {X:Cx} {pos:aQ}
def Gh(c:TT)(tb:TS):TS:=fun D σ H=>∃W:Nat->St->Hp->Prop,(∃m,W m σ H)/\∀m σ H,W m σ H ->
 c σ H fun b H1=>if b=true then ∃N:St->Hp->Prop,(∀σ' H',N σ' H'->∃m',m' < m/\W m' σ' H')/\tb { D with nx:=N,ct:=N,bk:=D.nx } σ H1 else D.nx σ H1
theorem VD{c:υ}{body:List aR}{tc:TT}{tb:TS}(hp:lG (model X.prog X.w) X.A X.env X.xe)(hc:PT X c tc)(hb:nB X body tb):PS X (.While c body [] pos) (Gh tc tb):=by
 intro pins s σ H D I h;obtain⟨W,⟨m0,w0⟩,turn⟩:=h;refine wpAny_While (codeAny_whileLoop (fun n s'=>∃σ' H',Inv X pins σ' H' s'/\W n σ' H') ?_ m0 ⟨σ,H,I,w0⟩);rintro n s1 ⟨σ1,H1,I1,w1⟩;refine gi hp (bN (hc pins s1 σ1 H1 _ I1 (turn n σ1 H1 w1)) fun b s2 ⟨H2,I2,q2⟩=>?_);cases b with
 |true=>
  obtain⟨N,hN,q2⟩:=q2;rw[if_pos rfl];refine gi hp (bN (hb pins s2 σ1 H2 _ I2 q2) fun f s3 q3=>?_);cases f with
  |next=>
   obtain⟨σ3,H3,I3,n3⟩:=q3;obtain⟨m',hm,w3⟩:=hN σ3 H3 n3;exact⟨m',hm,σ3,H3,I3,w3⟩
  |cont=>
   obtain⟨σ3,H3,I3,n3⟩:=q3;obtain⟨m',hm,w3⟩:=hN σ3 H3 n3;exact⟨m',hm,σ3,H3,I3,w3⟩
  |brk=>exact q3
  |ret v=>exact q3
 |false=>
  rw[if_neg az];exact gj ⟨σ1,H2,I2,q2⟩
end
structure It where
 go:Nat->Hp->Prop
 EX:Nat->Hp->V->Hp->Prop
 stop:Nat->Hp->Prop
def kz(X:Cx)(pins:List (ζ×aK))(H:Hp)(b:ζ):Prop:=
 H b=none/\b≠X.env.locals/\b∉X.fs/\(b∈X.ex∨X.s₀.heap.objs.size≤b)/\(∀x c,X.env.cells.lookup x=some c->c≠b)/\∀p∈X.pn++pins,p.1≠b
theorem Inv.ud{X:Cx}{pins:List (ζ×aK)}{σ:St}{H H':Hp}{s:θ}{b:ζ}(I:Inv X pins σ H s)(hb:s.heap.objs.size≤b)(hn:H' b=none):kz X pins H' b:=by
 refine⟨hn,eA (bE I.lt hb),I.X3 hb,.inr (av I.sz hb),fun x c e z=>?_,fun p hp z=>?_⟩
 ·obtain⟨v,q⟩:=I.cell x c e;exact absurd (bE q.lt (by rw[z];exact hb)) (cy _)
 ·exact absurd (bE (Θ (I.pin p hp).1) (by rw[z];exact hb)) (cy _)
structure Turn(P:ah)(w:ax)(K:η)(tg:υ)(J:It)(fp:List ζ)(it:ζ)(tn:Nat->Φ->Prop):Prop where
 mem:it∈fp
 obj:∀i h,tn i h->∀b∈fp,∃o,h.get? b=some o/\∀v,o.data≠.cell v
 keep:∀i h h',tn i h->(∀b∈fp,∀o,h.get? b=some o->h'.get? b=some o)->tn i h'
 item:∀(X:Cx),X.prog=P->X.w=w->X.K=K->X.calm=true->∀(i:Nat) (pins:List (ζ×aK)) (s:θ) (σ:St) (H:Hp) (E:ε->θ->Prop),Inv X pins σ H s->(∀b∈fp,kz X pins H b)->tn i s.heap->J.go i H ->
  ρ (model P w) X.A (pyNext (.ref it)) (fun r s1=>∃u,r=some u ∧
   ρ (model P w) X.A (letOwnedTupleGo tg (.ref it) u) (fun _ s2=>∃x H',Inv X pins σ H' s2/\RelV x u/\J.EX i H x H'/\tn (i+1) s2.heap/\∀b∈fp,H' b=none) E s1) E s
 done:∀(X:Cx),X.prog=P->X.w=w->X.K=K->X.calm=true->∀(i:Nat) (pins:List (ζ×aK)) (s:θ) (σ:St) (H:Hp) (E:ε->θ->Prop),Inv X pins σ H s->(∀b∈fp,kz X pins H b)->tn i s.heap->J.stop i H ->
  ρ (model P w) X.A (pyNext (.ref it)) (fun r s1=>r=none/\Inv X pins σ H s1) E s
 self:∀(A:aL) (i:Nat) (s:θ) (Q:ε->θ->Prop) (E:ε->θ->Prop),tn i s.heap->Q (.ref it) s->ρ (model P w) A (pyIter (.ref it)) Q E s
abbrev TI:=St->Hp->(It->Hp->Prop)->Prop
def Lm(X:Cx)(pins:List (ζ×aK))(σ:St)(tg:υ)(R:It->Hp->Prop)(itv:ε)(s2:θ):Prop:=
 ∃(it:ζ) (fp:List ζ) (tn:Nat->Φ->Prop) (J:It) (H':Hp),itv=.ref it/\Inv X pins σ H' s2/\Turn X.prog X.w X.K tg J fp it tn/\tn 0 s2.heap/\(∀b∈fp,kz X pins H' b)/\R J H'
def PI(X:Cx)(tg iter:υ)(wi:TI):Prop:=
 ∀(pins:List (ζ×aK)) (s:θ) (σ:St) (H:Hp) (R:It->Hp->Prop),Inv X pins σ H s->wi σ H R ->
  ρ (model X.prog X.w) X.A (eval iter X.env) (fun v s1=>ρ (model X.prog X.w) X.A (pyIter v) (Lm X pins σ tg R) X.xe s1) X.xe s
theorem D8{M:Model}{A:aL}{E:ε->θ->Prop}{s:θ}{tg:υ}{it:ζ}{u:ε}{o:aK}{n:String}{vs:Array ε}{Q:Unit->θ->Prop}(ho:s.heap.get? it=some o)(hc:o.cls=.type n)(hd:o.data=.fields vs)
    (hn:["enumerate","zip","dict_itemiterator","dict_reverseitemiterator","odict_iterator","itertools.zip_longest","itertools.pairwise"].contains n=false) (hQ:Q () s):ρ M A (letOwnedTupleGo tg (.ref it) u) Q E s:=by
  unfold letOwnedTupleGo;cases tg<;>first
    |exact ι hQ
    | (cases u<;>first
        |exact ι hQ
        | (refine δ (wpAny_load ho ?_)
           rw[hc,hd];show ρ M A (if (["enumerate","zip","dict_itemiterator","dict_reverseitemiterator","odict_iterator","itertools.zip_longest","itertools.pairwise"].contains n&&vs[0]?==some (rawInt _))=true then _ else _) Q E s;rw[if_neg (by intro h;rw[hn,Bool.false_and] at h;cases h)];exact ι hQ))
def MJ(K:η)(a:ζ):It:=
 ⟨fun i H=>∃xs x,eU K H a xs/\xs[i]?=some x,fun i H x H'=>H'=H/\∀xs,eU K H a xs->xs[i]?=some x,fun i H=>∃xs,eU K H a xs/\xs.length≤i⟩
def MI(K:η)(a:ζ):It:=
 ⟨fun i H=>∃xs x,cG K H a xs/\xs[i]?=some x,fun i H x H'=>H'=H/\∀xs,cG K H a xs->xs[i]?=some x,fun i H=>∃xs,cG K H a xs/\xs.length≤i⟩
def Fy(lo:Int)(n:Nat):It:=⟨fun i _=>i<n,fun i H x H'=>H'=H/\x=.int (lo+i),fun i _=>n≤i⟩
theorem VC{P:ah}{w:ax}{K:η}{tg:υ}(a it:ζ):Turn P w K tg (MJ K a) [it] it (fun i h=>h.IsListIter it a i) where
 mem:=by simp
 obj:=fun i h st b hb=>by
  have e:b=it:=by simpa using hb
  subst e;obtain⟨o,e,c,d⟩:=st;exact⟨o,e,fun v z=>by rw[d] at z;cases z⟩
 keep:=fun i h h' st k=>st.at fun o e=>k it (by simp) o e
 item:=by
  intro X hP hw hK hc i pins s σ H E I hf st hg;subst hP hw hK;obtain⟨xs,x,hq,hx⟩:=hg;obtain⟨its,rv,p,hz⟩:=I.list hq;obtain⟨u,hu,ru⟩:=rv.get hx;obtain⟨f0,f1,f2,f3,f4,f5⟩:=hf it (by simp);refine wpAny_pyNext_list_item st p.isList (x:=u) (by simpa using hu) fun h' st' sb=>?_;have I1:Inv X pins σ H { s with heap:=h' }:=I.turned (t':=s.toks) (fun b o hb e=>(sb.2 b hb).trans e) f0 f1 f3 f4 f5;obtain⟨o,e,c,d⟩:=id st';exact⟨u,rfl,D8 (s:={ s with heap:=h' }) e c d (by decide) ⟨x,H,I1,ru,⟨rfl,fun ys hy=>by rw[I.yT hy hq];exact hx⟩,st',fun b hb=>(hf b hb).1⟩⟩
 done:=by
  intro X hP hw hK hc i pins s σ H E I hf st hg;subst hP hw hK;obtain⟨xs,hq,hx⟩:=hg;obtain⟨its,rv,p,hz⟩:=I.list hq;obtain⟨f0,f1,f2,f3,f4,f5⟩:=hf it (by simp);have hl:=rv.length;exact wpAny_pyNext_list_end (I.ok.hd hc) st p.isList (by simp;lia) fun h' eb=>⟨rfl,I.turned (t':=s.toks) (fun b o hb e=>eb b o hb e) f0 f1 f3 f4 f5⟩
 self:=fun _ _ _ _ _ st h=>wpAny_pyIter_listiter st h
theorem VB{P:ah}{w:ax}{K:η}{tg:υ}(a it:ζ):Turn P w K tg (MI K a) [it] it (fun i h=>h.IsTupleIter it a i) where
 mem:=by simp
 obj:=fun i h st b hb=>by
  have e:b=it:=by simpa using hb
  subst e;obtain⟨o,e,c,d⟩:=st;exact⟨o,e,fun v z=>by rw[d] at z;cases z⟩
 keep:=fun i h h' st k=>st.at fun o e=>k it (by simp) o e
 item:=by
  intro X hP hw hK hc i pins s σ H E I hf st hg;subst hP hw hK;obtain⟨xs,x,hq,hx⟩:=hg;obtain⟨its,rv,p,hz⟩:=I.tuple hq;obtain⟨u,hu,ru⟩:=rv.get hx;obtain⟨f0,f1,f2,f3,f4,f5⟩:=hf it (by simp);refine wpAny_pyNext_tuple_item st (show s.heap.IsTuple a its.toArray from p) (x:=u) (by simpa using hu) fun h' st' sb=>?_;have I1:Inv X pins σ H { s with heap:=h' }:=I.turned (t':=s.toks) (fun b o hb e=>(sb.2 b hb).trans e) f0 f1 f3 f4 f5;obtain⟨o,e,c,d⟩:=id st';exact⟨u,rfl,D8 (s:={ s with heap:=h' }) e c d (by decide) ⟨x,H,I1,ru,⟨rfl,fun ys hy=>by rw[I.xy hy hq];exact hx⟩,st',fun b hb=>(hf b hb).1⟩⟩
 done:=by
  intro X hP hw hK hc i pins s σ H E I hf st hg;subst hP hw hK;obtain⟨xs,hq,hx⟩:=hg;obtain⟨its,rv,p,hz⟩:=I.tuple hq;obtain⟨f0,f1,f2,f3,f4,f5⟩:=hf it (by simp);have hl:=rv.length;exact wpAny_pyNext_tuple_end (I.ok.hd hc) st (show s.heap.IsTuple a its.toArray from p) (by simp;lia) fun h' eb=>⟨rfl,I.turned (t':=s.toks) (fun b o hb e=>eb b o hb e) f0 f1 f3 f4 f5⟩
 self:=fun _ _ _ _ _ st h=>wpAny_pyIter_tupleiter st h
theorem VA{P:ah}{w:ax}{K:η}{tg:υ}(it:ζ)(lo:Int)(n:Nat):Turn P w K tg (Fy lo n) [it] it (fun i h=>IsRangeIter h it (lo+(i:Nat)*1) ((n:Int)-(i:Nat)) 1) where
 mem:=by simp
 obj:=fun i h st b hb=>by
  have e:b=it:=by simpa using hb
  subst e;exact⟨_,st,fun v z=>by
   have z':vA _=qu v:=z;cases z'⟩
 keep:=fun i h h' st k=>k it (by simp) _ st
 item:=by
  intro X hP hw hK hc i pins s σ H E I hf st hg;subst hP hw hK;obtain⟨f0,f1,f2,f3,f4,f5⟩:=hf it (by simp);have W:=Walks.range (prog:=X.prog) (w:=X.w) (I.ok.hd hc) it lo 1 n;refine W.item i s _ _ hg st fun v h' tk hv st' kk=>?_;obtain⟨t,rfl⟩:=hv;have I1:Inv X pins σ H { s with heap:=h',toks:=tk }:=I.turned (fun b o hb e=>kk b o (by simpa using hb) e) f0 f1 f3 f4 f5;refine⟨_,rfl,D8 (s:={ s with heap:=h',toks:=tk }) (n:="range_iterator") st' rfl rfl (by decide) ⟨.int (lo+i),H,I1,⟨t,?_⟩,⟨rfl,rfl⟩,st',fun b hb=>(hf b hb).1⟩⟩;rw[nk]
 done:=by
  intro X hP hw hK hc i pins s σ H E I hf st hg;subst hP hw hK;obtain⟨f0,f1,f2,f3,f4,f5⟩:=hf it (by simp);exact wpAny_pyNext_range_end (I.ok.hd hc) st (by have:n≤i:=hg;lia) fun h' eb=>⟨rfl,I.turned (t':=s.toks) (fun b o hb e=>eb b o hb e) f0 f1 f3 f4 f5⟩
 self:=fun _ _ _ _ _ st h=>wpAny_pyIter_rangeiter st h
end L2
namespace L2
open PySem PySem.Spec PyProof.Rows
section
variable {X:Cx} {tg:υ}
theorem Vz{pins:List (ζ×aK)}{σ:St}{H:Hp}{s:θ}{R:It->Hp->Prop}{E:ε->θ->Prop}{lo hi:Int}{t u v:Tok}{tk:Nat}(I:Inv X pins σ H s)(h1:-(2^62)≤lo)(h2:lo<2^62)(h3:-(2^62)≤hi)(h4:hi<2^62)
  (q:R (Fy lo (hi-lo).toNat) H):ρ (model X.prog X.w) X.A (pyIter (.ref s.heap.objs.size)) (Lm X pins σ tg R) E { s with heap:=s.heap.push { cls:=.type "range",data:=.fields #[.int lo t,.int hi u,.int 1 v]},toks:=tk }:=by
 refine wpAny_pyIter_range (IsRange.new ..) (small_one h1 h2 h3 h4) ?_;have I1:Inv X pins σ H { s with heap:=s.heap.push { cls:=.type "range",data:=.fields #[.int lo t,.int hi u,.int 1 v]},toks:=tk }:=I.kept fun b o e=>μ _ e;refine⟨(s.heap.push { cls:=.type "range",data:=.fields #[.int lo t,.int hi u,.int 1 v]}).objs.size,[(s.heap.push { cls:=.type "range",data:=.fields #[.int lo t,.int hi u,.int 1 v]}).objs.size],_,_,H,rfl,
  I1.kept (t':=tk) fun b o e=>μ _ e,VA _ lo (hi-lo).toNat,?_,fun b hb=>?_,q⟩
 ·have e1:lo+((0:Nat):Int)*1=lo:=by simp
  have e2:(((hi-lo).toNat:Nat):Int)-((0:Nat):Int)=df.Range.rangeSize lo hi 1:=by rw[rangeSize_one];split<;>lia
  show IsRangeIter _ _ (lo+((0:Nat):Int)*1) ((((hi-lo).toNat:Nat):Int)-((0:Nat):Int)) 1;rw[e1,e2];exact ag _ rfl
 ·have e:b=(s.heap.push { cls:=.type "range",data:=.fields #[.int lo t,.int hi u,.int 1 v]}).objs.size:=by simpa using hb
  subst e;exact I1.ud (Ψ _) (I1.bR.fresh (Ψ _))
def kU(ta:TA):TI:=fun σ H R=>ta σ H fun vs H1=>∃j:Int,vs=[.int j]/\-(2^62)≤j/\j<2^62/\R (Fy 0 j.toNat) H1
theorem Vy{a:υ}{ta:TA}{p pos:aQ}(hg:Gl X "range")(hm:X.mg "range" = none)(ha:PA X [a] ta)(hs:bW [a] X.env=[(false,eval a X.env)]:=by rfl):PI X tg (.Call (.Name "range" p) [a] [] pos) (kU ta):=by
 intro pins s σ H R I h;refine Call_ (yF I hg hm boot_range (iO (bN (ha pos pins s σ H _ I h) fun us s1 ⟨vs,H1,I1,r1,q1⟩=>?_) hs rfl));obtain⟨j,e,q1,q2,q⟩:=q1;subst e;cases r1 with
 |cons r rr=>
  cases rr;obtain⟨t,rfl⟩:=r;exact call_range_1 (Vz I1 (by lia) (by lia) q1 q2 (by simpa using q))
def MU(wi:TI)(g:TG)(tb:TS):TS:=fun D σ H=>wi σ H fun J H1=>∃W:Nat->Nat->St->Hp->Prop,(∃m,W 0 m σ H1)/\∀i m σ H,W i m σ H ->
 (J.stop i H/\D.nx σ H)∨(J.go i H/\∃N:St->Hp->Prop,(∀σ' H',N σ' H'->∃m',m' < m/\W (i+1) m' σ' H')/\∀x H',J.EX i H x H'->g x σ H' fun σ2 H2=>tb { D with nx:=N,ct:=N,bk:=D.nx } σ2 H2)
def t7(fp:List ζ)(h:Φ):List (ζ×aK):=fp.filterMap fun b=>(h.get? b).map fun o=>(b,o)
theorem AM{fp:List ζ}{h:Φ}{b:ζ}{o:aK}(hb:b∈fp)(e:h.get? b=some o):(b,o)∈t7 fp h:=nJ.mpr ⟨b,hb,by rw[e];rfl⟩
theorem Vx{fp:List ζ}{h:Φ}{p:ζ×aK}(hp:p∈t7 fp h):p.1∈fp/\h.get? p.1=some p.2:=by
 obtain⟨b,hb,e⟩:=nJ.mp hp;cases q:h.get? b with
 |none=>rw[q] at e;cases e
 |some o=>
  rw[q] at e;have e':(b,o)=p:=aJ e;subst e';exact⟨hb,q⟩
theorem Inv.pinned{pins:List (ζ×aK)}{σ:St}{H:Hp}{s:θ}{fp:List ζ}(I:Inv X pins σ H s)(hf:∀b∈fp,kz X pins H b)(ho:∀b∈fp,∃o,s.heap.get? b=some o/\∀v,o.data≠.cell v):Inv X (pins++t7 fp s.heap) σ H s:=
 I.zy fun p hp=>(cI.mp hp).elim (fun z=>I.pin p (aV _ z)) fun z=>by
  obtain⟨hb,e⟩:=Vx z;obtain⟨f0,f1,f2,_⟩:=hf p.1 hb;obtain⟨o,e',d⟩:=ho p.1 hb;rw[e] at e';cases e';exact⟨e,f0,f1,f2,d⟩
theorem Inv.rP{pins pl:List (ζ×aK)}{σ:St}{H:Hp}{s:θ}(I:Inv X (pins++pl) σ H s):Inv X pins σ H s:=I.zy fun p hp=>I.pin p (aV _ (eG _ hp))
theorem Vw{iter:υ}{body:List aR}{wi:TI}{g:TG}{tb:TS}{pos:aQ}(hp:lG (model X.prog X.w) X.A X.env X.xe)(hc:X.calm=true)(hi:PI X tg iter wi)(hg:PG X tg g)(hb:nB X body tb)
  (hs:∀x,foldedSetIterable iter X.env x=pure x:=by intro _;rfl):PS X (.For tg iter body [] pos) (MU wi g tb):=by
 intro pins s σ H D I h;refine wpAny_For (bN (hi pins s σ H _ I h) fun v s1 h1=>bN h1 fun itv s2 h2=>?_) hs;obtain⟨it,fp,tn,J,H2,e,I2,T,st2,f2,W,⟨m0,w0⟩,turn⟩:=h2;subst e
 -- what stays true of the iterator's objects through the loop
 have stat:∀{H':Hp},(∀b∈fp,H' b=none)->∀b∈fp,kz X pins H' b:=fun hn b hb=>⟨hn b hb,(f2 b hb).2⟩;refine codeAny_forLoop_any (fun n s'=>∃i σ' H',Inv X pins σ' H' s'/\tn i s'.heap/\(∀b∈fp,H' b=none)/\W i n σ' H') ?_ m0 ⟨0,σ,H2,I2,st2,fun b hb=>(f2 b hb).1,w0⟩;rintro n s3 ⟨i,σ3,H3,I3,st3,fr3,w3⟩;rcases turn i n σ3 H3 w3 with⟨stop,qn⟩|⟨go,N,hN,step⟩
 ·refine gi hp (bN (T.done X rfl rfl rfl hc i pins s3 σ3 H3 X.xe I3 (stat fr3) st3 stop) fun r s4 ⟨hr,I4⟩=>?_);subst hr;exact gj ⟨σ3,H3,I4,qn⟩
 ·refine gi hp (bN (T.item X rfl rfl rfl hc i pins s3 σ3 H3 X.xe I3 (stat fr3) st3 go) fun r s4 ⟨u,hr,h4⟩=>?_);subst hr;refine gi hp (bN h4 fun _ s5 ⟨x,H5,I5,r5,y5,st5,fr5⟩=>?_);have I5':=I5.pinned (stat fr5) (T.obj _ _ st5);refine gi hp (bN (hg _ s5 σ3 H5 x u _ I5' r5 (step x H5 y5)) fun _ s6 ⟨σ6,H6,I6,q6⟩=>?_);refine gi hp (bN (hb _ s6 σ6 H6 _ I6 q6) fun f s7 q7=>?_);have again:∀{σ7:St} {H7:Hp},Inv X (pins++t7 fp s5.heap) σ7 H7 s7->N σ7 H7->∃m,m<n/\∃i σ' H',Inv X pins σ' H' s7/\tn i s7.heap/\(∀b∈fp,H' b=none)/\W i m σ' H':=fun {σ7 H7} I7 n7=>by
   obtain⟨m',hm,w7⟩:=hN σ7 H7 n7;refine⟨m',hm,i+1,σ7,H7,I7.rP,T.keep _ _ _ st5 fun b hb o e=>(I7.pin (b,o) (aV _ (aV _ (AM hb e)))).1,fun b hb=>?_,w7⟩;obtain⟨o,e,d⟩:=T.obj _ _ st5 b hb;exact (I7.pin (b,o) (aV _ (aV _ (AM hb e)))).2.1
  cases f with
  |next=>obtain⟨σ7,H7,I7,n7⟩:=q7;exact again I7 n7
  |cont=>obtain⟨σ7,H7,I7,n7⟩:=q7;exact again I7 n7
  |brk=>obtain⟨σ7,H7,I7,q7⟩:=q7;exact⟨σ7,H7,I7.rP,q7⟩
  |ret v=>obtain⟨x7,σ7,H7,I7,r7,q7⟩:=q7;exact⟨x7,σ7,H7,I7.rP,r7,q7⟩
end
end L2
namespace L2
open PySem PySem.Spec PyProof.Rows
abbrev R2:=V->V->Hp->VK->Prop
def fi(X:Cx)(f:ε->ε->kL ε)(r:R2):Prop:=
 ∀(pins:List (ζ×aK)) (s:θ) (σ:St) (H:Hp) (x y:V) (v u:ε) (Q:VK),Inv X pins σ H s->RelV x v->RelV y u->r x y H Q ->
  ρ (model X.prog X.w) X.A (f v u) (EP X pins σ Q) X.xe s
def jy(X:Cx)(f:ε)(r:List V->Hp->VK->Prop):Prop:=
 ∀(pins:List (ζ×aK)) (s:θ) (σ:St) (H:Hp) (xs:List V) (us:List ε) (Q:VK),Inv X pins σ H s->bj xs us->r xs H Q ->
  ρ (model X.prog X.w) X.A (call f us) (EP X pins σ Q) X.xe s
def YG(X:Cx)(r:V->Hp->(Bool->Hp->Prop)->Prop):Prop:=
 ∀(pins:List (ζ×aK)) (s:θ) (σ:St) (H:Hp) (x:V) (v:ε) (Q:Bool->Hp->Prop),Inv X pins σ H s->RelV x v->r x H Q ->
  ρ (model X.prog X.w) X.A (truthy v) (TP X pins σ Q) X.xe s
def B5(r:R2)(ta tb:TE):TE:=fun σ H Q=>ta σ H fun x H1=>tb σ H1 fun y H2=>r x y H2 Q
def rI(C:Int->Int->Prop)(g:Int->Int->V):R2:=fun x y H Q=>∃i j,x=.int i/\y=.int j/\C i j/\Q (g i j) H
def pd(g:Int->Int->V):R2:=fun x y H Q=>∃i j,x=.int i/\y=.int j/\Q (g i j) H
section
variable {X:Cx} {a b c:υ} {ta tb tc:TE} {pos:aQ}
theorem ET(ha:PE X a ta)(hb:PE X b tb){pins:List (ζ×aK)}{s:θ}{σ:St}{H:Hp}{R:V->V->Hp->Prop}(I:Inv X pins σ H s)
  (h:ta σ H fun x H1=>tb σ H1 fun y H2=>R x y H2) {Q:ε->θ->Prop} {f:ε->ε->kL ε}
  (hf:∀v u s2 x y H2,Inv X pins σ H2 s2->RelV x v->RelV y u->R x y H2->ρ (model X.prog X.w) X.A (f v u) Q X.xe s2):
  ρ (model X.prog X.w) X.A (eval a X.env) (fun v s₁=>ρ (model X.prog X.w) X.A (eval b X.env) (fun u s₂=>ρ (model X.prog X.w) X.A (f v u) Q X.xe s₂) X.xe s₁) X.xe s:=by
 refine bN (ha pins s σ H _ I h) fun v s1 ⟨x,H1,I1,r1,q1⟩=>?_;refine bN (hb pins s1 σ H1 _ I1 q1) fun u s2 ⟨y,H2,I2,r2,q2⟩=>?_;exact hf v u s2 x y H2 I2 r1 r2 q2
theorem Vv{op:sP}{r:R2}(ho:fi X (binaryOp op) r)(ha:PE X a ta)(hb:PE X b tb):PE X (.BinOp a op b pos) (B5 r ta tb):=by
 intro pins s σ H Q I h;exact wpAny_BinOp (ET ha hb I h fun v u s2 x y H2 I2 rx ry q=>ho pins s2 σ H2 x y v u Q I2 rx ry q)
theorem Ff{f:ε->ε->kL ε}{C:Int->Int->Prop}{g:Int->Int->Int}
  (rule:∀(i j:Int) (t u:Tok) (s:θ) (Q:ε->θ->Prop) (E:ε->θ->Prop),C i j->Q (.int (g i j) s.toks) { s with toks:=s.toks+1 }->ρ (model X.prog X.w) X.A (f (.int i t) (.int j u)) Q E s):
  fi X f (rI C fun i j=>.int (g i j)):=by
 intro pins s σ H x y v u Q I rx ry h;obtain⟨i,j,rfl,rfl,hc,q⟩:=h;obtain⟨t,rfl⟩:=rx;obtain⟨t',rfl⟩:=ry;exact rule i j t t' s _ _ hc ⟨.int (g i j),H,I.tok _,⟨_,rfl⟩,q⟩
theorem KS{f:ε->ε->kL ε}{g:Int->Int->Int}
  (rule:∀(i j:Int) (t u:Tok) (s:θ) (Q:ε->θ->Prop) (E:ε->θ->Prop),Q (.int (g i j) s.toks) { s with toks:=s.toks+1 }->ρ (model X.prog X.w) X.A (f (.int i t) (.int j u)) Q E s):
  fi X f (pd fun i j=>.int (g i j)):=by
 intro pins s σ H x y v u Q I rx ry h;obtain⟨i,j,rfl,rfl,q⟩:=h;obtain⟨t,rfl⟩:=rx;obtain⟨t',rfl⟩:=ry;exact rule i j t t' s _ _ ⟨.int (g i j),H,I.tok _,⟨_,rfl⟩,q⟩
theorem A0{f:ε->ε->kL ε}{g:Int->Int->Bool}
  (rule:∀(i j:Int) (t u:Tok) (s:θ) (Q:ε->θ->Prop) (E:ε->θ->Prop),Q (.bool (g i j)) s->ρ (model X.prog X.w) X.A (f (.int i t) (.int j u)) Q E s):
  fi X f (pd fun i j=>.bl (g i j)):=by
 intro pins s σ H x y v u Q I rx ry h;obtain⟨i,j,rfl,rfl,q⟩:=h;obtain⟨t,rfl⟩:=rx;obtain⟨t',rfl⟩:=ry;exact rule i j t t' s _ _ ⟨.bl (g i j),H,I,rfl,q⟩
def EW(i j:Int):Prop:=0≤j/\j≤1000000/\i.natAbs<2^64
theorem KR:fi X (binaryOp .Add) (pd fun i j=>.int (i+j)):=KS fun _ _ _ _ _ _ _ q=>add_int q
theorem lS:fi X (binaryOp .Sub) (pd fun i j=>.int (i-j)):=KS fun _ _ _ _ _ _ _ q=>sub_int q
theorem mQ:fi X (binaryOp .Mod) (rI (fun _ j=>0<j) fun i j=>.int (i%j)):=Ff fun i j _ _ _ _ _ hc q=>by
 have h1:(0:Int)<j:=hc;exact mod_int' (by lia) (by rw[Int.fmod_eq_emod_of_nonneg i (by lia)];exact q)
theorem w9:fi X (binaryOp .Pow) (rI EW fun i j=>.int (i^j.toNat)):=Ff fun _ _ _ _ _ _ _ hc q=>pow_int_small hc.1 hc.2.1 hc.2.2 q
end
section
variable {X:Cx} {a b c:υ} {ta tb tc:TE} {pos:aQ}
theorem Vu{pins:List (ζ×aK)}{σ:St}{H:Hp}{s:θ}{Q:VK}{k k':Bool}(I:Inv X pins σ H s)(q:Q (.bl k) H)(e:k=k'):EP X pins σ Q (.bool k') s:=by
 subst e;exact⟨.bl k,H,I,rfl,q⟩
theorem LV:fi X (compareOp .Lt) (pd fun i j=>.bl (decide (i<j))):=A0 fun _ _ _ _ _ _ _ q=>lt_int q
theorem V5:fi X (compareOp .LtE) (pd fun i j=>.bl (decide (i≤j))):=A0 fun _ _ _ _ _ _ _ q=>le_int q
theorem yE:fi X (compareOp .Gt) (pd fun i j=>.bl (decide (j<i))):=A0 fun _ _ _ _ _ _ _ q=>gt_int q
theorem V4:fi X (compareOp .GtE) (pd fun i j=>.bl (decide (j≤i))):=A0 fun _ _ _ _ _ _ _ q=>ge_int q
theorem Kt:fi X (compareOp .IsNot) (fun x y H Q=>y=.aC/\Q (.bl (!decide (x=.aC))) H):=by
 intro pins s σ H x y v u Q I rx ry h;obtain⟨rfl,q⟩:=h;cases ry;refine isnot_none_gen (Vu I q ?_);cases x<;>first
  | (cases rx;rfl)
  | (obtain⟨t,rfl⟩:=rx;rfl)
theorem fi.or{f:ε->ε->kL ε}{r r':R2}(h:fi X f r)(h':fi X f r'):fi X f (fun x y H Q=>r x y H Q∨r' x y H Q):=by
 intro pins s σ H x y v u Q I rx ry q;rcases q with q|q
 ·exact h pins s σ H x y v u Q I rx ry q
 ·exact h' pins s σ H x y v u Q I rx ry q
theorem dB(b:υ){op:CmpOp}(h:op≠.In:=by decide)(h2:op≠.NotIn:=by decide):behindInMarks op b=false:=by
 have e1:(op==CmpOp.In)=false:=by cases op<;>first|rfl|exact absurd rfl h
 have e2:(op==CmpOp.NotIn)=false:=by cases op<;>first|rfl|exact absurd rfl h2
 cases b<;>simp[behindInMarks,e1,e2]
theorem V2{op:CmpOp}{r:R2}(ho:fi X (compareOp op) r)(ha:PE X a ta)(hb:PE X b tb)(hm:behindInMarks op b=false):PE X (.Compare a [op] [b] pos) (B5 r ta tb):=by
 intro pins s σ H Q I h;exact wpAny_Compare1 (ET ha hb I h fun v u s2 x y H2 I2 rx ry q=>ho pins s2 σ H2 x y v u Q I2 rx ry q) hm
def EZ(t:TE):TT:=fun σ H Q=>t σ H fun x H'=>∃k,x=.bl k/\Q k H'
theorem V1{op:CmpOp}{r:R2}(ho:fi X (compareOp op) r)(ha:PE X a ta)(hb:PE X b tb)(hm:behindInMarks op b=false):PT X (.Compare a [op] [b] pos) (EZ (B5 r ta tb)):=by
 intro pins s σ H Q I h;refine wpAny_isTrue_Compare1 (bN (ha pins s σ H _ I h) fun v s1 ⟨x,H1,I1,r1,q1⟩=>bN (hb pins s1 σ H1 _ I1 q1) fun u s2 ⟨y,H2,I2,r2,q2⟩=>
  bN (ho pins s2 σ H2 x y v u _ I2 r1 r2 q2) fun c s3 ⟨z,H3,I3,r3,k,e,q3⟩=>?_) hm
 subst e;cases r3;exact iu ⟨H3,I3,q3⟩
def Ll(K:η)(x:V)(H:Hp)(k:Bool):Prop:=
 match x with
 |.aC=>k=false
 |.bl b=>k=b
 |.int i=>k=(i != 0)
 |.str y=>y.length≤au/\k=((y.length:Int) != 0)
 |.Ct y=>y.size≤au/\k=((y.size:Int) != 0)
 |.ref p=>(∃xs,eU K H p xs/\k = !xs.isEmpty)∨(∃xs,cG K H p xs/\k = !xs.isEmpty)∨∃kvs,H p=some (.dK kvs)/\k = !kvs.isEmpty
 |_=>False
theorem V0{κ:Type}{kvs:List (κ×V)}{vs:List (κ×ε)}(r:KV kvs vs):(!vs.isEmpty) = !kvs.isEmpty:=by
 cases r<;>rfl
theorem Ks{xs:List V}{its:List ε}(r:bj xs its):(!its.toArray.isEmpty) = !xs.isEmpty:=by
 cases r<;>simp
theorem pk:(au:Nat)<2^63:=by rw[cq];decide
theorem VZ:YG X (fun x H Q=>∃k,Ll X.K x H k/\Q k H):=by
 intro pins s σ H x v Q I rx h;obtain⟨k,e,q⟩:=h;have hl:=pk;have hs:au=16777216:=cq;cases x with
 |aC=>
  cases rx;have e':k=false:=e;subst e';exact truthy_none ⟨H,I,q⟩
 |bl b=>
  cases rx;have e':k=b:=e;subst e';exact iu ⟨H,I,q⟩
 |int i=>
  obtain⟨t,rfl⟩:=rx;have e':k=(i != 0):=e;subst e';exact PySem.P.truthy_int ⟨H,I,q⟩
 |str y=>
  obtain⟨t,rfl⟩:=rx;obtain⟨hy,e'⟩:y.length≤au/\k=((y.length:Int) != 0):=e;subst e';exact PySem.P.truthy_str (by lia) ⟨H,I.tok _,q⟩
 |Ct y=>
  obtain⟨t,rfl⟩:=rx;obtain⟨hy,e'⟩:y.size≤au/\k=((y.size:Int) != 0):=e;subst e';exact PySem.W.truthy_bytes (by lia) ⟨H,I.tok _,q⟩
 |ref p=>
  cases rx;have e':(∃xs,eU X.K H p xs/\k = !xs.isEmpty)∨(∃xs,cG X.K H p xs/\k = !xs.isEmpty)∨∃kvs,H p=some (.dK kvs)/\k = !kvs.isEmpty:=e;rcases e' with⟨xs,hx,e'⟩|⟨xs,hx,e'⟩|⟨kvs,hx,e'⟩
  ·subst e';obtain⟨its,r,pl,hz⟩:=I.list hx;have hlen:=r.length;exact wpAny_truthy_list pl.isList (by simp only[ψ];lia) ⟨H,I.tok _,by rw[Ks r];exact q⟩
  ·subst e';obtain⟨its,r,pl,hz⟩:=I.tuple hx;have hlen:=r.length;exact truthy_tuple pl (by simp only[ψ];lia) ⟨H,I.tok _,by rw[Ks r];exact q⟩
  ·subst e';obtain⟨hz,hS,vs,r,m⟩:kvs.length≤au/\(p==sysModules)=false/\∃vs,KV kvs vs/\s.heap.DictOf (xo X.prog X.w) p vs:=I.bR p _ hx;have hlen:kvs.length=vs.length:=Paired.length r;exact wpAny_truthy_dict hS m (by lia) ⟨H,I.tok _,by rw[V0 r];exact q⟩
 |_=>exact (show False from e).elim
theorem VY(ha:PE X a ta)(he:∀whole,isTrue a X.env whole=(do let v ←whole;standAt a.pos;holding [v] (truthy v))):
  PT X a (fun σ H Q=>ta σ H fun x H'=>∃k,Ll X.K x H' k/\Q k H'):=by
 intro pins s σ H Q I h;exact isTrue_plain (bN (ha pins s σ H _ I h) fun v s1 ⟨x,H1,I1,r1,q1⟩=>VZ pins s1 σ H1 x v Q I1 r1 q1) (he _)
theorem vals1{x:V}{us:List ε}(r:bj [x] us):∃u,us=[u]/\RelV x u:=by
 cases r with
 |cons r1 r2=>cases r2;exact⟨_,rfl,r1⟩
theorem vals2{x y:V}{us:List ε}(r:bj [x,y] us):∃u w',us=[u,w']/\RelV x u/\RelV y w':=by
 cases r with
 |cons r1 r2=>
  cases r2 with
  |cons r3 r4=>cases r4;exact⟨_,_,rfl,r1,r3⟩
theorem VX(hc:X.calm=true):jy X (.builtin "max") (fun xs H Q=>∃i j,xs=[.int i,.int j]/\Q (.int (if j > i then j else i)) H):=by
 intro pins s σ H xs us Q I r h;obtain⟨i,j,rfl,q⟩:=h;obtain⟨u,w',rfl,⟨t,rfl⟩,⟨t',rfl⟩⟩:=vals2 r;refine max_two_ints (I.ok.hd hc) fun h' tk k=>⟨_,H,I.kept k,?_,q⟩;by_cases hj:j > i
 ·rw[if_pos hj,if_pos hj];exact⟨_,rfl⟩
 ·rw[if_neg hj,if_neg hj];exact⟨_,rfl⟩
theorem VW(hc:X.calm=true):jy X (.builtin "min") (fun xs H Q=>∃i j,xs=[.int i,.int j]/\Q (.int (if j<i then j else i)) H):=by
 intro pins s σ H xs us Q I r h;obtain⟨i,j,rfl,q⟩:=h;obtain⟨u,w',rfl,⟨t,rfl⟩,⟨t',rfl⟩⟩:=vals2 r;refine min_two_ints (I.ok.hd hc) fun h' tk k=>⟨_,H,I.kept k,?_,q⟩;by_cases hj:j<i
 ·rw[if_pos hj,if_pos hj];exact⟨_,rfl⟩
 ·rw[if_neg hj,if_neg hj];exact⟨_,rfl⟩
theorem VV:jy X (.type "int") (fun xs H Q=>(∃i,xs=[.int i]/\Q (.int i) H)∨∃k,xs=[.bl k]/\Q (.int (if k then 1 else 0)) H):=by
 intro pins s σ H xs us Q I r h;rcases h with⟨i,rfl,q⟩|⟨k,rfl,q⟩
 ·obtain⟨u,rfl,t,rfl⟩:=vals1 r;exact call_int_int ⟨.int i,H,I,⟨_,rfl⟩,q⟩
 ·obtain⟨u,rfl,r1⟩:=vals1 r;cases r1;exact call_int_bool ⟨.int (if k then 1 else 0),H,I.tok _,⟨_,rfl⟩,q⟩
end
end L2
namespace L2
open PySem PySem.Spec PyProof.Rows
theorem Vj{h:Φ}{dx:ζ}{mA:ξ->Option ε}(n:h.Ns1 dx mA):∃od,h.get? dx=some od/\∀name,rA name od=some (mA name):=by
 obtain⟨o,es,ep,ho,hd,hk,_,hm⟩:=n;refine⟨o,ho,fun name=>?_⟩;have e:=hm name;unfold nsFind findBy at e;rw[←Array.find?_toList] at e;unfold rA;rw[hd];dsimp only;split
 ·rename_i y q;rw[q] at e;exact congrArg some e
 ·rename_i q;rw[q] at e;have a:es.toList.any (·.refKey)=false:=by
   rw[List.any_eq_false];intro y hy;obtain⟨z,t,hkey⟩:=hk y (gD.mp hy);simp[jW.refKey,hkey]
  have a':¬es.toList.any (·.refKey)=true:=by rw[a];exact az
  rw[if_neg a'];exact congrArg some e
theorem sG.some_of{v:V}{o:Option ε}(r:sG (some v) o):∃u,o=some u/\RelV v u:=by
 cases o with
 |none=>exact (show False from r).elim
 |some u=>exact⟨u,rfl,r⟩
section
variable {X:Cx} {pins:List (ζ×aK)} {σ:St} {H:Hp} {s:θ} {a C dx:ζ} {fs:List (ξ×V)} {f:ξ} {v:V} {A:aL} {E:ε->θ->Prop}
theorem Vi{prog:ah}{w:ax}{env:dm}{e:υ}{f:ξ}{pos:aQ}{s:θ}{Q:ε->θ->Prop}(hb:attributeBase e f env (eval e env)=eval e env)
  (h:ρ (model prog w) A (eval e env) (fun o s₁=>ρ (model prog w) A (getAttr o f true) Q E s₁) E s):ρ (model prog w) A (eval (.Attribute e f pos) env) Q E s:=
 Attribute_any_ h (by rw[arm_eval_Attribute,hb])
end
end L2
namespace L2
open PySem PySem.Spec PyProof.Rows
structure eD(k:Nat)(A:aL):Prop where
 hd:A.handled=none
 dp:A.depth+3*k+5<recursionLimit
 un:A.units+16*k+200<cLine
theorem eD.mono{j k:Nat}{A:aL}(r:eD k A)(h:j≤k):eD j A:=⟨r.hd,by have:=r.dp;lia,by have:=r.un;lia⟩
theorem eD.deeper{k:Nat}{A:aL}(r:eD (k+1) A)(env:dm):eD k (A.deeper env):=
 ⟨r.hd,by have:=r.dp;show A.depth+1+3*k+5<_;lia,by have:=r.un;show A.units+3+16*k+200<_;lia⟩
theorem Vh{A:aL}{C:ζ}{us:List ε}{kw:List (ξ×ε)}:(A.under (.builtin "type.__call__" ⟨.ref C::us,kw⟩)).depth=A.depth+1:=by
 first|rfl|simp[aL.under,Code.weight,Code.isCreation,Code.isGuard,Code.isCaller,Code.frames,Code.isFrame,guardIds]
theorem eD.depth{k:Nat}{A:aL}(r:eD k A):A.depth<recursionLimit:=by have:=r.dp;lia
theorem eD.units{k:Nat}{A:aL}(r:eD k A):A.units+64<cLine:=by have:=r.un;lia
theorem eD.xX{k:Nat}{A:aL}(r:eD k A):A.units<cLine:=by have:=r.un;lia
def Gj:TA:=fun _ H Q=>Q [] H
def zN(ta:TE)(tr:TA):TA:=fun σ H Q=>ta σ H fun x H1=>tr σ H1 fun xs H2=>Q (x::xs) H2
section
variable {X:Cx} {e:υ} {es:List υ} {te:TE} {t:TA} {pos:aQ}
theorem w6:PA X [] Gj:=fun _ _ _ _ H Q I h=>vd ⟨[],H,I,.nil,h⟩
theorem r0(ha:PE X e te)(hr:PA X es t)(hs:bW (e::es) X.env=(false,eval e X.env)::bW es X.env:=by rfl):PA X (e::es) (zN te t):=by
 intro pos pins s σ H Q I h;rw[hs];show ρ _ _ (spliced ((false,eval e X.env)::backTo pos (bW es X.env))) _ _ s;refine nM (bN (ha pins s σ H _ I h) fun u s1 ⟨x,H1,I1,r1,q1⟩=>?_);exact bN (hr pos pins s1 σ H1 _ I1 q1) fun us s2 ⟨xs,H2,I2,r2,q2⟩=>⟨x::xs,H2,I2,.cons r1 r2,q2⟩
def MO(t:TA):TE:=fun σ H Q=>t σ H fun xs H1=>xs.length≤au/\∀p,H1 p=none->Q (.ref p) (upd H1 p (.tup xs))
def MS(t:TA):TE:=fun σ H Q=>t σ H fun xs H1=>xs.length≤au/\∀p,H1 p=none->Q (.ref p) (upd H1 p (.lst xs))
theorem Vg{x1}(h:PA X es t):PE X (.Tuple es x1 pos) (MO t):=by
 intro pins s σ H Q I hq;refine wpAny_Tuple_spliced (bN (h pos pins s σ H _ I hq) fun us s1 ⟨xs,H1,I1,r,z,q⟩=>⟨by rw[←r.length];exact z,?_⟩);have hf:H1 s1.heap.objs.size=none:=I1.bR.fresh (Ψ _);refine⟨.ref s1.heap.objs.size,upd H1 s1.heap.objs.size (.tup xs),I1.laid (t':=s1.toks) (fun b u e=>μ _ e) (Ψ _) ?_,rfl,q _ hf⟩;exact⟨z,us,r,⟨_,ag _ rfl,rfl,⟨_,rfl⟩,rfl⟩⟩
theorem Kr(h:PA X es t):PE X (.List es pos) (MS t):=by
 intro pins s σ H Q I hq;refine wpAny_List_spliced (bN (h pos pins s σ H _ I hq) fun us s1 ⟨xs,H1,I1,r,z,q⟩=>⟨by rw[←r.length];exact z,?_⟩);have hf:H1 s1.heap.objs.size=none:=I1.bR.fresh (Ψ _);refine⟨.ref s1.heap.objs.size,upd H1 s1.heap.objs.size (.lst xs),I1.laid (t':=s1.toks) (fun b u e=>μ _ e) (Ψ _) ?_,rfl,q _ hf⟩;exact⟨z,us,0,r,ag _ rfl⟩
end
abbrev Sp:=List V->Hp->VK->XK->Prop
abbrev rj:=List dm->Hp->θ->XK->ε->θ->Prop
structure v8(P:ah)(w:ax)(K:η)(mg:ξ->Option ε)(base:Φ)(A:aL)(outer:List dm)(s:θ)(H:Hp):Prop where
 frames:A.frames=some outer
 mod:Mod K mg base
 bs:∀b o,base.get? b=some o->s.heap.get? b=some o/\H b=none
 ug:base.objs.size≤s.heap.objs.size
 lW:s.heap.FunFrames base outer
 xB:∀b∈fQ outer,H b=none
 bR:fD P w H s.heap
 bare:kc s.gens
def CE(outer:List dm)(P:ah)(w:ax)(H:Hp)(s:θ)(Q:VK)(u:ε)(s':θ):Prop:=
 ∃v H',s'.os=s.os/\kc s'.gens/\Un (fQ outer) [] H H' s.heap s'.heap/\fD P w H' s'.heap/\RelV v u/\Q v H'
def CR(CX:rj)(outer:List dm)(P:ah)(w:ax)(H:Hp)(s:θ)(Q:VK)(E:XK)(r:Result)(s':θ):Prop:=
 match r with
 |.ok (.ret u)=>CE outer P w H s Q u s'
 |.ok _=>False
 |.error e=>CX outer H s E e s'
structure jn(P:ah)(w:ax)(K:η)(mg:ξ->Option ε)(base:Φ)(CX:rj)(k:Nat)(f:ζ)(fd:ay)(ps:List ξ)(sp:Sp):Prop where
 len:∀vs H Q E,sp vs H Q E->vs.length=ps.length
 run:∀(A:aL) (outer:List dm) (s:θ) (H:Hp) (args:Args) (us:List ε) (vs:List V) (Q:VK) (E:XK),eD k A->v8 P w K mg base A outer s H->oY s fd args (ps.zip us)->bj vs us->sp vs H Q E ->
  iG (model P w) A (.call (.ref f) args) (CR CX outer P w H s Q E) s
theorem jn.mono{P:ah}{w:ax}{K:η}{mg:ξ->Option ε}{base:Φ}{CX:rj}{j k:Nat}{f:ζ}{fd:ay}{ps:List ξ}{sp:Sp}(F:jn P w K mg base CX j f fd ps sp)(h:j≤k):
  jn P w K mg base CX k f fd ps sp:=⟨F.len,fun A outer s H args us vs Q E hr=>F.run A outer s H args us vs Q E (hr.mono h)⟩
theorem jn.imp{P:ah}{w:ax}{K:η}{mg:ξ->Option ε}{base:Φ}{CX:rj}{k:Nat}{f:ζ}{fd:ay}{ps:List ξ}{sp sp':Sp}(F:jn P w K mg base CX k f fd ps sp)
  (h:∀vs H Q E,sp' vs H Q E->sp vs H Q E):jn P w K mg base CX k f fd ps sp':=
 ⟨fun vs H Q E q=>F.len vs H Q E (h _ _ _ _ q),fun A outer s H args us vs Q E hr he hb hv hs=>F.run A outer s H args us vs Q E hr he hb hv (h _ _ _ _ hs)⟩
section
variable {X:Cx} {pins:List (ζ×aK)} {σ:St} {H:Hp} {s s':θ}
theorem Inv.Li(I:Inv X pins σ H s):v8 X.prog X.w X.K X.mg X.base X.A X.stack s H:=
 ⟨I.ok.frames,I.ok.mod,I.bs,av I.ok.ug I.sz,I.stack,I.lA,I.bR,I.bare⟩
theorem Inv.after{Q:VK}{u:ε}(I:Inv X pins σ H s)(h:CE X.stack X.prog X.w H s Q u s'):EP X pins σ Q u s':=by
 obtain⟨v,H',os,bare,un,bR,r,q⟩:=h;obtain⟨hh,g,d,t,os'⟩:=s';obtain rfl:os'=s.os:=os;exact⟨v,H',I.call (h':=hh) (g':=g) (d':=d) (t':=t) (ch:=[]) un bR bare (fun b z=>absurd z (by simp)),r,q⟩
end
def zO(sp:Sp)(dvs:List V)(E:XK)(t:TA):TE:=fun σ H Q=>t σ H fun vs H1=>sp (vs++dvs) H1 Q E
def Binds(K:η)(fd:ay)(ps:List ξ)(ds:List ε):Prop:=
 ∀(s:θ) (us:List ε),K.In s.heap->(us++ds).length=ps.length->oY s fd ⟨us,[]⟩ (ps.zip (us++ds))
theorem Binds.all{K:η}{fd:ay}{ps:List ξ}(h:∀us:List ε,us.length=ps.length->bindArgs fd ⟨us,[]⟩=pure (ps.zip us)):Binds K fd ps []:=fun s us _ hl=>by
 rw[bB] at hl ⊢;exact .of_eq (h us hl)
def md(CX:rj)(X:Cx)(E:XK):Prop:=∀(pins:List (ζ×aK)) (σ:St) (H:Hp) (s:θ) (e:ε) (s':θ),Inv X pins σ H s->CX X.stack H s E e s'->X.xe e s'
section
variable {X:Cx} {CX:rj} {k:Nat} {f C:ζ} {fd:ay} {ps:List ξ} {sp:Sp} {dvs:List V} {ds:List ε} {E:XK} {x m:ξ} {p pos apos:aQ} {e o:υ} {es:List υ} {ta:TE} {t:TA}
theorem Vf{pins:List (ζ×aK)}{σ:St}{H:Hp}{s:θ}{Q:VK}{us:List ε}{vs:List V}(F:jn X.prog X.w X.K X.mg X.base CX k f fd ps sp)(hr:eD k X.A)(hb:Binds X.K fd ps ds)(hd:bj dvs ds)(hx:md CX X E)
  (I:Inv X pins σ H s) (r:bj vs us) (h:sp (vs++dvs) H Q E):ρ (model X.prog X.w) X.A (call (.ref f) us) (EP X pins σ Q) X.xe s:=by
 have r2:bj (vs++dvs) (us++ds):=r.append hd;have hl:(us++ds).length=ps.length:=by rw[←r2.length];exact F.len _ _ _ _ h
 refine iT (fS (F.run X.A X.stack s H ⟨us,[]⟩ (us++ds) (vs++dvs) Q E hr I.Li (hb s us I.ir hl) r2 h) fun r s' hq=>?_);cases r with
 |error e=>exact hx pins σ H s e s' I hq
 |ok fl=>
  cases fl with
  |ret u=>exact I.after hq
  |next=>exact cC hq
  |brk=>exact cC hq
  |cont=>exact cC hq
theorem Ve(F:jn X.prog X.w X.K X.mg X.base CX k f fd ps sp)(hr:eD k X.A)(hg:Gl X x)(hm:X.mg x=some (.ref f))(hk:cp X.K (.ref f)=true)(hb:Binds X.K fd ps ds)(hd:bj dvs ds)(hx:md CX X E)
  (ha:PA X (e::es) t) (hdb:(x==("__debug__":ξ))=false:=by decide) (he:bW (e::es) X.env=(false,eval e X.env)::bW es X.env:=by rfl) (hpl:(backTo pos (bW es X.env)).any (·.1)=false:=by rfl):
  PE X (.Call (.Name x p) (e::es) [] pos) (zO sp dvs E t):=by
 intro pins s σ H Q I h;refine eV (vR I hg hm ?_ hdb);refine ia (h₀:=X.base) I.ok.mod.t9 hk (bN (ha pos pins s σ H _ I h) fun us s1 ⟨vs,H1,I1,r,q⟩=>⟨I1.ir,?_⟩) he hpl;exact Vf F hr hb hd hx I1 r q
end
structure bF(N P:List ξ)(sc:dZ):Prop where
 kind:sc.kind=.function
 co:sc.isCoroutine=false
 gen:sc.isGenerator=false
 nd:N.Nodup
 pre:N.take P.length=P
 par:∀x∈P,sc.names.lookup x=some .local∨sc.names.lookup x=some .cell
 KY:∀y∈sc.names,y.2≠.free
theorem Kq{kindOf:ξ->Option fJ}{x:ξ}:∀{binds:List (ξ×ε)} {m:ξ->Option ε},(∀v,(x,v)∉binds)->bindL kindOf binds m x=m x
 |[],_,_=>rfl
 | (n,v)::r,m,h=>by
  unfold bindL;rw[Kq fun w hw=>h w (Δ _ hw)];split
  ·have:x≠n:=by rintro rfl;exact h v Γ
   simp[this]
  ·rfl
theorem Kp{kindOf:ξ->Option fJ}{x:ξ}:∀{binds:List (ξ×ε)} {m:ξ->Option ε},(∀v,(x,v)∉binds)->bindC kindOf binds m x=m x
 |[],_,_=>rfl
 | (n,v)::r,m,h=>by
  unfold bindC;rw[Kp fun w hw=>h w (Δ _ hw)];split
  ·rfl
  ·have:x≠n:=by rintro rfl;exact h v Γ
   simp[this]
theorem AL{kindOf:ξ->Option fJ}{x:ξ}{v:ε}:∀{P:List ξ} {vs:List ε} {i:Nat} {m:ξ->Option ε},P.Nodup->P[i]?=some x->vs[i]?=some v->kindOf x=some .local ->
  bindL kindOf (P.zip vs) m x=some v
 |[],_,_,_,_,h,_,_=>by simp at h
 |_::_,[],_,_,_,_,h,_=>by simp at h
 |p::P,w::vs,0,m,nd,h1,h2,hk=>by
  simp at h1 h2;subst h1;subst h2;show bindL kindOf ((p,w)::P.zip vs) m p=_;unfold bindL;rw[Kq fun v hv=>(dU.mp nd).1 (fm hv).1,if_pos hk];simp
 |p::P,w::vs,i+1,m,nd,h1,h2,hk=>by
  show bindL kindOf ((p,w)::P.zip vs) m x=_;unfold bindL;exact AL (i:=i) (dU.mp nd).2 (by simpa using h1) (by simpa using h2) hk
theorem Ko{kindOf:ξ->Option fJ}{x:ξ}{v:ε}:∀{P:List ξ} {vs:List ε} {i:Nat} {m:ξ->Option ε},P.Nodup->P[i]?=some x->vs[i]?=some v->kindOf x≠some .local ->
  bindC kindOf (P.zip vs) m x=some v
 |[],_,_,_,_,h,_,_=>by simp at h
 |_::_,[],_,_,_,_,h,_=>by simp at h
 |p::P,w::vs,0,m,nd,h1,h2,hk=>by
  simp at h1 h2;subst h1;subst h2;show bindC kindOf ((p,w)::P.zip vs) m p=_;unfold bindC;rw[Kp fun v hv=>(dU.mp nd).1 (fm hv).1,if_neg hk];simp
 |p::P,w::vs,i+1,m,nd,h1,h2,hk=>by
  show bindC kindOf ((p,w)::P.zip vs) m x=_;unfold bindC;exact Ko (i:=i) (dU.mp nd).2 (by simpa using h1) (by simpa using h2) hk
def start(N:List ξ)(vs:List V):St:=vs.map some++aj (N.length-vs.length) none
def iF(CX:rj)(P:ah)(w:ax)(K:η)(mg:ξ->Option ε)(base:Φ)(N:List ξ)(qual:ξ)(scope:dZ)(f:ζ)(cd:ε)(A:aL)(outer:List dm)(s:θ)(H:Hp)(E:XK):Cx where
 prog:=P
 w:=w
 K:=K
 mg:=mg
 base:=base
 A:=A.deeper (envOfC qual scope s.heap.objs.size f cd)
 N:=N
 s₀:=s
 H₀:=H
 env:=envOfC qual scope s.heap.objs.size f cd
 outer:=outer
 stack:=envOfC qual scope s.heap.objs.size f cd::outer
 ex:=[]
 calm:=true
 fn:=fun _=>true
 pn:=[]
 xe:=fun e s'=>ρ (model P w) (A.deeper (envOfC qual scope s.heap.objs.size f cd)) (leaving (envOfC qual scope s.heap.objs.size f cd) e) (fun _ s''=>CX outer H s E e s'') (fun e' s''=>CX outer H s E e' s'') s'
theorem Kn{sc:dZ}{n:Nat}{x:ξ}(h:sc.names.lookup x=some .cell):∃c,(cellsFrom n sc.names []).lookup x=some c:=by
 have q:=kM sc.names n [] (.inl h);exact jO.mp q
theorem Km{CX:rj}{P:ah}{w:ax}{K:η}{mg:ξ->Option ε}{base:Φ}{N ps:List ξ}{qual:ξ}{scope:dZ}{f:ζ}{cd:ε}{A:aL}{outer:List dm}{s s1:θ}{H:Hp}{E:XK}{us:List ε}{vs:List V}
  (S:bF N ps scope) (hd:A.handled=none) (e0:v8 P w K mg base A outer s H) (hl:vs.length=ps.length) (r:bj vs us)
  (x:InCallC s s.heap.objs.size (bindL (envOfC qual scope s.heap.objs.size f cd).kindOf (ps.zip us) fun _=>none) (cellsFrom (s.heap.objs.size+1) scope.names []) (bindC (envOfC qual scope s.heap.objs.size f cd).kindOf (ps.zip us) fun _=>none) s1):
  Inv (iF CX P w K mg base N qual scope f cd A outer s H E) [] (start N vs) H s1:=by
 have hpl:ps.length≤N.length:=by have:=congrArg fe S.pre;rw[eR] at this;lia
 obtain⟨h1,tk,rfl,hk⟩:=x.done;have noA:∀b:ζ,b∉(iF CX P w K mg base N qual scope f cd A outer s H E).ex:=fun b z=>absurd (show b∈([]:List ζ) from z) (by simp);refine⟨⟨e0.mod,S.kind,rfl,rfl,Ψ _,fun y z c h1 h2=>?_,fun y hy=>?_,fun y c _ h=>?_,fun _=>hd,sU e0.frames,.inr ⟨rfl,rfl⟩,fun b z=>absurd z (noA b),e0.bs,e0.ug,fun b _ _=>noA b,fun b z=>absurd z (noA b),e0.lW,e0.xB⟩,
  rfl,e0.bare,Un.kept hk,⟨_,x.toInCall.ns,fun i y v h1 h2 h3=>?_⟩,fun y c h=>⟨_,x.cell y c h⟩,e0.bR.fresh (Ψ _),fun y c h=>?_,fun p hp=>absurd (show p∈([]:List (ζ×aK)) from hp) (by simp),e0.bR.kept hk,?_⟩
 ·exact name_of_addr x.apart (fE h1) (fE h2)
 ·have hy:scope.names.lookup y=some .cell∨scope.names.lookup y=some .free:=hy;rcases hy with hy|hy
  ·exact Kn hy
  ·exact absurd rfl (S.KY _ (fE hy))
 ·exact pS (x.above y c (fE h))
 ·have hi:i<vs.length:=by
   unfold start at h2;by_cases hi:i<vs.length
   ·exact hi
   ·rw[eO (by simpa using hi)] at h2;rw[fA] at h2;split at h2<;>cases h2
  have ha:vs[i]?=some v:=by
   unfold start at h2;rw[e7 (by simpa using hi),aE] at h2;cases e:vs[i]? with
   |none=>rw[e] at h2;cases h2
   |some a=>rw[e] at h2;cases h2;rfl
  obtain⟨u,hu,rv⟩:=r.get ha;have hp:ps[i]?=some y:=by
   rw[←S.pre,pX (by lia)];exact h1
  have ndP:ps.Nodup:=by rw[←S.pre];exact S.nd.sublist (oB _ _)
  refine⟨u,rv,?_⟩;rcases S.par y (bZ hp) with k|k
  ·exact .inl ⟨k,AL ndP hp hu k⟩
  ·obtain⟨c,e⟩:=Kn (n:=s.heap.objs.size+1) k;refine .inr ⟨.inl k,c,e,?_⟩;have q:=x.cell y c e;rw[Ko ndP hp hu (by show scope.names.lookup y≠_;rw[k];decide)] at q;exact q
 ·exact e0.bR.fresh (pS (x.above y c (fE h)))
 ·unfold start;show _=N.length;rw[Ω,π,gk];lia
theorem Kl{CX:rj}{P:ah}{w:ax}{K:η}{mg:ξ->Option ε}{base:Φ}{k:Nat}{f:ζ}{name qual:ξ}{params:Arguments}{body:List aR}{scope:dZ}{dV kV doc pm cdv ct oc:ε}{an od:Option ζ}
  {osl:Array (Option ε)} {N ps:List ξ} {sp:Sp} (lk:K.lookup f=some ⟨oc,od,.func (gL name qual params body scope dV kV doc pm an cdv ct),osl⟩) (iL:j7 K cdv qual=true) (S:bF N ps scope)
  (len:∀vs H Q E,sp vs H Q E->vs.length=ps.length)
  (hU:∀(A:aL) (outer:List dm) (s:θ) (H:Hp) (vs:List V) (Q:VK) (E:XK),eD k (A.deeper (envOfC qual scope s.heap.objs.size f cdv))->sp vs H Q E ->
   ∃t,nB (iF CX P w K mg base N qual scope f cdv A outer s H E) body t/\t { nx:=fun _ H'=>Q .aC H',rt:=Q } (start N vs) H):
  jn P w K mg base CX (k+1) f (gL name qual params body scope dV kV doc pm an cdv ct) ps sp:=by
 refine⟨len,fun A outer s H args us vs Q E hr e0 hb r uc=>?_⟩;have hl:=len _ _ _ _ uc;have KX:K.In s.heap:=e0.mod.t9.keeps fun b o e=>(e0.bs b o e).1;have lim:s.heap.NoLimit:=e0.mod.nolimit.keeps fun b o e=>(e0.bs b o e).1;have hkind:∀y∈ps.zip us,scope.names.lookup y.1=some .local∨(scope.names.lookup y.1=some .cell/\((cellsFrom (s.heap.objs.size+1) scope.names []).lookup y.1).isSome=true):=fun⟨n,v⟩ hy=>by
  rcases S.par n (fm hy).1 with q|q
  ·exact .inl q
  ·exact .inr ⟨q,kM _ _ _ (.inl q)⟩
 refine lF hr.depth (KX _ _ lk) rfl S.co S.gen rfl (nG KX iL) (hb _ _ _ _ ?_);refine i9 S.kind hkind fun env he s1 x=>?_;subst he;refine⟨lim.keeps x.toInCall.keep,codeAny_func ?_⟩;obtain⟨t,ht,hq⟩:=hU A outer s H vs Q E (hr.deeper _) uc;have I:Inv (iF CX P w K mg base N qual scope f cdv A outer s H E) [] (start N vs) H s1:=Km S hr.hd e0 hl r x;refine cO (ht [] s1 (start N vs) H _ I hq) (fun fl s' hs=>?_) fun e s' hs=>hs;have fin:∀{σ':St} {H':Hp} {v:V} {u:ε},Inv (iF CX P w K mg base N qual scope f cdv A outer s H E) [] σ' H' s'->RelV v u->Q v H'->CE outer P w H s Q u s':=
  fun {σ' H' v u} J rv q=>⟨v,H',J.os,J.bare,J.base,J.bR,rv,q⟩
 cases fl with
 |ret u=>
  obtain⟨v,σ',H',J,rv,q⟩:=hs;exact fin J rv q
 |next=>
  obtain⟨σ',H',J,q⟩:=hs;exact fin (v:=V.aC) (u:=aU) J rfl q
 |brk=>
  obtain⟨_,_,_,q⟩:=hs;exact cC q
 |cont=>
  obtain⟨_,_,_,q⟩:=hs;exact cC q
end L2
namespace L2
open PySem PySem.Spec PyProof.Rows
section
variable {X:Cx} {x:ξ} {p pos:aQ} {e:υ} {es:List υ} {t:TA} {id T:String} {r:List V->Hp->VK->Prop}
def B6(r:List V->Hp->VK->Prop)(t:TA):TE:=fun σ H Q=>t σ H fun vs H1=>r vs H1 Q
theorem qJ(hc:jy X (.builtin id) r)(hg:Gl X x)(hm:X.mg x=none)(hv:gK x=some (.builtin id))(ha:PA X (e::es) t)(hn:x≠"__name__":=by decide)(hdb:(x==("__debug__":ξ))=false:=by decide)
  (he:bW (e::es) X.env=(false,eval e X.env)::bW es X.env:=by rfl) (hpl:(backTo pos (bW es X.env)).any (·.1)=false:=by rfl):PE X (.Call (.Name x p) (e::es) [] pos) (B6 r t):=by
 intro pins s σ H Q I h;refine eV (yF I hg hm hv ?_ hn hdb);exact PyProof.Rows.callWith_builtin1 (bN (ha pos pins s σ H _ I h) fun us s1 ⟨vs,H1,I1,r1,q1⟩=>hc pins s1 σ H1 vs us Q I1 r1 q1) he hpl
theorem D7(hc:jy X (.type T) r)(hg:Gl X x)(hm:X.mg x=none)(hv:gK x=some (.type T))(ha:PA X (e::es) t)(hn:x≠"__name__":=by decide)(hdb:(x==("__debug__":ξ))=false:=by decide)
  (he:bW (e::es) X.env=(false,eval e X.env)::bW es X.env:=by rfl) (hpl:(backTo pos (bW es X.env)).any (·.1)=false:=by rfl):PE X (.Call (.Name x p) (e::es) [] pos) (B6 r t):=by
 intro pins s σ H Q I h;refine eV (yF I hg hm hv ?_ hn hdb);exact iO (bN (ha pos pins s σ H _ I h) fun us s1 ⟨vs,H1,I1,r1,q1⟩=>hc pins s1 σ H1 vs us Q I1 r1 q1) he hpl
end
end L2
namespace HT
open PySem PyProof.Rows
def lexLt:List Int->List Int->Bool
 |[],[]=>false
 |[],_::_=>true
 |_::_,[]=>false
 |x::xs,y::ys=>if x=y then lexLt xs ys else decide (x<y)
theorem Vd(x y:Int)(xs ys:List Int):lexLt (x::xs) (y::ys)=if x=y then lexLt xs ys else decide (x<y):=rfl
theorem Vc:lexLt [] []=false:=rfl
theorem Vb(y:Int)(ys:List Int):lexLt [] (y::ys)=true:=rfl
theorem U9(x:Int)(xs:List Int):lexLt (x::xs) []=false:=rfl
theorem U8(A:aL)(s:θ)(a:Int)(t:Tok)(c:Int)(u:Tok):∃e,SeqAt.EqAt A s (.int a t) (.int c u) e/\(e=true↔a=c):=
 ⟨(a==c),SeqAt.EqAt.int_int a t c u,by simp⟩
theorem U7(A:aL)(s:θ)(a:Int)(t:Tok)(c:Int)(u:Tok)(prog:ah)(w:ax)(E:ε->θ->Prop)(Q:ε->θ->Prop)(h:Q (.bool (decide (a<c))) s):
  ρ (model prog w) A (richCompare .Lt (.int a t) (.int c u)) Q E s:=
 (PyProof.Rows.lt_int h:ρ (model prog w) A (compareOp .Lt (.int a t) (.int c u)) Q E s)
section
open PySem.SeqAt
open PySem.AutoSeq1 (wpAny_loadPart')
open PySem.MeetsSeq PySem.MeetsSeq2 PySem.MeetsSeq3
theorem U6(l b:ζ)(items items2:Array ε)(n n2:Nat)(dd dd2:Option ζ)(sl sl2:Array (Option ε))(ns ms:List Int)(hi:gG items.toList ns)(hj:gG items2.toList ms):
  Meets (df.«tuple.__lt__» ⟨[.ref l,.ref b],[]⟩)
   (fun _ R s=>s.heap.get? l=some { cls:=.type "tuple",dict:=dd,data:=.seq items n,slots:=sl }/\s.heap.get? b=some { cls:=.type "tuple",dict:=dd2,data:=.seq items2 n2,slots:=sl2 } ∧
    R (.ok (.ret (.bool (lexLt ns ms)))) s):=
 .of_wp fun prog w A R s h=>by
  obtain⟨hp,g,d,tk,os⟩:=s;obtain⟨hl,hb,h⟩:=h;have f2:=AutoSeq1.sub_tuple_tuple;have z1:items.size=ns.length:=by rw[←hi.length];simp
  have z2:items2.size=ms.length:=by rw[←hj.length];simp
  wp_walk using wpAny_loadPart' hl,wpAny_loadPart' hb,lr _ (fun rest b s'=>b.1=none/\s'=⟨hp,g,d,tk,os⟩/\∃(vs ws:List ε) (ns' ms':List Int),rest=vs.zip ws ∧
   gG vs ns'/\gG ws ms'/\ns'.length+items2.size=ms'.length+items.size/\R (.ok (.ret (.bool (lexLt ns' ms')))) ⟨hp,g,d,tk,os⟩) _
  case turn=>
   rintro⟨y,x⟩ rest b s' ⟨hb',rfl,vs,ws,ns',ms',hz,hvi,hwi,hlen,hR⟩;cases hvi with
   |nil=>rw[List.zip_nil_left] at hz;cases hz
   |cons a t hvi'=>
    cases hwi with
    |nil=>rw[List.zip_nil_right] at hz;cases hz
    |cons c u hwi'=>
     rw[jQ] at hz;injection hz with hyx hrest;injection hyx with hy hx;subst hy hx;rw[Vd] at hR;simp only[aB] at hlen;obtain⟨e,he,hiff⟩:=U8 A.in1 ⟨hp,g,d,tk,os⟩ a t c u;refine δ (he prog w _ _ ?_);cases e with
     |true=>
      rw[if_pos (hiff.mp rfl)] at hR;wp_walk;exact⟨rfl,rfl,_,_,_,_,hrest,hvi',hwi',by lia,hR⟩
     |false=>
      rw[if_neg (fun q=>absurd (hiff.mpr q) az)] at hR;have hri:=U7 A.in1 ⟨hp,g,d,tk,os⟩ a t c u prog w;wp_walk using hri;exact⟨_,rfl,by simpa using hR⟩
  case fin=>
   rintro⟨b1,b2⟩ s' ⟨hb',rfl,vs,ws,ns',ms',hz,hvi,hwi,hlen,hR⟩;simp only at hb';subst hb';have hv:lexLt ns' ms'=decide (items.size<items2.size):=by
    cases hvi with
    |nil=>
     cases hwi with
     |nil=>
      simp only[fo] at hlen;rw[Vc];exact (decide_eq_false (by lia)).symm
     |cons c u hw=>
      simp only[fo,aB] at hlen;rw[Vb];exact (decide_eq_true (by lia)).symm
    |cons a t hv=>
     cases hwi with
     |nil=>
      simp only[fo,aB] at hlen;rw[U9];exact (decide_eq_false (by lia)).symm
     |cons c u hw=>
      rw[jQ] at hz;cases hz
   rw[hv] at hR;wp_walk;exact⟨_,rfl,by simpa [df.Tuple.tupleCompareSizes] using hR⟩
  case h=>
   exact⟨rfl,rfl,items.toList,items2.toList,ns,ms,rfl,hi,hj,by lia,h⟩
end
section
variable {prog:ah} {w:ax} {A:aL} {E:ε->θ->Prop} {s:θ}
theorem A6{l b:ζ}{items items2:Array ε}{ns ms:List Int}{Q:ε->θ->Prop}(hl:oQ s.heap l items)(hb:oQ s.heap b items2)(hi:gG items.toList ns)(hj:gG items2.toList ms)
  (hu:A.units<cLine) (h:Q (.bool (lexLt ns ms)) s):ρ (model prog w) A (compareOp .Lt (.ref l) (.ref b)) Q E s:=by
 obtain⟨⟨cls,dd,data,sl⟩,ho,hc,n,hd⟩:=id hl;obtain⟨⟨cls2,dd2,data2,sl2⟩,ho2,hc2,n2,hd2⟩:=id hb;simp only at hc hd hc2 hd2;subst hc hd hc2 hd2;exact richCompare_meets_room (op:=.Lt) ⟨_,ho,rfl⟩ ⟨_,ho2,rfl⟩ PySem.F.slot_tuple_lt PySem.F.entry_tuple_lt (PySem.F.args_tuple_lt_2 _ _) (U6 l b items items2 n n2 dd dd2 sl sl2 ns ms hi hj)
  ⟨ho,ho2,show eF (lexLt ns ms)≠ε.notImplemented/\Q (.bool (lexLt ns ms)) s from⟨(fun x=>nomatch x),h⟩⟩ hu
theorem FV{t b:ζ}{vs ws:List ε}{Q:ε->θ->Prop}(ht:oQ s.heap t vs.toArray)(hb:oQ s.heap b ws.toArray)(hv:vs≠[])
  (h1:ws=[]->Q (.ref t) s) (h2:ws≠[]->Q (.ref s.heap.objs.size) { s with heap:=s.heap.push { cls:=.type "tuple",data:=.seq (vs++ws).toArray }})
  (hsz:vs.length+ws.length≤au):ρ (model prog w) A (binaryOp .Add (.ref t) (.ref b)) Q E s:=by
 obtain⟨⟨cls,dd,data,sl⟩,ho,hc,n,hd⟩:=id ht;obtain⟨⟨cls2,dd2,data2,sl2⟩,ho2,hc2,n2,hd2⟩:=id hb;simp only at hc hd hc2 hd2;subst hc hd hc2 hd2;have e:vs.toArray++ws.toArray=(vs++ws).toArray:=by simp
 by_cases hw:ws=[]
 ·exact pL ⟨_,ho,rfl⟩ ⟨_,ho2,rfl⟩ pK tf kN kj (jM _ _)
   (tuple_addW1 t b vs.toArray ws.toArray n n2 dd dd2 sl sl2 (by simpa using hv) (by simp[hw])) ⟨ho,ho2,h1 hw⟩
 ·refine pL ⟨_,ho,rfl⟩ ⟨_,ho2,rfl⟩ pK tf kN kj (jM _ _)
   (tuple_addW2 t b vs.toArray ws.toArray n n2 dd dd2 sl sl2 (by simpa using hv) (by simpa using hw) (by rw[ψ,ψ];exact hsz)) ⟨ho,ho2,?_⟩
  rw[e];exact h2 hw
def cu(n d:Nat):Option Int->Nat
 |none=>d
 |some v=>if v<0 then (v+(n:Int)).toNat else min v.toNat n
theorem CF(n d:Nat):cu n d none=d:=rfl
theorem FN(n d k:Nat):cu n d (some (k:Int))=min k n:=by
 show (if (k:Int)<0 then ((k:Int)+(n:Int)).toNat else min (k:Int).toNat n)=min k n;rw[if_neg (by lia),cB]
theorem U5(n d:Nat)(hd:d≤n)(o:Option Int):cu n d o≤n:=by
 cases o with
 |none=>exact hd
 |some v=>
  show (if v<0 then (v+(n:Int)).toNat else min v.toNat n)≤n;by_cases hv:v<0
  ·rw[if_pos hv];lia
  ·rw[if_neg hv];exact Nat.min_le_right _ _
theorem Kk(v:Int)(n d:Nat):(if v<0 then max (v+(n:Int)) 0 else min v (n:Int))=((cu n d (some v):Nat):Int):=by
 show (if v<0 then max (v+(n:Int)) 0 else min v (n:Int))=(((if v<0 then (v+(n:Int)).toNat else min v.toNat n):Nat):Int);by_cases hv:v<0
 ·simp only[if_pos hv];lia
 ·simp only[if_neg hv];lia
theorem U4(lo hi:Option Int)(n:Nat):jC lo hi 1 (n:Int)=(((cu n 0 lo:Nat):Int),((cu n n hi:Nat):Int)):=by
 have h1:¬((1:Int)<0):=by lia
 unfold jC;simp only[h1,if_false];refine Prod.ext ?_ ?_
 ·cases lo with
  |none=>rfl
  |some v=>exact Kk v n 0
 ·cases hi with
  |none=>rfl
  |some v=>exact Kk v n n
theorem U3(i j:Nat):gC (i:Int) (j:Int) 1=j-i:=by
 unfold gC;have h1:(1:Int) > 0:=by lia
 simp only[h1,if_true,Int.ediv_one];split<;>lia
theorem Kj{v:ε}{o:Option Int}{Q:Option Int->θ->Prop}(p:mv v o)(h:Q o s):ρ (model prog w) A (df.Slice.slicePartIndex v) Q E s:=by
 cases p with
 |none=>exact slicePart_none h
 |int i t=>exact slicePart_int h
theorem pb{sl:ζ}{vl vu:ε}{lo hi:Option Int}{n:Nat}{Q:Int×Int×Nat->θ->Prop}(hs:s.heap.IsSliceOf sl vl vu .none)(pl:mv vl lo)(pu:mv vu hi)
  (h:Q (((cu n 0 lo:Nat):Int),1,cu n n hi-cu n 0 lo) s):ρ (model prog w) A (oh (.ref sl) (pure (n:Int))) Q E s:=by
 obtain⟨os,hos,hcs,hds⟩:=id hs;unfold oh df.Slice.sliceFields;refine δ (δ (bG hos hds (x:=vl) rfl (δ (bG hos hds (x:=vu) rfl (δ (bG hos hds (x:=.none) rfl (ι ?_)))))));refine δ (slicePart_none ?_);show ρ _ _ (if ((1:Int)==0)=true then _ else _) _ _ s;rw[if_neg (by decide)];refine δ (Kj pl (δ (Kj pu (δ (ι ?_)))));show ρ _ _ (match jC lo hi 1 (n:Int) with|(lo,hi)=>pure (lo,(1:Int),gC lo hi 1)) _ _ s
 rw[U4 lo hi n];show ρ _ _ (pure (((cu n 0 lo:Nat):Int),(1:Int),gC ((cu n 0 lo:Nat):Int) ((cu n n hi:Nat):Int) 1)) _ _ s;rw[U3];exact ι h
theorem U2(xs:Array ε)(i k:Nat):((aA k).filterMap fun (m:Nat)=>xs[((i:Int)+(m:Int)*1).toNat]?).toArray=((xs.toList.drop i).take k).toArray:=by
 have e:(fun (m:Nat)=>xs[((i:Int)+(m:Int)*1).toNat]?)=fun m=>xs[i+m]?:=by
  funext m;have:((i:Int)+(m:Int)*1).toNat=i+m:=by lia
  rw[this]
 rw[e];have:=pick_run xs i k;rw[uB] at this;have e2:((fun x=>xs[x]?) ∘ fun x=>i+x)=fun m=>xs[i+m]?:=rfl;rw[e2] at this;rw[this]
theorem uW{t sl:ζ}{items:Array ε}{vl vu:ε}{lo hi:Option Int}{Q:ε->θ->Prop}(ht:oQ s.heap t items)(hs:s.heap.IsSliceOf sl vl vu .none)(pl:mv vl lo)(pu:mv vu hi)
  (hw:¬(cu items.size 0 lo=0/\cu items.size items.size hi=items.size))
  (h:Q (.ref s.heap.objs.size) { s with heap:=s.heap.push { cls:=.type "tuple",data:=.seq ((items.toList.drop (cu items.size 0 lo)).take (cu items.size items.size hi-cu items.size 0 lo)).toArray }})
  (hsz:items.size≤au):ρ (model prog w) A (getItem (.ref t) (.ref sl)) Q E s:=by
 have htake:sizeOk (.seq ((items.toList.drop (cu items.size 0 lo)).take (cu items.size items.size hi-cu items.size 0 lo)).toArray):=by
  show ((items.toList.drop (cu items.size 0 lo)).take (cu items.size items.size hi-cu items.size 0 lo)).toArray.size≤au;rw[ψ,eR,pW,fH];lia
 have hj:cu items.size items.size hi≤items.size:=U5 _ _ (Ψ _) hi;obtain⟨os,hos,hcs,hds⟩:=id hs;have hTs:s.TypeIs (.ref sl) "slice":=⟨os,hos,hcs⟩;unfold getItem
 try with_reducible refine bO ?_
 first|refine δ (ι ?_)|skip
 refine δ (wpAny_sequenceKey ht.typeIs (by decide) ?_);refine δ (ck (name:=fk "__getitem__") ht.typeIs cT
  (bX cT ht.typeIs entry_tuple_getitem ?_ (args_tuple_getitem _ _)))
 show ρ _ _ (og (.ref t) >>= _) _ _ s;refine δ (tupleItemsOf_ ht ?_);refine δ (jL hTs ?_);rw[if_pos (by decide)];refine δ (pb hs pl pu ?_);have hno:¬((((cu items.size 0 lo:Nat):Int)==0&&(1:Int)==1&&(cu items.size items.size hi-cu items.size 0 lo)==items.size)=true):=by
  intro q;rw[cM,cM] at q;have q1:((cu items.size 0 lo:Nat):Int)=0:=eq_of_beq q.1.1;have q2:cu items.size items.size hi-cu items.size 0 lo=items.size:=eq_of_beq q.2;exact hw ⟨by lia,by lia⟩
 show ρ _ _ (if (((cu items.size 0 lo:Nat):Int)==0&&(1:Int)==1&&(cu items.size items.size hi-cu items.size 0 lo)==items.size)=true then _ else _) _ _ s;rw[if_neg hno,U2]
 first
  |exact δ (m:=gS _) (bC (ι ⟨_,rfl,ι h⟩) htake)
  |exact δ (m:=gS _) (bC (δ (ι (ι ⟨_,rfl,ι h⟩))) htake)
  |exact δ (δ (m:=gS _) (bC (ι (ι ⟨_,rfl,ι h⟩)) htake))
  |exact δ (δ (m:=gS _) (bC (ι ⟨_,rfl,ι h⟩) htake))
end
end HT
namespace L2
open PySem PySem.Spec PyProof.Rows
abbrev TO:=St->Hp->(Option Int->Hp->Prop)->Prop
def PO(X:Cx)(e:Option υ)(t:TO):Prop:=
 ∀(pins:List (ζ×aK)) (s:θ) (σ:St) (H:Hp) (Q:Option Int->Hp->Prop),Inv X pins σ H s->t σ H Q ->
  ρ (model X.prog X.w) X.A (evalPart e X.env) (fun u s'=>∃o H',Inv X pins σ H' s'/\mv u o/\Q o H') X.xe s
def FK:TO:=fun _ H Q=>Q none H
def LI(t:TE):TO:=fun σ H Q=>t σ H fun x H1=>∃i,x=.int i/\Q (some i) H1
theorem intsAre_of{ns:List Int}:∀{us:List ε},bj (ns.map V.int) us->gG us ns:=by
 induction ns with
 |nil=>intro us r;rw[ux] at r;cases r;exact .nil
 |cons n ns ih=>
  intro us r;rw[ak] at r;cases r with
  |cons r1 r2=>
   obtain⟨t,e⟩:=r1;subst e;exact .cons n t (ih r2)
section
variable {X:Cx} {e:υ} {te:TE} {lo hi:Option υ} {tl th:TO} {pos p2:aQ}
theorem U1:PO X none FK:=by
 intro pins s σ H Q I h;rw[evalPart_none];exact ι ⟨none,H,I,.none,h⟩
theorem U0(h:PE X e te):PO X (some e) (LI te):=by
 intro pins s σ H Q I hw;rw[evalPart_some];refine bN (h pins s σ H _ I hw) fun u s1 ⟨x,H1,I1,r1,q1⟩=>?_;obtain⟨i,rfl,q⟩:=q1;obtain⟨t,rfl⟩:=r1;exact⟨some i,H1,I1,.int i t,q⟩
def xE(X:Cx)(r:V->Option Int->Option Int->Hp->VK->Prop):Prop:=
 ∀(pins:List (ζ×aK)) (s:θ) (σ:St) (H:Hp) (x:V) (v vl vu:ε) (lo hi:Option Int) (sl:ζ) (Q:VK),Inv X pins σ H s->RelV x v->s.heap.IsSliceOf sl vl vu .none->mv vl lo->mv vu hi->r x lo hi H Q ->
  ∃T id,typeLookup (.type T) "__getitem__" = pure (some (.builtin id))/\s.TypeIs v T/\ρ (model X.prog X.w) X.A (getItem v (.ref sl)) (EP X pins σ Q) X.xe s
theorem xE.or{r r':V->Option Int->Option Int->Hp->VK->Prop}(h:xE X r)(h':xE X r'):xE X (fun x lo hi H Q=>r x lo hi H Q∨r' x lo hi H Q):=by
 intro pins s σ H x v vl vu lo hi sl Q I rx hs pl pu q;rcases q with q|q
 ·exact h pins s σ H x v vl vu lo hi sl Q I rx hs pl pu q
 ·exact h' pins s σ H x v vl vu lo hi sl Q I rx hs pl pu q
def YI(r:V->Option Int->Option Int->Hp->VK->Prop)(te:TE)(tl th:TO):TE:=fun σ H Q=>te σ H fun x H1=>tl σ H1 fun l H2=>th σ H2 fun u H3=>r x l u H3 Q
theorem UZ{r:V->Option Int->Option Int->Hp->VK->Prop}(hr:xE X r)(he:PE X e te)(hl:PO X lo tl)(hu:PO X hi th):PE X (.Subscript e (.Slice lo hi none p2) pos) (YI r te tl th):=by
 intro pins s σ H Q I h;refine Subscript_ (bN (he pins s σ H _ I h) fun v s1 ⟨x,H1,I1,r1,q1⟩=>?_);refine wpAny_Slice (bN (hl pins s1 σ H1 _ I1 q1) fun vl s2 ⟨l,H2,I2,pl,q2⟩=>bN (hu pins s2 σ H2 _ I2 q2) fun vu s3 ⟨u,H3,I3,pu,q3⟩=>?_);rw[evalPart_none];refine ι ?_;have I4:Inv X pins σ H3 { s3 with heap:=s3.heap.push { cls:=.type "slice",data:=.fields #[vl,vu,.none]}}:=I3.kept (t':=s3.toks) fun b ob q=>μ _ q;obtain⟨T,id,hT,ht,hg⟩:=hr pins { s3 with heap:=s3.heap.push { cls:=.type "slice",data:=.fields #[vl,vu,.none]}} σ H3 x v vl vu l u s3.heap.objs.size Q I4 r1 (Φ.IsSliceOf.new ..) pl pu q3;show ρ (model X.prog X.w) X.A (subscriptTail e (.Slice lo hi none p2) v (.ref s3.heap.objs.size)) (EP X pins σ Q) X.xe { s3 with heap:=s3.heap.push { cls:=.type "slice",data:=.fields #[vl,vu,.none]}};exact tail_any (ops:=[.ref s3.heap.objs.size,v]) ht hT hg (by with_unfolding_all rfl)
def uf(xs:List V)(lo hi:Option Int):List V:=(xs.drop (HT.cu xs.length 0 lo)).take (HT.cu xs.length xs.length hi-HT.cu xs.length 0 lo)
theorem Ki(xs:List V)(lo hi:Option Int):(uf xs lo hi).length≤xs.length:=by
 unfold uf;rw[eR,pW];lia
def MZ(K:η):V->Option Int->Option Int->Hp->VK->Prop:=fun x lo hi H Q=>∃a xs,x=.ref a/\cG K H a xs ∧
 ¬(HT.cu xs.length 0 lo=0/\HT.cu xs.length xs.length hi=xs.length)/\∀p,H p=none->Q (.ref p) (upd H p (.tup (uf xs lo hi)))
theorem Gn:xE X (MZ X.K):=by
 intro pins s σ H x v vl vu lo hi sl Q I rx hs pl pu h;obtain⟨a,xs,rfl,hx,hw,q⟩:=h;cases rx;obtain⟨its,r,ht,hz⟩:=I.tuple hx;have hlen:its.toArray.size=xs.length:=by rw[ψ];exact r.length.symm
 refine⟨"tuple",_,cT.lookup,ht.typeIs,?_⟩;refine HT.uW ht hs pl pu (by rw[hlen];exact hw) ?_ (by rw[hlen];exact hz);rw[hlen];refine⟨.ref s.heap.objs.size,_,I.laid (t':=s.toks) (o:=.tup (uf xs lo hi)) (fun b ob q=>μ _ q) (Ψ _) ?_,rfl,q _ (I.bR.fresh (Ψ _))⟩;exact⟨av (Ki xs lo hi) hz,_,(r.drop (HT.cu xs.length 0 lo)).take (HT.cu xs.length xs.length hi-HT.cu xs.length 0 lo),kI.new _ _⟩
def Gs(K:η):R2:=fun x y H Q=>∃a b ns ms,x=.ref a/\y=.ref b/\cG K H a (ns.map V.int)/\cG K H b (ms.map V.int)/\Q (.bl (HT.lexLt ns ms)) H
theorem UY(hu:X.A.units<cLine):fi X (compareOp .Lt) (Gs X.K):=by
 intro pins s σ H x y v u Q I rx ry h;obtain⟨a,b,ns,ms,rfl,rfl,ha,hb,q⟩:=h;cases rx;cases ry;obtain⟨its,r1,p1,_⟩:=I.tuple ha;obtain⟨its2,r2,p2,_⟩:=I.tuple hb;have i1:gG its.toArray.toList ns:=intsAre_of r1;have i2:gG its2.toArray.toList ms:=intsAre_of r2;exact HT.A6 p1 p2 i1 i2 hu ⟨.bl (HT.lexLt ns ms),H,I,rfl,q⟩
def Fb(K:η):R2:=fun x y H Q=>∃a b xs ys,x=.ref a/\y=.ref b/\cG K H a xs/\cG K H b ys/\xs≠[]/\xs.length+ys.length≤au ∧
 (ys=[]->Q (.ref a) H)/\(ys≠[]->∀p,H p=none->Q (.ref p) (upd H p (.tup (xs++ys))))
theorem bj.xn{xs:List V}{us:List ε}(r:bj xs us):us=[]↔xs=[]:=by
 cases r with
 |nil=>simp
 |cons _ _=>simp
theorem FQ:fi X (binaryOp .Add) (Fb X.K):=by
 intro pins s σ H x y v u Q I rx ry h;obtain⟨a,b,xs,ys,rfl,rfl,ha,hb,hx,hz,q1,q2⟩:=h;cases rx;cases ry;obtain⟨its,r1,p1,_⟩:=I.tuple ha;obtain⟨its2,r2,p2,_⟩:=I.tuple hb;refine HT.FV p1 p2 (fun z=>hx (r1.xn.mp z)) (fun z=>⟨.ref a,H,I,rfl,q1 (r2.xn.mp z)⟩) (fun z=>?_) (by rw[←r1.length,←r2.length];exact hz);refine⟨.ref s.heap.objs.size,_,I.laid (t':=s.toks) (o:=.tup (xs++ys)) (fun b ob q=>μ _ q) (Ψ _) ?_,rfl,q2 (fun w=>z (r2.xn.mpr w)) _ (I.bR.fresh (Ψ _))⟩;exact⟨by rw[Ω];exact hz,_,r1.append r2,kI.new _ _⟩
end
end L2
namespace L2
open PySem PySem.Spec PyProof.Rows
def sV(n:Nat)(i:Int):Option Nat:=if 0≤i then (if i<n then some i.toNat else none) else if -(n:Int)≤i then some (i+n).toNat else none
def lE{α:Type}(xs:List α)(i:Int):Option α:=(sV xs.length i).bind fun j=>xs[j]?
theorem Kh{n:Nat}{i:Int}{j:Nat}(h:sV n i=some j):seqIndex? i n=some j/\j<n/\-(n:Int)≤i/\i<n:=by
 unfold sV at h;by_cases h0:0≤i
 ·rw[if_pos h0] at h;by_cases h1:i<n
  ·rw[if_pos h1] at h;have e:i.toNat=j:=aJ h;exact⟨by rw[qM h0 h1,e],by lia,by lia,h1⟩
  ·rw[if_neg h1] at h;cases h
 ·rw[if_neg h0] at h;by_cases h1:-(n:Int)≤i
  ·rw[if_pos h1] at h;have e:(i+n).toNat=j:=aJ h;exact⟨by rw[seqIndex_neg (by lia) h1,e],by lia,h1,by lia⟩
  ·rw[if_neg h1] at h;cases h
theorem AK{α:Type}{xs:List α}{i:Int}{v:α}(h:lE xs i=some v):∃j,seqIndex? i xs.length=some j/\xs[j]?=some v/\j<xs.length/\-(xs.length:Int)≤i/\i<xs.length:=by
 unfold lE at h;cases e:sV xs.length i with
 |none=>rw[e] at h;cases h
 |some j=>
  rw[e] at h;obtain⟨h1,h2,h3,h4⟩:=Kh e;exact⟨j,h1,h,h2,h3,h4⟩
theorem D6{α:Type}{xs:List α}{j:Nat}{v:α}(h:xs[j]?=some v):lE xs (j:Int)=some v:=by
 have hj:j<xs.length:=(aM.mp h).1;have e:sV xs.length (j:Int)=some j:=by
  unfold sV;rw[if_pos (by lia),if_pos (by lia)];simp
 unfold lE;rw[e];exact h
def rb(b:υ):Prop:=∀o i,subscripted b false o i=operate [o,i] (getItem o i)
def wB(X:Cx)(r:R2):Prop:=
 ∀(value slice:υ) (pins:List (ζ×aK)) (s:θ) (σ:St) (H:Hp) (x y:V) (v u:ε) (Q:VK),Inv X pins σ H s->RelV x v->RelV y u->r x y H Q ->
  subscripted slice false v u=operate [v,u] (getItem v u)->ρ (model X.prog X.w) X.A (subscriptTail value slice v u) (EP X pins σ Q) X.xe s
def Cw(X:Cx)(id:String)(r:V->List V->Hp->VK->Prop):Prop:=
 ∀(pins:List (ζ×aK)) (s:θ) (σ:St) (H:Hp) (x:V) (xs:List V) (v:ε) (us:List ε) (Q:VK),Inv X pins σ H s->RelV x v->bj xs us->r x xs H Q ->
  ρ (model X.prog X.w) X.A (call (.builtin id) (v::us)) (EP X pins σ Q) X.xe s
section
variable {X:Cx} {a b:υ} {ta tb:TE} {pos:aQ}
theorem wB.or{r r':R2}(h:wB X r)(h':wB X r'):wB X (fun x y H Q=>r x y H Q∨r' x y H Q):=by
 intro value slice pins s σ H x y v u Q I rx ry q hs;rcases q with q|q
 ·exact h value slice pins s σ H x y v u Q I rx ry q hs
 ·exact h' value slice pins s σ H x y v u Q I rx ry q hs
theorem Kg{r:R2}(hr:wB X r)(ha:PE X a ta)(hb:PE X b tb)(hs:rb b):PE X (.Subscript a b pos) (B5 r ta tb):=by
 intro pins s σ H Q I h;exact Subscript_ (ET ha hb I h fun v u s2 x y H2 I2 rx ry q=>hr a b pins s2 σ H2 x y v u Q I2 rx ry q (hs _ _))
def CI(K:η):R2:=fun x y H Q=>∃p xs i v,x=.ref p/\y=.int i/\eU K H p xs/\lE xs i=some v/\Q v H
def Gw(K:η):R2:=fun x y H Q=>∃p xs i v,x=.ref p/\y=.int i/\cG K H p xs/\lE xs i=some v/\Q v H
def Gx:R2:=fun x y H Q=>∃z i c,x=.str z/\y=.int i/\z.length≤au/\lE z.cps.toList i=some c/\Q (.str ⟨#[c]⟩) H
theorem FT:wB X (CI X.K):=by
 intro value slice pins s σ H x y v u Q I rx ry h hs;obtain⟨p,xs,i,z,rfl,rfl,hq,he,q⟩:=h;cases rx;obtain⟨t,rfl⟩:=ry;obtain⟨its,r,pl,hz⟩:=I.list hq;obtain⟨j,h1,h2,h3,h4,h5⟩:=AK he;obtain⟨w,ew,rw'⟩:=r.get h2;have hl:=r.length;have hn:=pk;have fin:EP X pins σ Q w s:=⟨z,H,I,rw',q⟩;by_cases h0:0≤i
 ·have hj:i.toNat=j:=by
   rw[qM h0 h5] at h1;exact aJ h1
  exact item_listR pl.isList h0 (by lia) (by rw[hj];simpa using ew) fin hs
 ·have hj:(i+(its.toArray.size:Int)).toNat=j:=by
   rw[seqIndex_neg (by lia) h4] at h1;rw[ψ,←hl];exact aJ h1
  exact subscriptTail_builtinR (x:=w) pl.isList.typeIs slot_list_getitem.lookup
   (wpAny_getItem_list_neg (Q:=fun r s'=>r=w/\EP X pins σ Q r s') pl.isList (by lia) (by rw[ψ]<;>lia) (by lia) (by rw[hj];simpa using ew) ⟨rfl,fin⟩) hs
theorem Lc:wB X (Gw X.K):=by
 intro value slice pins s σ H x y v u Q I rx ry h hs;obtain⟨p,xs,i,z,rfl,rfl,hq,he,q⟩:=h;cases rx;obtain⟨t,rfl⟩:=ry;obtain⟨its,r,pl,hz⟩:=I.tuple hq;obtain⟨j,h1,h2,h3,h4,h5⟩:=AK he;obtain⟨w,ew,rw'⟩:=r.get h2;have hl:=r.length;have hn:=pk;have fin:EP X pins σ Q w s:=⟨z,H,I,rw',q⟩;exact subscriptTail_builtinR (x:=w) pl.typeIs slot_tuple_getitem.lookup
  (getItem_tuple (j:=j) (Q:=fun r s'=>r=w/\EP X pins σ Q r s') pl (by lia) (by lia) (by rw[ψ,←hl];exact h1) (by simpa using ew) ⟨rfl,fin⟩) hs
theorem UX:wB X Gx:=by
 intro value slice pins s σ H x y v u Q I rx ry h hs;obtain⟨z,i,c,rfl,rfl,hz,he,q⟩:=h;obtain⟨t,rfl⟩:=rx;obtain⟨t',rfl⟩:=ry;obtain⟨j,h1,h2,h3,h4,h5⟩:=AK he;have hl:z.cps.toList.length=z.length:=by simp[ξ.length]
 rw[hl] at h1 h4 h5;have hn:=pk;exact tail_any (typeIs_str s z t) slot_str_getitem.lookup (getItem_str (c:=c) (by
  have e1:decide (i < -(2^63:Int))=false:=decide_eq_false (by lia);have e2:decide (i≥2^63)=false:=decide_eq_false (by lia);rw[e1,e2,Bool.or_false]) (by rw[h1];simpa using h2) ⟨.str ⟨#[c]⟩,H,I.tok _,⟨_,rfl⟩,q⟩) hs
def Mz(K:η):R2:=fun x y H Q=>CI K x y H Q∨Gw K x y H Q∨Gx x y H Q
theorem Kf:wB X (Mz X.K):=FT.or (Lc.or UX)
theorem UW(its:List ε)(n j:Nat)(u:ε):bA (·.setIfInBounds j u) { cls:=.type "list",data:=.seq its.toArray n }={ cls:=.type "list",data:=.seq (its.set j u).toArray n }:=by
 simp[bA]
theorem Inv.lst{pins:List (ζ×aK)}{σ:St}{H:Hp}{s:θ}{p:ζ}{xs:List V}(I:Inv X pins σ H s)(h:H p=some (.lst xs)):
  ∃(its:List ε) (n:Nat),bj xs its/\s.heap.get? p=some { cls:=.type "list",data:=.seq its.toArray n }/\xs.length≤au:=by
 obtain⟨z,its,n,r,e⟩:=I.bR p _ h;exact⟨its,n,r,e,z⟩
theorem Inv.K9{pins:List (ζ×aK)}{σ:St}{H:Hp}{s:θ}{p:ζ}{xs ys:List V}{its its':List ε}{n n':Nat}{f:aK->aK}(I:Inv X pins σ H s)(h:H p=some (.lst xs))
  (ho:s.heap.get? p=some { cls:=.type "list",data:=.seq its.toArray n }) (hf:f { cls:=.type "list",data:=.seq its.toArray n }={ cls:=.type "list",data:=.seq its'.toArray n' }) (r:bj ys its') (hz:ys.length≤au) (t:Nat):
  Inv X pins σ (upd H p (.lst ys)) { s with heap:=s.heap.update p f,toks:=t }:=by
 have e:(s.heap.update p f).get? p=some { cls:=.type "list",data:=.seq its'.toArray n' }:=by
  rw[cg f ho (by rw[hf]<;>rfl),hf]
 refine I.write (x:=p) (e:=p) (by rw[h];trivial) (.inl rfl) (fun b u hb q=>(bH _ _ (de hb)).trans q) ⟨_,e⟩ ?_;exact⟨hz,its',n',r,e⟩
def E8:V->V->V->Hp->(Hp->Prop)->Prop:=fun o i v H Q=>∃p xs k j,o=.ref p/\i=.int k/\H p=some (.lst xs)/\sV xs.length k=some j/\Q (upd H p (.lst (xs.set j v)))
theorem set_list:EV X E8:=by
 intro pins s σ H o i v ov iv u Q I ro ri rv h;obtain⟨p,xs,k,j,rfl,rfl,hp,hj,q⟩:=h;cases ro;obtain⟨t,rfl⟩:=ri;obtain⟨its,n,r,ho,hz⟩:=I.lst hp;obtain⟨h1,h2,h3,h4⟩:=Kh hj;have hl:=r.length;have hn:=pk;have I':Inv X pins σ (upd H p (.lst (xs.set j v))) { s with heap:=s.heap.update p (bA (·.setIfInBounds j u))}:=
  I.K9 hp ho (UW its n j u) (r.set rv j) (by rw[List.length_set];exact hz) s.toks
 by_cases h0:0≤k
 ·have hk:k.toNat=j:=by
   rw[qM h0 h4] at h1;exact aJ h1
  exact PySem.W.ki_setAt ho h0 (by lia) (by rw[ψ,←hl];exact h4) (by rw[hk];exact⟨_,I',q⟩)
 ·have hk:(k+(its.toArray.size:Int)).toNat=j:=by
   rw[seqIndex_neg (by lia) h3] at h1;rw[ψ,←hl];exact aJ h1
  exact PySem.W.ki_setBack ho (by lia) (by rw[ψ,←hl];exact h3) (by lia) (by rw[hk];exact⟨_,I',q⟩)
theorem UU(lo hi:Option Int)(n:Nat):(sliceBounds lo hi none n).1=((HT.cu n 0 lo:Nat):Int)/\(sliceBounds lo hi none n).2.1=((HT.cu n n hi:Nat):Int)/\(sliceBounds lo hi none n).2.2=1:=by
 refine⟨?_,?_,rfl⟩
 ·cases lo with
  |none=>simp[sliceBounds,HT.cu]
  |some i=>
   simp only[sliceBounds,HT.cu,v9,show (1:Int) > 0 by decide,if_true];by_cases h:i<0
   ·simp only[h,if_true]<;>lia
   ·simp only[h,if_false]<;>lia
 ·cases hi with
  |none=>simp[sliceBounds,HT.cu]
  |some i=>
   simp only[sliceBounds,HT.cu,v9,show (1:Int) > 0 by decide,if_true];by_cases h:i<0
   ·simp only[h,if_true]<;>lia
   ·simp only[h,if_false]<;>lia
theorem UT(its:List ε)(lo hi:Option Int):slicePick its.toArray lo hi none=((its.drop (HT.cu its.length 0 lo)).take (HT.cu its.length its.length hi-HT.cu its.length 0 lo)).toArray:=by
 obtain⟨h1,h2,h3⟩:=UU lo hi its.toArray.size;unfold slicePick;rw[h1,h2,h3];simp only[sliceRange_one,pick_run,ψ]<;>rfl
def M0(K:η):V->Option Int->Option Int->Hp->VK->Prop:=fun x lo hi H Q=>∃a xs,x=.ref a/\eU K H a xs/\∀p,H p=none->Q (.ref p) (upd H p (.lst (uf xs lo hi)))
theorem US:xE X (M0 X.K):=by
 intro pins s σ H x v vl vu lo hi sl Q I rx hs pl pu h;obtain⟨a,xs,rfl,hx,q⟩:=h;cases rx;obtain⟨its,r,ht,hz⟩:=I.list hx;have hlen:=r.length;refine⟨"list",_,slot_list_getitem.lookup,ht.isList.typeIs,?_⟩;refine wpAny_getItem_list_slice ht.isList hs pl pu .none (by simp) ?_ (by rw[ψ]<;>lia)
 rw[UT,←hlen];refine⟨.ref s.heap.objs.size,_,I.laid (t':=s.toks) (o:=.lst (uf xs lo hi)) (fun b ob q=>μ _ q) (Ψ _) ?_,rfl,q _ (I.bR.fresh (Ψ _))⟩;exact⟨av (Ki xs lo hi) hz,_,0,(r.drop (HT.cu xs.length 0 lo)).take (HT.cu xs.length xs.length hi-HT.cu xs.length 0 lo),ag _ rfl⟩
theorem Vt:jy X (.builtin "len") (fun xs H Q=>∃p ys,xs=[.ref p]/\(eU X.K H p ys∨cG X.K H p ys)/\Q (.int ys.length) H):=by
 intro pins s σ H xs us Q I r h;obtain⟨p,ys,rfl,hq,q⟩:=h;obtain⟨u,rfl,rx⟩:=vals1 r;cases rx;have hn:=pk;rcases hq with hq|hq
 ·obtain⟨its,r',pl,hz⟩:=I.list hq;have hlen:=r'.length;exact Calls.call_len_list pl.isList (by simp only[ψ]<;>lia) ⟨.int ys.length,H,I.tok _,⟨s.toks+1,by rw[ψ,hlen]⟩,q⟩
 ·obtain⟨its,r',pl,hz⟩:=I.tuple hq;have hlen:=r'.length;exact len_tuple pl (by simp only[ψ]<;>lia) ⟨.int ys.length,H,I.tok _,⟨s.toks+1,by rw[ψ,hlen]⟩,q⟩
theorem Vs:jy X (.type "tuple") (fun xs H Q=>∃p ys,xs=[.ref p]/\((eU X.K H p ys/\∀l,H l=none->Q (.ref l) (upd H l (.tup ys)))∨(cG X.K H p ys/\Q (.ref p) H))):=by
 intro pins s σ H xs us Q I r h;obtain⟨p,ys,rfl,h⟩:=h;obtain⟨u,rfl,rx⟩:=vals1 r;cases rx;rcases h with⟨hq,q⟩|⟨hq,q⟩
 ·obtain⟨its,r',pl,hz⟩:=I.list hq;have hlen:=r'.length;refine call_tuple_list pl.isList (fun h' kp=>?_) (by simp only[ψ]<;>lia)
  have I1:Inv X pins σ H { s with heap:=h' }:=I.kept (t':=s.toks) kp;have I2:Inv X pins σ (upd H h'.objs.size (.tup ys)) { s with heap:=h'.push { cls:=.type "tuple",data:=.seq its.toArray }}:=
   I1.laid (t':=s.toks) (fun b o e=>μ _ e) (Ψ _) (show cH X.prog X.w _ _ _ (.tup ys) from⟨hz,its,r',kI.new _ _⟩)
  exact⟨.ref h'.objs.size,_,I2,rfl,q _ (I1.bR.fresh (Ψ _))⟩
 ·obtain⟨its,r',pl,hz⟩:=I.tuple hq;exact call_tuple_same pl ⟨.ref p,H,I,rfl,q⟩
def Mw(K:η)(T:String)(x:V)(H:Hp):Prop:=match x with
 |.str _=>T="str"
 |.int _=>T="int"
 |.ref p=>(T="list"/\∃xs,eU K H p xs)∨(T="tuple"/\∃o,K.lookup p=some o/\o.cls=.type "tuple"/\o.dict=none) ∨
   (T="dict"/\((∃kvs,H p=some (.dK kvs))∨∃kvs,H p=some (.dT kvs)))∨(T="set"/\∃S n,H p=some (.set S n))
 |_=>False
theorem Vr{pins:List (ζ×aK)}{σ:St}{H:Hp}{s:θ}{T:String}{x:V}{v:ε}(I:Inv X pins σ H s)(r:RelV x v)(ty:Mw X.K T x H):
  s.TypeIs v T/\∀a,v=.ref a->∃ob,s.heap.get? a=some ob/\ob.dict=none:=by
 cases x with
 |str z=>
  obtain⟨t,rfl⟩:=r;cases (show T="str" from ty);exact⟨typeIs_str s z t,fun _ e=>nomatch e⟩
 |int i=>
  obtain⟨t,rfl⟩:=r;cases (show T="int" from ty);exact⟨typeIs_int s i t,fun _ e=>nomatch e⟩
 |ref p=>
  cases r;rcases ty with⟨rfl,xs,hq⟩|⟨rfl,o,hk,hc,hd⟩|⟨rfl,hk⟩|⟨rfl,S,n,hk⟩
  ·obtain⟨its,_,pl,_⟩:=I.list hq;refine⟨pl.isList.typeIs,fun a e=>?_⟩;cases e;obtain⟨o,n,e,c,hd,_⟩:=pl;exact⟨o,e,hd⟩
  ·refine⟨⟨o,I.ir p o hk,hc⟩,fun a e=>?_⟩;cases e;exact⟨o,I.ir _ o hk,hd⟩
  ·have z:∃o,s.heap.get? p=some o/\o.ExactDict:=by
    rcases hk with⟨kvs,hk⟩|⟨kvs,hk⟩
    ·obtain⟨_,_,_,_,o,_,_,e,ex,_⟩:=I.bR p _ hk;exact⟨o,e,ex⟩
    ·obtain⟨_,_,_,_,o,_,_,e,ex,_⟩:=I.bR p _ hk;exact⟨o,e,ex⟩
   obtain⟨o,e,ex⟩:=z;refine⟨⟨o,e,ex.1⟩,fun a e2=>?_⟩;cases e2;exact⟨o,e,ex.2.1⟩
  ·obtain⟨o,_,_,_,e,ex,_⟩:=I.bR p _ hk;refine⟨⟨o,e,ex.1⟩,fun a e2=>?_⟩;cases e2;exact⟨o,e,ex.2.1⟩
 |_=>exact cC ty
def Gm(K:η)(T:String)(r:V->List V->Hp->VK->Prop)(to:TE)(t:TA):TE:=fun σ H Q=>to σ H fun x H1=>Mw K T x H1/\t σ H1 fun xs H2=>r x xs H2 Q
variable {o e:υ} {es:List υ} {to:TE} {t:TA} {name:ξ} {apos cpos:aQ} {T id:String} {r:V->List V->Hp->VK->Prop}
theorem Vq(pa:PlainAttrs T)(slot:Slot T name id)(hty:typeOf (.builtin id)=pure (.type "method_descriptor"))(hm:Cw X id r)(ho:PE X o to)(ha:PA X (e::es) t)
  (jZ:attributeBase o name X.env (eval o X.env)=eval o X.env:=by rfl)
  (Er:((backTo cpos (bW (e::es) X.env)).all (fun x=>!x.1)&&(backToKw cpos (keywordEach [] X.env)).all (fun x=>x.1.isSome)
   && decide ((e::es).length+([]:List rL).length+(if ([]:List rL).isEmpty then 0 else 1)<30))=true:=by rfl)
  (oG:(apos.endLine==cpos.line)=true:=by rfl) (hs:bW (e::es) X.env=(false,eval e X.env)::bW es X.env:=by rfl) (hplain:(backTo cpos (bW es X.env)).any (·.1)=false:=by rfl):
  PE X (.Call (.Attribute o name apos) (e::es) [] cpos) (Gm X.K T r to t):=by
 intro pins s σ H Q I h;refine wpAny_Call_method_late jZ Er oG rfl (bN (ho pins s σ H _ I h) fun v s1 ⟨x,H1,I1,r1,ty,q1⟩=>?_);obtain⟨h1,h2⟩:=Vr I1 r1 ty;refine⟨T,id,pa,slot,hty,h1,h2,?_⟩;have hA:=ha cpos pins s1 σ H1 _ I1 q1;rw[hs] at hA ⊢;refine kS (by show (false||(backTo cpos (bW es X.env)).any (·.1))=false;rw[hplain]<;>rfl) (sS ?_)
 exact bN hA fun us s2 ⟨vs,H2,I2,r2,q2⟩=>hm pins s2 σ H2 x vs v us Q I2 r1 r2 q2
/- xs.append(e),list.index on a module's tuple .. are Cw facts of 06m -/
end
end L2
namespace L2
open PySem PySem.Spec PyProof.Rows
def Lp(X:Cx)(id:String)(r:V->List V->Hp->VK->Prop):Prop:=
 ∀(pins:List (ζ×aK)) (s:θ) (σ:St) (H:Hp) (x:V) (xs:List V) (v:ε) (us:List ε) (Q:VK),Inv X pins σ H s->RelV x v->bj xs us->r x xs H Q ->
  ρ (model X.prog X.w) X.A (call (.builtin id) (v::us)) (EP X pins σ Q) X.xe s
theorem bj.one:∀{x:V} {us:List ε},bj [x] us->∃u,us=[u]/\RelV x u
 |_,_,.cons r .nil=>⟨_,rfl,r⟩
theorem bj.zero:∀{us:List ε},bj [] us->us=[]
 |_,.nil=>rfl
theorem bj.eraseIdx:∀{xs:List V} {us:List ε} (i:Nat),bj xs us->bj (xs.eraseIdx i) (us.eraseIdx i)
 |_,_,_,.nil=>.nil
 |_,_,0,.cons _ t=>t
 |_,_,i+1,.cons r t=>.cons r (bj.eraseIdx i t)
theorem bj.rep{xs:List V}{us:List ε}(h:bj xs us):∀k:Nat,bj (aj k xs).flatten (aj k us).flatten
 |0=>.nil
 |k+1=>by
  rw[di,di,gx,gx];exact bj.append h (bj.rep h k)
theorem D5{α:Type}:∀(l:List α) (i:Nat),(l.eraseIdx i).length≤l.length
 |[],_=>Ψ _
 |_::_,0=>qP _
 |_::r,i+1=>Nat.succ_le_succ (D5 r i)
theorem foldl_rep(its:List ε):∀(k:Nat) (acc:List ε),
  wN (fun x1 x2=>x1++x2) acc.toArray (aj k its.toArray)=(acc++(aj k its).flatten).toArray
 |0,acc=>by simp
 |k+1,acc=>by
  have e:acc.toArray++its.toArray=(acc++its).toArray:=by simp
  have e2:(acc++its)++(aj k its).flatten=acc++(aj (k+1) its).flatten:=by
   rw[di,gx,dO]
  rw[←e2,←foldl_rep its k (acc++its),←e,di,qr]
section
variable {X:Cx} {pins:List (ζ×aK)} {σ:St} {H:Hp} {s:θ} {l b:ζ} {xs ys zs:List V}
theorem Inv.Em{its its':List ε}{n:Nat}{f:Array ε->Array ε}{t':Nat}(I:Inv X pins σ H s)(hH:H l=some (.lst xs))
  (e:s.heap.get? l=some { cls:=.type "list",data:=.seq its.toArray n }) (hf:f its.toArray=its'.toArray) (hv:bj ys its') (hz:ys.length≤au):
  Inv X pins σ (upd H l (.lst ys)) { s with heap:=s.heap.update l (bA f),toks:=t' }:=by
 have q:=PySem.IsL.update e f;rw[hf] at q;refine I.write (x:=l) (e:=l) (by rw[hH];exact trivial) (.inl rfl) (fun b' u hb hu=>(bH s.heap (bA f) (de hb)).trans hu) ⟨_,q⟩ ?_;exact⟨hz,its',_,hv,q⟩
theorem Inv.A8{its:List ε}{t':Nat}(I:Inv X pins σ H s)(hv:bj ys its)(hz:ys.length≤au):
  Inv X pins σ (upd H s.heap.objs.size (.lst ys)) { s with heap:=s.heap.push { cls:=.type "list",data:=.seq its.toArray },toks:=t' }:=
 I.laid (fun _ _ q=>μ _ q) (Ψ _) ⟨hz,its,0,hv,ag _ rfl⟩
theorem Inv.fresh(I:Inv X pins σ H s):H s.heap.objs.size=none:=I.bR.fresh (Ψ _)
theorem Inv.sg(I:Inv X pins σ H s)(hH:H l=some (.lst xs)):xs.length≤au/\∃(its:List ε) (n:Nat),bj xs its/\xs.length=its.length/\s.heap.get? l=some { cls:=.type "list",data:=.seq its.toArray n }:=by
 obtain⟨z,its,n,r,e⟩:=I.bR l _ hH;exact⟨z,its,n,r,r.length,e⟩
theorem yQ{n:Nat}(h:n≤au):gT n=false:=by
 unfold gT;exact decide_eq_false (by lia)
end
section
variable {X:Cx}
def zx:V->List V->Hp->VK->Prop:=fun x vs H Q=>∃l xs y,x=.ref l/\vs=[y]/\H l=some (.lst xs)/\xs.length<au/\Q .aC (upd H l (.lst (xs++[y])))
theorem D4:Lp X "list.append" zx:=by
 intro pins s σ H x vs v us Q I rx rv h;obtain⟨l,xs,y,rfl,rfl,hH,hz,q⟩:=h;cases rx;obtain⟨u,rfl,ru⟩:=rv.one;obtain⟨z,its,n,r,hl,e⟩:=I.sg hH;refine j5 F.slot_list_append ⟨_,e,rfl⟩ F.entry_list_append (F.args_list_append_2 _ _) (PySem.list_append l its.toArray n u (by rw[ψ];lia)) ⟨e,?_⟩;refine⟨.aC,_,I.Em (its':=its++[u]) hH e (by simp) (r.append (.cons ru .nil)) ?_,rfl,q⟩;rw[Ω,dY];lia
def FO:V->List V->Hp->VK->Prop:=fun x vs H Q=>∃l b xs zs,x=.ref l/\vs=[.ref b]/\H l=some (.lst xs)/\H b=some (.lst zs)/\xs.length+zs.length≤au/\Q .aC (upd H l (.lst (xs++zs)))
theorem Ze:Lp X "list.extend" FO:=by
 intro pins s σ H x vs v us Q I rx rv h;obtain⟨l,b,xs,zs,rfl,rfl,hH,hB,hz,q⟩:=h;cases rx;obtain⟨u,rfl,ru⟩:=rv.one;cases ru;obtain⟨z,its,n,r,hl,e⟩:=I.sg hH;obtain⟨z2,its2,n2,r2,hl2,e2⟩:=I.sg hB;have hsz:its.toArray.size+its2.toArray.size≤au:=by rw[ψ,ψ];lia
 have hlong:¬(!its.toArray.isEmpty&&gT (its.toArray.size+its2.toArray.size))=true:=by
  rw[yQ hsz,Bool.and_false];exact az
 refine j5 F.slot_list_extend ⟨_,e,rfl⟩ F.entry_list_extend (F.args_list_extend_2 _ _)
  (AutoSeq1.list_extend_list_list_0 l its.toArray n b its2.toArray n2 hlong (by rw[ψ];lia) (by lia)) ⟨e,e2,?_⟩
 refine⟨.aC,_,I.Em (its':=its++its2) hH e (by simp) (r.append r2) ?_,rfl,q⟩;rw[Ω];lia
def Ce:V->List V->Hp->VK->Prop:=fun x vs H Q=>∃l xs i k y,x=.ref l/\vs=[.int i]/\H l=some (.lst xs)/\-(2^63)≤i/\i<2^63/\seqIndex? i xs.length=some k/\xs[k]?=some y/\Q y (upd H l (.lst (xs.eraseIdx k)))
theorem Ke:Lp X "list.pop" Ce:=by
 intro pins s σ H x vs v us Q I rx rv h;obtain⟨l,xs,i,k,y,rfl,rfl,hH,h1,h2,hk,hy,q⟩:=h;cases rx;obtain⟨u,rfl,ru⟩:=rv.one;obtain⟨t,rfl⟩:=ru;obtain⟨z,its,n,r,hl,e⟩:=I.sg hH;obtain⟨w,hw,rw'⟩:=r.get hy;refine j5 F.slot_list_pop ⟨_,e,rfl⟩ F.entry_list_pop (F.args_list_pop_2 _ _)
  (MeetsSeq.list_pop_at l its.toArray n i t k w (fitsIndex_both h1 h2) (by rw[ψ,←hl];exact hk) (by rw[←aY];exact hw) (by rw[ψ];lia)) ⟨e,?_⟩
 refine⟨y,_,I.Em (its':=its.eraseIdx k) hH e ?_ (r.eraseIdx k) ?_,rw',q⟩
 ·show its.toArray.eraseIdxIfInBounds k=(its.eraseIdx k).toArray;rw[List.eraseIdxIfInBounds_toArray]
 ·have:=D5 xs k;lia
def Gz:R2:=fun x y H Q=>∃l b xs zs,x=.ref l/\y=.ref b/\H l=some (.lst xs)/\H b=some (.lst zs)/\xs.length+zs.length≤au/\∀p,H p=none->Q (.ref p) (upd H p (.lst (xs++zs)))
theorem KQ:fi X (binaryOp .Add) Gz:=by
 intro pins s σ H x y v u Q I rx ry h;obtain⟨l,b,xs,zs,rfl,rfl,hH,hB,hz,q⟩:=h;cases rx;cases ry;obtain⟨z,its,n,r,hl,e⟩:=I.sg hH;obtain⟨z2,its2,n2,r2,hl2,e2⟩:=I.sg hB;refine PySem.P.add_list e e2 ?_ (by rw[ψ,ψ];lia);have ea:its.toArray++its2.toArray=(its++its2).toArray:=by simp
 rw[ea];exact⟨.ref _,_,I.A8 (t':=s.toks) (r.append r2) (by rw[Ω];lia),rfl,q _ I.fresh⟩
def Gr:R2:=fun x y H Q=>∃l k xs,x=.ref l/\y=.int k/\H l=some (.lst xs)/\-(2^63)≤k/\k<2^63/\xs.length*k.toNat≤au ∧
 ∀p,H p=none->Q (.ref p) (upd H p (.lst (aj k.toNat xs).flatten))
theorem len_rep{α:Type}(xs:List α)(k:Nat):(aj k xs).flatten.length=k*xs.length:=by
 induction k with
 |zero=>simp
 |succ k ih=>rw[di,gx,Ω,ih,uu,Nat.add_comm]
theorem Vp:fi X (binaryOp .Mult) Gr:=by
 intro pins s σ H x y v u Q I rx ry h;obtain⟨l,k,xs,rfl,rfl,hH,h1,h2,hz,q⟩:=h;cases rx;obtain⟨t,rfl⟩:=ry;obtain⟨z,its,n,r,hl,e⟩:=I.sg hH;have hlen:its.toArray.size*k.toNat≤au:=by rw[ψ,←hl];exact hz
 have hcap:¬its.toArray.size*k.toNat > (2^63-1) / 8:=by
  have:(au:Nat)≤(2^63-1) / 8:=by decide
  lia
 have hfit:¬(!df.List.listFitsIndex k)=true:=by
  rw[fitsIndex_both h1 h2];exact az
 have hlong:¬gT (its.toArray.size*k.toNat)=true:=by
  rw[yQ hlen];exact az
 have hnew:wN (fun x1 x2=>x1++x2) #[] (aj (if its.toArray.isEmpty=true then 0 else k.toNat) its.toArray)=(aj k.toNat its).flatten.toArray:=by
  have f0:∀m:Nat,wN (fun x1 x2=>x1++x2) #[] (aj m its.toArray)=(aj m its).flatten.toArray:=fun m=>by
   have:=foldl_rep its m [];rw[cX] at this;exact this
  rw[f0];cases its with
  |nil=>simp
  |cons a r'=>rw[if_neg (by simp)]
 refine wpAny_binaryOp_repeat_ref (T:="list") (U:="int") (by decide) ⟨_,e,rfl⟩ (fun s'=>typeIs_int s' k t) noFill_list_mul F.fills_int_mul F.slot_int_rmul repeat_list F.slot_int_index.lookup
  (j5 F.slot_int_rmul (typeIs_int s k t) F.entry_int_rmul (F.args_int_rmul_2 _ _) (int___rmul___int_list k t l its.toArray n)
   ⟨e,rfl,⟨_,e,rfl⟩,j5 F.slot_list_mul ⟨_,e,rfl⟩ F.entry_list_mul (F.args_list_mul_2 _ _) (AutoListH.list___mul___list_int_3 l its.toArray n k t hfit hcap hlong) ⟨e,?_⟩⟩)
 rw[hnew];exact⟨.ref _,_,I.A8 (t':=s.toks) (r.rep k.toNat) (by rw[len_rep,gM];exact hz),rfl,q _ I.fresh⟩
end
end L2
namespace MK
open PySem PySem.W PySem.Calls PyProof.Rows
theorem Vo{P:Params}{h:Φ}:∀(ns:List Int) (vs:List ε),WellAll P h vs (ns.map WData.int)->gG vs ns:=by
 intro ns
 induction ns with
 |nil=>
  intro vs w;rw[ux] at w;cases w;exact .nil
 |cons n ns ih=>
  intro vs w;rw[ak] at w;cases w with
  |cons a b=>
   cases a;exact .cons _ _ (ih _ b)
theorem Vn{l:OpenLaw}{n:Nat}(hn:l.most=some n){P:Params}{h:Φ}{args:List WData}{vals:List ε}
  (Bb:l.row.toRowW.claim.pre args=true) (hwl:WellAll P h vals args):
  ∃a vs ns,vals=[aF a]/\args=[WData.list (ns.map WData.int)]/\h.get? a=some { cls:=.type "list",data:=.seq vs.toArray }/\gG vs ns/\ns.length≤n:=by
 have hsh:WShape.hasAll [] args [.list .int]=true:=(pre_splitW Bb).1;have hc:l.pre.holds [] { args:=args }=true:=(pre_splitW Bb).2;obtain⟨d,r,rfl,h1,h2⟩:=hasAllW_cons hsh;obtain rfl:=hasAllW_nil h2;obtain⟨xs,rfl,h3⟩:=hasW_list h1;obtain⟨ns,rfl⟩:=items_int h3;have hlen:ns.length≤n:=by
  unfold OpenLaw.pre at hc;have h4:(WTm.not (.lt (.lit (.int (n:Int))) (.len (.arg 0)))).holds [] { args:=[.list (ns.map .int)]}=true:=by
   have h4:=(holds_andW hc).1;rw[hn] at h4;exact h4
  have h5:=condW_of h4 (w_not (w_lt w_lit (w_len_list (w_arg rfl))));rw[π] at h5;refine pR fun q=>?_;have q':(n:Int)<((ns.length:Nat):Int):=by lia
  first
   | (rw[decide_eq_true q'] at h5;exact absurd h5 (by decide))
   | (simp at h5;lia)
 cases hwl with
 |cons w1 w2=>
  cases w2;cases w1 with
  |list ho hall=>exact⟨_,_,ns,rfl,rfl,ho,Vo ns _ hall,hlen⟩
theorem Vm(l:OpenLaw)(args:List WData):l.row.toRowW.claim.post args (.bool true) args=true:=
 postW_of (r:=l.row.toRowW) (X:=(true==true))
  (show WShape.has [] (.bool true) .bool=true by first|rfl|decide|simp[WShape.has,WShape.arms,WShape.armsAll])
  (show (WTm.eq .res (.lit (.bool true))).value [] { args:=args,res:=some (.bool true),after:=args }=some (.bool (true==true)) from w_eq_bool (w_res rfl) w_lit) rfl
theorem zq{l:OpenLaw}{n:Nat}{q:ah}{loose:List ξ}{XP:(ξ->Option ε)->Φ->Prop}{YP:ax->Φ->Prop}{d:DefRec}
  (hn:l.most=some n) (hdf:d.params.defaults=[])
  (call:∀(w:ax) (s₀ s₁:θ) (mg mb:ξ->Option ε) (fa:ζ) (o:aK) (pm cd doc:ε) (a:ζ) (vs:List ε) (ns:List Int),
   Ground q loose [] XP w s₀ mg mb s₁.heap->YP w s₁.heap ->
   s₁.heap.get? fa=some o->o.data=.func (docDef d.name d.params d.body d.scope pm cd doc)->s₁.heap.CodeRec cd d.name->mg d.name=some (.ref fa) ->
   s₁.heap.get? a=some { cls:=.type "list",data:=.seq vs.toArray }->gG vs ns->ns.length≤n->s₁.gens = #[] ->
   iG (model l.prog w) callerA (.call (.ref fa) ⟨[.ref a],[]⟩) (fun r s'=>r=.ok (.ret (.bool true))/\OldK s₁.heap s'.heap/\s'.os=s₁.os/\kc s'.gens) s₁):
  WalkO q loose XP YP l.row.toRowW d [] (fun f vs=>wJ f vs):=by
 intro w s₀ s₁ mg mb G Y fa o pm cd doc dV kV ho hd iL hD hmg hg args vals as Bb hlay sX hwl hlo;obtain rfl:dV=.none:=Dflts.none hD hdf;obtain rfl:kV=.none:=Dflts.noKw hD;obtain⟨a,vs,ns,rfl,rfl,hobj,hints,hlen⟩:=Vn hn Bb hwl;refine enter_call (fS (call w s₀ s₁ mg mb fa o pm cd doc a vs ns G Y ho (fd_plain hd) iL hmg hobj hints hlen hg) fun r s' hq=>?_);obtain⟨rfl,h2,h3,h4⟩:=hq;exact⟨.inl ⟨.bool true,.bool true,[],rfl,fun _=>rfl,.bool true,Vm l _,fun _=>⟨u6,fun _ hm=>(nomatch hm)⟩⟩,h2,h3,h4⟩
end MK
namespace L2
open PySem PySem.Spec PyProof.Rows
theorem Kd:∀{vs:List ε} {ns:List Int},gG vs ns->bj (ns.map V.int) vs
 |_,_,.nil=>.nil
 |_,_,.cons n t h=>.cons ⟨t,rfl⟩ (Kd h)
def BU(H:Hp):Prop:=∀b,H b=none∨∃o xs,H b=some (.eI o (.lst xs))
theorem Vl{P:ah}{w:ax}{K:η}{mg mb:ξ->Option ε}{CX:rj}{k:Nat}{fa a:ζ}{fd:ay}{x:ξ}{sp:Sp}{s₁:θ}{vs:List ε}{ns:List Int}
  (KX:K.In s₁.heap) (hns:s₁.heap.Ns aN mg) (hb:s₁.heap.Ns builtinsNs mb) (hbb:∀x:ξ,x≠"__name__"->mb x=gK x) (hlim:s₁.heap.NoLimit) (hg:s₁.gens = #[])
  (ha:s₁.heap.get? a=some { cls:=.type "list",data:=.seq vs.toArray }) (hi:gG vs ns) (hl:ns.length≤au) (hr:eD k callerA)
  (F:∀base:Φ,K.In base->base.Ns aN mg->jn P w K mg base CX k fa fd [x] sp) (hbind:∀(s:θ) (u:ε),oY s fd ⟨[u],[]⟩ [(x,u)])
  (uc:∀H:Hp,BU H->eU K H a (ns.map V.int)->sp [.ref a] H (fun v _=>v=.bl true) fun _ _ _=>False)
  (Le:∀H e s',CX [] H s₁ (fun _ _ _=>False) e s'->False):
  iG (model P w) callerA (.call (.ref fa) ⟨[.ref a],[]⟩) (fun r s'=>r=.ok (.ret (.bool true))/\OldK s₁.heap s'.heap/\s'.os=s₁.os/\kc s'.gens) s₁:=by
 have rv:=Kd hi;have lenV:=hi.length
 -- from an abstract heap in which nothing but the script may be tracked
 have core:∀H:Hp,BU H->eU K H a (ns.map V.int)->fD P w H s₁.heap->(∀b,H b≠none->b=a)->(H a≠none->K.lookup a=none) ->
   iG (model P w) callerA (.call (.ref fa) ⟨[.ref a],[]⟩) (fun r s'=>r=.ok (.ret (.bool true))/\OldK s₁.heap s'.heap/\s'.os=s₁.os/\kc s'.gens) s₁:=by
  intro H hO hS bR hA hK;have base_of:∀{b:ζ} {o:aK},s₁.heap.get? b=some o->H b=none->(sv s₁.heap H).get? b=some o:=fun e n=>V6 e n;have noA:∀{b:ζ} {o:aK} {es:Array jW} {ep:Nat},s₁.heap.get? b=some o->o.data=.dict es ep->H b=none:=fun {b o es ep} e d=>by
   cases q:H b with
   |none=>rfl
   |some u=>
    have e':b=a:=hA b (by rw[q];simp);subst e';rw[ha] at e;cases e;have d':Data.seq vs.toArray _=Data.dict es ep:=d;cases d'
  have nsK:∀{b:ζ} {m:ξ->Option ε},s₁.heap.Ns b m->(sv s₁.heap H).Ns b m:=fun {b m} ⟨o,es,ep,e,d,r⟩=>⟨o,es,ep,base_of e (noA e d),d,r⟩;have hKb:K.In (sv s₁.heap H):=fun b o e=>base_of (KX b o e) (by
   cases q:H b with
   |none=>rfl
   |some u=>
    have e':b=a:=hA b (by rw[q];simp);subst e';rw[hK (by rw[q];simp)] at e;cases e)
  have hM:Mod K mg (sv s₁.heap H):=⟨hKb,nsK hns,⟨mb,nsK hb,hbb⟩,let ⟨mc,h1,h2⟩:=hlim;⟨mc,nsK h1,h2⟩⟩
  have e0:v8 P w K mg (sv s₁.heap H) callerA [] s₁ H:=⟨rfl,hM,fun b o e=>Wl e,Nat.le_of_eq (V7 _ _),trivial,fun b hb=>absurd (show b∈([]:List ζ) from hb) (by simp),bR,.of_eq hg⟩;refine fS ((F _ hKb (nsK hns)).run callerA [] s₁ H ⟨[.ref a],[]⟩ [.ref a] [.ref a] _ _ hr e0 (hbind s₁ (.ref a)) (.cons rfl .nil) (uc H hO hS)) fun r s' h=>?_;cases r with
  |error e=>exact (Le H e s' h).elim
  |ok fl=>
   cases fl with
   |next=>exact cC h
   |brk=>exact cC h
   |cont=>exact cC h
   |ret u=>
    obtain⟨v,H',os,bare,un,hok',r',q⟩:=h;have q':v=.bl true:=q;subst q';obtain rfl:u=eF true:=r';refine⟨rfl,OldK.of_keep fun b o e=>?_,os,bare⟩;cases q:H b with
    |none=>exact un.keep b o e q (by intro z;exact absurd (show b∈([]:List ζ) from z) (by simp)) (by simp)
    |some u=>
     rcases hO b with z|⟨ob,xs,z⟩
     ·rw[q] at z;cases z
     ·have z2:=un.kx b ob _ z;obtain⟨e1,_⟩:=bR b _ z;obtain⟨e2,_⟩:=hok' b _ z2;rw[e] at e1;cases e1;exact e2
 cases hk:K.lookup a with
 |some o=>
  -- the script is one of the module's own objects
  have e:=KX a o hk;rw[ha] at e;cases e;refine core (fun _=>none) (fun _=>.inl rfl) (.inr ⟨_,vs.toArray,_,hk,rfl,rfl,rfl,by rw[ψ,lenV];exact hl,by simpa using rv⟩) (fun b u z=>by have z':(none:Option HO)=some u:=z;cases z') (fun b z=>absurd rfl z) fun z=>absurd rfl z
 |none=>
  refine core (fun b=>if b=a then some (.eI { cls:=.type "list",data:=.seq vs.toArray } (.lst (ns.map V.int))) else none) (fun b=>?_) (.inl (.inr ⟨{ cls:=.type "list",data:=.seq vs.toArray },if_pos rfl⟩)) (fun b u z=>?_) (fun b z=>?_) fun _=>hk
  ·by_cases hb:b=a
   ·exact .inr ⟨_,_,if_pos hb⟩
   ·exact .inl (if_neg hb)
  ·by_cases hb:b=a
   ·have z':=(if_pos hb).symm.trans z;cases z';subst hb;exact⟨ha,by rw[π];exact hl,vs,_,rv,ha⟩
   ·have z':=(if_neg hb).symm.trans z;cases z'
  ·by_cases hb:b=a
   ·exact hb
   ·exact absurd (if_neg hb) z
end L2
namespace L2
open PySem PySem.Spec PyProof.Rows
theorem zt{l:wM}{n k:Nat}{q:ah}{loose:List ξ}{XP:(ξ->Option ε)->Φ->Prop}{YP:ax->Φ->Prop}{d:DefRec}{K:Params->η}{CX:ax->rj}{sp:ax->Sp}{x:ξ}
  (hn:l.most=some n) (hn2:n≤au) (hdf:d.params.defaults=[]) (hr:eD k callerA)
  (hY:∀(w:ax) (h:Φ),YP w h->(K w.params).In h)
  (F:∀(w:ax) (mg:ξ->Option ε) (fa:ζ) (h:Φ),(K w.params).In h->h.Ns aN mg->mg d.name=some (.ref fa) ->
   ∃fd:ay,(∀(s:θ) (u:ε),oY s fd ⟨[u],[]⟩ [(x,u)]) ∧
    ∀base:Φ,(K w.params).In base->base.Ns aN mg->jn l.prog w (K w.params) mg base (CX w) k fa fd [x] (sp w))
  (uc:∀(w:ax) (H:Hp) (a:ζ) (ns:List Int),ns.length≤n->BU H->eU (K w.params) H a (ns.map V.int)->sp w [.ref a] H (fun v _=>v=.bl true) fun _ _ _=>False)
  (Le:∀(w:ax) (H:Hp) (s:θ) (e:ε) (s':θ),CX w [] H s (fun _ _ _=>False) e s'->False):
  PySem.W.WalkO q loose XP YP l.row.toRowW d [] (fun f vs=>wJ f vs):=by
 refine MK.zq hn hdf fun w s₀ s₁ mg mb fa o pm cd doc a vs ns G Y ho hd iL hmg hobj hints hlen hg=>?_;have KX:=hY w _ Y;obtain⟨fd,hb,hF⟩:=F w mg fa _ KX G.T.g hmg;exact Vl KX G.T.g G.T.b G.T.builtins G.T.nolimit hg hobj hints (av hlen hn2) hr hF hb (fun H hO hS=>uc w H a ns hlen hO hS) fun H e s'=>Le w H s₁ e s'
end L2
/- THE LAST THEOREM (shape;LID,My.* are yours):
  My.FI: a structure of the addresses that your layer names (classes,functions);My.Txt K t: a structure (Prop) of the equations over K;
  My.xY:{K} {implicit addresses ..} (e1:nsIn K aN "law" = some (some (.ref f))) (e2:K.lookup f=some ⟨oc,od,.func (fnOf "law" "law" params body scope dV kV doc pm an cdv ct),sl⟩) (e3:codeIn K cdv "law" = true) ..:∃t,My.Txt K t
set_option maxRecDepth 100000 in
set_option maxHeartbeats 0 in
theorem PySem.Challenge.cw_LID_holds : PySem.Challenge.rw_LID.Holds := by
 w_on;o_law;k_head;(case hw=>w_witness2)
 k_fill
 refine L2.zt (l:=PySem.Challenge.rw_LID) (n:=63) (k:=40) (x:="script") (CX:=fun w=>..) (sp:=fun _=>My.nt) rfl (by decide) rfl ⟨rfl,by decide,by decide⟩ (fun w h Y=>PySem.W.kIn_of Y) ?F ?S ?C
 case F=>
  intro w mg fa h KX G hmg
  have T:∃t,My.Txt (L2.KOf KX) t:=by
   dsimp only[L2.KOf]                          -- K must stand as «<heap const> w.params» for k_is
   refine' My.xY ?e1 ?e2 ?e3 ..
   (case e1=>PySem.W.k_is)                    -- in the order: a name -> its address -> its object -> its parts
   (case e2=>PySem.W.k_is)
   ..
  obtain⟨t,T⟩:=T
  have e0:=hmg.symm.trans (aD KX G T.law)
  cases e0                                       -- fa is the law's own address
  exact⟨_,fun s u=>.of_eq rfl,fun base kb nb=>My.law_fn T kb nb⟩     -- if «.of_eq rfl» comes too early: refine' ⟨_,?b,fun base kb nb=>My.law_fn T kb nb⟩;exact fun s u=>.of_eq rfl
 case S=>exact fun w H a ns hl hO hS=>..
 case C=>exact ..
(the tactic k_is has no namespace: write k_is) -/
namespace L2
open PySem PySem.Spec PyProof.Rows
def oR(s:aR):Arguments:=match s with
 |.FunctionDef _ a _ _ _ _ _ _ _ _=>a
 |_=>{ posonlyargs:=[],args:=[],vararg:=none,kwonlyargs:=[],kw_defaults:=[],kwarg:=none,defaults:=[]}
def fu(s:aR):List aR:=match s with
 |.FunctionDef _ _ b _ _ _ _ _ _ _=>b
 |_=>[]
def Ξ(s:aR):dZ:=match s with
 |.FunctionDef _ _ _ _ _ _ sc _ _ _=>sc
 |_=>{ kind:=.function,names:=[],isGenerator:=false,isCoroutine:=false }
abbrev qk:rj:=fun _ _ _ _ _ _=>False
abbrev E0:XK:=fun _ _ _=>False
theorem LS{X:Cx}:md qk X E0:=fun _ _ _ _ _ _ _ h=>h.elim
structure eP(K:η)(x qual:ξ)(st:aR)(f:ζ)(fd:ay):Prop where
 ex:∃(oc:ε) (od:Option ζ) (kV doc pm:ε) (an:Option ζ) (cdv ct:ε) (osl:Array (Option ε)),
  fd=gL x qual (oR st) (fu st) (Ξ st) .none kV doc pm an cdv ct/\K.lookup f=some ⟨oc,od,.func fd,osl⟩/\j7 K cdv qual=true
 kp:cp K (.ref f)=true
section
variable {P:ah} {w:ax} {K:η} {mg:ξ->Option ε} {base:Φ}
theorem eP.ok{x qual:ξ}{st:aR}{f:ζ}{fd:ay}{N ps:List ξ}{k:Nat}{sp:Sp}(F:eP K x qual st f fd)(S:bF N ps (Ξ st))(len:∀vs H Q E,sp vs H Q E->vs.length=ps.length)
  (hU:∀(cdv:ε) (A:aL) (outer:List dm) (s:θ) (H:Hp) (vs:List V) (Q:VK) (E:XK),eD k (A.deeper (envOfC qual (Ξ st) s.heap.objs.size f cdv))->sp vs H Q E ->
   ∃t,nB (iF qk P w K mg base N qual (Ξ st) f cdv A outer s H E).mH (fu st) t/\t { nx:=fun _ H'=>Q .aC H',rt:=Q } (start N vs) H):jn P w K mg base qk (k+1) f fd ps sp:=by
 obtain⟨oc,od,kV,doc,pm,an,cdv,ct,osl,rfl,lk,iL⟩:=F.ex;refine Kl lk iL S len fun A outer s H vs Q E hr uc=>?_;obtain⟨t,h,q⟩:=hU cdv A outer s H vs Q E hr uc;exact⟨t,h.mH,q⟩
theorem eP.binds{x qual:ξ}{st:aR}{f:ζ}{fd:ay}{ps:List ξ}(F:eP K x qual st f fd)
  (h:∀(kV doc pm:ε) (an:Option ζ) (cdv ct:ε) (us:List ε),us.length=ps.length->bindArgs (gL x qual (oR st) (fu st) (Ξ st) .none kV doc pm an cdv ct) ⟨us,[]⟩=pure (ps.zip us)):Binds K fd ps []:=by
 obtain⟨oc,od,kV,doc,pm,an,cdv,ct,osl,rfl,lk,iL⟩:=F.ex;exact .all (h kV doc pm an cdv ct)
theorem Kc{x qual:ξ}{st:aR}{f:ζ}{oc:ε}{od an:Option ζ}{osl:Array (Option ε)}{kV doc pm cdv ct:ε}(l:K.lookup f=some ⟨oc,od,.func (gL x qual (oR st) (fu st) (Ξ st) .none kV doc pm an cdv ct),osl⟩)
  (c:j7 K cdv qual=true) (k:cp K (.ref f)=true):eP K x qual st f (gL x qual (oR st) (fu st) (Ξ st) .none kV doc pm an cdv ct):=⟨⟨oc,od,kV,doc,pm,an,cdv,ct,osl,rfl,l,c⟩,k⟩
end
section
variable {X:Cx}
theorem pv(i:Nat){x:ξ}{pos:aQ}(hN:X.N[i]?=some x:=by rfl)(hv:Lk X.env.scope x:=by first|exact ur rfl|exact rF (ur rfl)|exact rF (rF rfl))(hd:(x==("__debug__":ξ))=false:=by decide)
  (iL:(x==("__classdict__":ξ))=false:=by decide):PE X (.Name x pos) (zM i):=Wk hN hv hd iL
end
end L2
namespace L3
open PySem PySem.Spec PyProof.Rows L2
inductive D where
 |aC|bl (b:Bool)|int (i:Int)|str (x:ξ)|tup (xs:List D)|eS (xs:List D)|obj (a:ζ)|dc (a:ζ)
def oo(K:η)(H:Hp)(a:ζ)(xs:List V):Prop:=
 (∃o,H a=some (.eI o (.lst xs))) ∨
  ∃(o:aK) (its:Array ε) (n:Nat),K.lookup a=some o/\o.cls=.type "list"/\o.dict=none/\o.data=.seq its n/\its.size≤au/\bj xs its.toList
theorem oo.l{K:η}{H:Hp}{a:ζ}{xs:List V}(h:oo K H a xs):eU K H a xs:=by
 rcases h with h|h
 ·exact .inl (.inr h)
 ·exact .inr h
mutual
def Hv(K:η)(H:Hp):D->V->Prop
 |.aC,v=>v=.aC
 |.bl b,v=>v=.bl b
 |.int i,v=>v=.int i
 |.str x,v=>v=.str x
 |.tup ds,v=>∃a vs,v=.ref a/\cG K H a vs/\aO K H ds vs
 |.eS ds,v=>∃a vs,v=.ref a/\oo K H a vs/\aO K H ds vs
 |.obj a,v=>v=.ref a
 |.dc a,v=>v=.ref a/\∃ob φ,H a=some (.eI ob (.ext φ))/\ob.cls=.type "dict"
def aO(K:η)(H:Hp):List D->List V->Prop
 |[],vs=>vs=[]
 |d::ds,vs=>∃v r,vs=v::r/\Hv K H d v/\aO K H ds r
end
inductive GO where
 |lst (ds:List D)|mG|i7
 |gen (R:η->ζ->Hp->Prop)
def GO.plain:GO->Prop
 |.gen _=>False
 |_=>True
abbrev Gp:=ζ->Option GO
def du(G:Gp)(a:ζ)(o:GO):Gp:=fun b=>if b=a then some o else G b
theorem mF{G:Gp}{a:ζ}{o:GO}:du G a o a=some o:=by simp[du]
theorem ny{G:Gp}{a b:ζ}{o:GO}(h:b≠a):du G a o b=G b:=by simp[du,h]
theorem Vk{G:Gp}{a b:ζ}{o u:GO}(hn:G a=none)(h:G b=some u):du G a o b=some u:=by
 rw[ny]
 ·exact h
 ·intro e;rw[e,hn] at h;cases h
theorem UH{G:Gp}{a:ζ}{o u:GO}:du (du G a o) a u=du G a u:=by
 funext b;unfold du;by_cases h:b=a
 ·rw[if_pos h,if_pos h]
 ·rw[if_neg h,if_neg h,if_neg h]
def uQ(a b c:Int):Prop:=0≤a/\0≤c/\c<2147483647
def um(K:η)(H:Hp)(a:ζ):GO->Prop
 |.lst ds=>∃vs,H a=some (.lst vs)/\aO K H ds vs
 |.mG=>∃i j k,H a=some (.lst [.int i,.int j,.int k])/\uQ i j k
 |.i7=>H a=some (.ext fun h=>∃o,h.get? a=some o/\o.cls=.type "dict")
 |.gen R=>R K a H/\(∃o,H a=some o/\(∀xs,o≠.tup xs)/\∀ob u,o≠.eI ob u)/\∀H1 H2:Hp,(∀b xs,H1 b=some (.tup xs)->H2 b=some (.tup xs))->(∀b o u,H1 b=some (.eI o u)->H2 b=some (.eI o u))->H2 a=H1 a->R K a H1->R K a H2
def aT(K:η)(G:Gp)(H:Hp):Prop:=∀a o,G a=some o->um K H a o
structure Ext(H H':Hp):Prop where
 tup:∀b xs,H b=some (.tup xs)->H' b=some (.tup xs)
 eI:∀b o u,H b=some (.eI o u)->H' b=some (.eI o u)
theorem Ext.refl(H:Hp):Ext H H:=⟨fun _ _ h=>h,fun _ _ _ h=>h⟩
theorem Ext.trans{H H1 H2:Hp}(a:Ext H H1)(b:Ext H1 H2):Ext H H2:=⟨fun c x h=>b.tup c x (a.tup c x h),fun c o u h=>b.eI c o u (a.eI c o u h)⟩
structure Step(H:Hp)(G:Gp)(H':Hp)(G':Gp):Prop where
 fr:∀a o,H a=some o->G a=none->H' a=some o
 oi:∀a,H a≠none->H' a≠none
 new:∀a,G a=none->G' a≠none->H a=none
theorem Step.refl(H:Hp)(G:Gp):Step H G H G:=⟨fun _ _ h _=>h,fun _ h=>h,fun _ h1 h2=>absurd h1 h2⟩
theorem Step.trans{H H1 H2:Hp}{G G1 G2:Gp}(a:Step H G H1 G1)(b:Step H1 G1 H2 G2):Step H G H2 G2 where
 fr:=fun c o h n=>b.fr c o (a.fr c o h n) (by
  refine bf fun q=>?_;rw[a.new c n q] at h;cases h)
 oi:=fun c h=>b.oi c (a.oi c h)
 new:=fun c n q=>by
  by_cases h1:G1 c=none
  ·have h2:=b.new c h1 q;refine bf fun z=>?_;exact a.oi c z h2
  ·exact a.new c n h1
def Sub(G' G:Gp):Prop:=∀a o,G' a=some o->G a=some o
theorem Sub.refl(G:Gp):Sub G G:=fun _ _ h=>h
theorem Sub.trans{A B C:Gp}(a:Sub A B)(b:Sub B C):Sub A C:=fun x o h=>b x o (a x o h)
theorem Sub.upd{G:Gp}{a:ζ}{o:GO}(h:G a=none):Sub G (du G a o):=fun _ _ e=>Vk h e
theorem Sub.of_none{G' G:Gp}(s:Sub G' G){a:ζ}(h:G a=none):G' a=none:=by
 cases e:G' a with
 |none=>rfl
 |some o=>
  rw[s a o e] at h;cases h
structure cw(G:Gp)(p:ζ)(o:GO)(G':Gp):Prop where
 aC:G p=none
 sub:Sub G G'
 at_:G' p=some o
theorem cw.mk'{G:Gp}{p:ζ}{o:GO}(h:G p=none):cw G p o (du G p o):=⟨h,Sub.upd h,mF⟩
theorem Step.sub{H:Hp}{G G':Gp}(s:Sub G' G):Step H G H G':=⟨fun _ _ h _=>h,fun _ h=>h,fun a n q=>by
 exact absurd (s.of_none n) q⟩
section
variable {K:η} {H H':Hp} {G G':Gp}
theorem aT.sub(R:aT K G H)(s:Sub G' G):aT K G' H:=fun a o e=>R a o (s a o e)
theorem um.mut{a:ζ}{o:GO}(h:um K H a o):∃o,H a=some o/\(∀xs,o≠.tup xs)/\∀ob u,o≠.eI ob u:=by
 cases o with
 |lst ds=>obtain⟨vs,e,_⟩:=h;exact⟨_,e,fun _=>nofun,fun _ _=>nofun⟩
 |mG=>obtain⟨i,j,k,e,_⟩:=h;exact⟨_,e,fun _=>nofun,fun _ _=>nofun⟩
 |i7=>exact⟨_,h,fun _=>nofun,fun _ _=>nofun⟩
 |gen R=>exact h.2.1
theorem aT.X0(R:aT K G H){a:ζ}{xs:List V}(e:H a=some (.tup xs)):G a=none:=by
 cases q:G a with
 |none=>rfl
 |some u=>
  obtain⟨o,z,h1,_⟩:=(R a u q).mut;rw[e] at z;exact absurd (aJ z).symm (h1 xs)
theorem aT.outF(R:aT K G H){a:ζ}{ob:aK}{u:HO}(e:H a=some (.eI ob u)):G a=none:=by
 cases q:G a with
 |none=>rfl
 |some g=>
  obtain⟨o,z,_,h1⟩:=(R a g q).mut;rw[e] at z;exact absurd (aJ z).symm (h1 ob u)
theorem aT.free(R:aT K G H){a:ζ}(e:H a=none):G a=none:=by
 cases q:G a with
 |none=>rfl
 |some u=>
  obtain⟨o,z,_⟩:=(R a u q).mut;rw[e] at z;cases z
theorem Step.ext(S:Step H G H' G')(R:aT K G H):Ext H H':=⟨fun b xs h=>S.fr b _ h (R.X0 h),fun b o u h=>S.fr b _ h (R.outF h)⟩
theorem cG.ext{a:ζ}{xs:List V}(E:Ext H H')(h:cG K H a xs):cG K H' a xs:=by
 rcases h with (h|⟨o,h⟩)|h
 ·exact .inl (.inl (E.tup _ _ h))
 ·exact .inl (.inr ⟨o,E.eI _ _ _ h⟩)
 ·exact .inr h
theorem oo.ext{a:ζ}{xs:List V}(E:Ext H H')(h:oo K H a xs):oo K H' a xs:=by
 rcases h with⟨o,h⟩|h
 ·exact .inl ⟨o,E.eI _ _ _ h⟩
 ·exact .inr h
mutual
theorem Hv.ext(E:Ext H H'):∀{d:D} {v:V},Hv K H d v->Hv K H' d v
 |.aC,_,h=>by simpa [Hv] using h
 |.bl _,_,h=>by simpa [Hv] using h
 |.int _,_,h=>by simpa [Hv] using h
 |.str _,_,h=>by simpa [Hv] using h
 |.obj _,_,h=>by simpa [Hv] using h
 |.dc a,v,h=>by
  unfold Hv at h ⊢;obtain⟨e,ob,φ,q,c⟩:=h;exact⟨e,ob,φ,E.eI _ _ _ q,c⟩
 |.tup ds,v,h=>by
  unfold Hv at h ⊢;obtain⟨a,vs,e,q,r⟩:=h;exact⟨a,vs,e,cG.ext E q,aO.ext E r⟩
 |.eS ds,v,h=>by
  unfold Hv at h ⊢;obtain⟨a,vs,e,q,r⟩:=h;exact⟨a,vs,e,oo.ext E q,aO.ext E r⟩
theorem aO.ext(E:Ext H H'):∀{ds:List D} {vs:List V},aO K H ds vs->aO K H' ds vs
 |[],_,h=>by simpa [aO] using h
 |d::ds,vs,h=>by
  unfold aO at h ⊢;obtain⟨v,r,e,q,z⟩:=h;exact⟨v,r,e,Hv.ext E q,aO.ext E z⟩
end
theorem aO.nil:aO K H [] []:=by simp[aO]
theorem aO.cons{d:D}{v:V}{ds:List D}{vs:List V}(h:Hv K H d v)(r:aO K H ds vs):aO K H (d::ds) (v::vs):=by
 unfold aO;exact⟨v,vs,rfl,h,r⟩
theorem aO.inv{d:D}{ds:List D}{vs:List V}(h:aO K H (d::ds) vs):∃v r,vs=v::r/\Hv K H d v/\aO K H ds r:=by
 unfold aO at h;exact h
theorem aO.jk{vs:List V}(h:aO K H [] vs):vs=[]:=by
 unfold aO at h;exact h
theorem aO.length:∀{ds:List D} {vs:List V},aO K H ds vs->ds.length=vs.length
 |[],_,h=>by rw[h.jk];rfl
 |d::ds,vs,h=>by
  obtain⟨v,r,rfl,_,q⟩:=h.inv;simp[q.length]
theorem aO.get:∀{ds:List D} {vs:List V} {i:Nat} {d:D},aO K H ds vs->ds[i]?=some d->∃v,vs[i]?=some v/\Hv K H d v
 |[],_,_,_,_,e=>by simp at e
 |x::ds,vs,0,d,h,e=>by
  obtain⟨v,r,rfl,q,_⟩:=h.inv;simp at e;subst e;exact⟨v,rfl,q⟩
 |x::ds,vs,i+1,d,h,e=>by
  obtain⟨v,r,rfl,_,q⟩:=h.inv;simp at e;obtain⟨u,e2,q2⟩:=q.get e;exact⟨u,by simpa using e2,q2⟩
theorem aO.append:∀{ds es:List D} {vs us:List V},aO K H ds vs->aO K H es us->aO K H (ds++es) (vs++us)
 |[],es,_,_,h,q=>by rw[h.jk];exact q
 |d::ds,es,vs,us,h,q=>by
  obtain⟨v,r,rfl,z,w⟩:=h.inv;exact .cons z (w.append q)
theorem aO.drop:∀{ds:List D} {vs:List V} (n:Nat),aO K H ds vs->aO K H (ds.drop n) (vs.drop n)
 |ds,vs,0,h=>h
 |[],_,n+1,h=>by rw[h.jk];exact .nil
 |d::ds,vs,n+1,h=>by
  obtain⟨v,r,rfl,_,q⟩:=h.inv;exact q.drop n
theorem aO.take:∀{ds:List D} {vs:List V} (n:Nat),aO K H ds vs->aO K H (ds.take n) (vs.take n)
 |ds,vs,0,h=>by simpa using aO.nil
 |[],_,n+1,h=>by rw[h.jk];exact .nil
 |d::ds,vs,n+1,h=>by
  obtain⟨v,r,rfl,q,z⟩:=h.inv;exact .cons q (z.take n)
theorem aO.set:∀{ds:List D} {vs:List V} (i:Nat) {d:D} {v:V},aO K H ds vs->Hv K H d v->aO K H (ds.set i d) (vs.set i v)
 |[],_,i,d,v,h,_=>by rw[h.jk];exact .nil
 |x::ds,vs,0,d,v,h,q=>by
  obtain⟨u,r,rfl,_,z⟩:=h.inv;exact .cons q z
 |x::ds,vs,i+1,d,v,h,q=>by
  obtain⟨u,r,rfl,y,z⟩:=h.inv;exact .cons y (z.set i q)
theorem aO.erase:∀{ds:List D} {vs:List V} (i:Nat),aO K H ds vs->aO K H (ds.eraseIdx i) (vs.eraseIdx i)
 |[],_,i,h=>by rw[h.jk];exact .nil
 |x::ds,vs,0,h=>by
  obtain⟨u,r,rfl,_,z⟩:=h.inv;exact z
 |x::ds,vs,i+1,h=>by
  obtain⟨u,r,rfl,y,z⟩:=h.inv;exact .cons y (z.erase i)
theorem aO.rep{ds:List D}{vs:List V}(h:aO K H ds vs):∀k:Nat,aO K H (aj k ds).flatten (aj k vs).flatten
 |0=>.nil
 |k+1=>by
  simp only[di,gx];exact h.append (h.rep k)
theorem aO.ints:∀(ns:List Int),aO K H (ns.map D.int) (ns.map V.int)
 |[]=>.nil
 |n::ns=>.cons (by simp[Hv]) (aO.ints ns)
theorem Ext.laid{p:ζ}{o:HO}(h:H p=none):Ext H (upd H p o):=⟨fun b xs e=>by rw[dz (mR e h)];exact e,fun b x u e=>by rw[dz (mR e h)];exact e⟩
theorem um.ext{a:ζ}{o:GO}(h:um K H a o)(E:Ext H H')(e:H' a=H a):um K H' a o:=by
 cases o with
 |lst ds=>
  obtain⟨vs,z,q⟩:=h;exact⟨vs,e.trans z,q.ext E⟩
 |mG=>
  obtain⟨i,j,k,z,q⟩:=h;exact⟨i,j,k,e.trans z,q⟩
 |i7=>exact e.trans h
 |gen R=>
  obtain⟨h1,h2,h3⟩:=h;exact⟨h3 H H' E.tup E.eI e h1,by rw[e];exact h2,h3⟩
theorem aT.laid{p:ζ}{o:HO}(R:aT K G H)(h:H p=none):aT K G (upd H p o):=fun a u e=>by
 have cQ:a≠p:=fun z=>by
  rw[z,R.free h] at e;cases e
 exact (R a u e).ext (Ext.laid h) (dz cQ)
theorem aT.hJ{p:ζ}{o:HO}{g:GO}(R:aT K G H)(h:H p=none)(new:um K (upd H p o) p g):aT K (du G p g) (upd H p o):=fun a u e=>by
 by_cases z:a=p
 ·subst z;rw[mF] at e;cases e;exact new
 ·rw[ny z] at e;exact (R.laid h) a u e
theorem Step.laid{p:ζ}{o:HO}(h:H p=none):Step H G (upd H p o) G:=⟨fun a u e _=>by rw[dz (mR e h)];exact e,fun a q=>by
 by_cases z:a=p
 ·rw[z,gW];simp
 ·rw[dz z];exact q,fun a n q=>absurd n q⟩
theorem Step.hJ{p:ζ}{o:HO}{g:GO}(h:H p=none):Step H G (upd H p o) (du G p g):=⟨(Step.laid (G:=G) h).fr,(Step.laid (G:=G) h).oi,fun a n q=>by
 by_cases z:a=p
 ·rw[z];exact h
 ·rw[ny z] at q;exact absurd n q⟩
theorem UG{p b:ζ}{xs ys:List V}(h:H p=some (.lst xs))(e:H b=some (.tup ys)):b≠p:=fun z=>by
 rw[z,h] at e;cases e
theorem UE{p b:ζ}{xs:List V}{o:aK}{u:HO}(h:H p=some (.lst xs))(e:H b=some (.eI o u)):b≠p:=fun z=>by
 rw[z,h] at e;cases e
theorem Ext.wrote{p:ζ}{xs:List V}{o:HO}(h:H p=some (.lst xs)):Ext H (upd H p o):=
 ⟨fun b ys e=>by rw[dz (UG h e)];exact e,fun b x u e=>by rw[dz (UE h e)];exact e⟩
theorem aT.wrote{p:ζ}{xs:List V}{o:HO}{g:GO}(R:aT K G H)(h:H p=some (.lst xs))(new:um K (upd H p o) p g):aT K (du G p g) (upd H p o):=fun a u e=>by
 by_cases z:a=p
 ·subst z;rw[mF] at e;cases e;exact new
 ·rw[ny z] at e;exact (R a u e).ext (Ext.wrote h) (dz z)
theorem aT.vT{p:ζ}{xs:List V}{ds:List D}(R:aT K G H)(h:H p=none)(hv:aO K H ds xs):aT K (du G p (.lst ds)) (upd H p (.lst xs)):=R.hJ h ⟨xs,gW,hv.ext (.laid h)⟩
theorem aT.B4{p:ζ}{xs ys:List V}{ds:List D}(R:aT K G H)(e:H p=some (.lst xs))(hv:aO K H ds ys):aT K (du G p (.lst ds)) (upd H p (.lst ys)):=R.wrote e ⟨ys,gW,hv.ext (.wrote e)⟩
theorem Step.wrote{p:ζ}{o:HO}{g u:GO}(h:G p=some u):Step H G (upd H p o) (du G p g):=⟨fun a x e n=>by
 have cQ:a≠p:=fun z=>by
  rw[z,h] at n;cases n
 rw[dz cQ];exact e,fun a q=>by
 by_cases z:a=p
 ·rw[z,gW];simp
 ·rw[dz z];exact q,fun a n q=>by
 have cQ:a≠p:=fun z=>by
  rw[z,h] at n;cases n
 rw[ny cQ] at q;exact absurd n q⟩
end
abbrev S3:=List (Option D)
def kH:S3->Nat->Option D
 |[],_=>none
 |x::_,0=>x
 |_::r,n+1=>kH r n
def ko:S3->Nat->D->S3
 |[],_,_=>[]
 |_::r,0,d=>some d::r
 |x::r,n+1,d=>x::ko r n d
structure eJ(K:η)(τ:S3)(σ:L2.St)(H:Hp):Prop where
 len:τ.length=σ.length
 at_:∀(i:Nat) d,kH τ i=some d->∃v,σ[i]?=some (some v)/\Hv K H d v
theorem Kb:∀(τ:S3) (i:Nat) (d:D),(ko τ i d).length=τ.length
 |[],_,_=>rfl
 |_::r,0,d=>rfl
 |x::r,n+1,d=>by simp[ko,Kb r n d]
theorem Ka:∀(τ:S3) (i j:Nat) (d:D),kH (ko τ i d) j=if j=i/\i<τ.length then some d else kH τ j
 |[],i,j,d=>by simp[ko,kH]
 |x::r,0,0,d=>by simp[ko,kH]
 |x::r,0,j+1,d=>by simp[ko,kH]
 |x::r,i+1,0,d=>by simp[ko,kH]
 |x::r,i+1,j+1,d=>by
  simp only[ko,kH,Ka r i j d,aB];by_cases h:j=i/\i<r.length
  ·rw[if_pos h,if_pos (by lia)]
  ·rw[if_neg h,if_neg (by lia)]
section
variable {K:η} {τ:S3} {σ:L2.St} {H H':Hp}
theorem eJ.ext(R:eJ K τ σ H)(E:Ext H H'):eJ K τ σ H':=⟨R.len,fun i d h=>by
 obtain⟨v,e,q⟩:=R.at_ i d h;exact⟨v,e,q.ext E⟩⟩
theorem eJ.set(R:eJ K τ σ H){i:Nat}{d:D}{v:V}(h:Hv K H d v):eJ K (ko τ i d) (σ.set i (some v)) H:=⟨by rw[Kb,List.length_set];exact R.len,fun j e q=>by
 rw[Ka] at q;by_cases c:j=i/\i<τ.length
 ·rw[if_pos c] at q;cases q;refine⟨v,?_,h⟩;rw[c.1,kQ (by rw[←R.len];exact c.2)]
 ·rw[if_neg c] at q;obtain⟨u,e1,e2⟩:=R.at_ j e q;refine⟨u,?_,e2⟩;by_cases hij:i=j
  ·subst hij;have:σ.length≤i:=by
    have:=R.len;have:¬i<τ.length:=fun z=>c ⟨rfl,z⟩;lia
   rw[dW.mpr this] at e1;cases e1
  ·rw[mq hij];exact e1⟩
end
def bD:List ξ->List D->S3
 |[],_=>[]
 |_::N,[]=>none::bD N []
 |_::N,d::ds=>some d::bD N ds
theorem D1:∀(N:List ξ) (ds:List D),(bD N ds).length=N.length
 |[],_=>rfl
 |_::N,[]=>by simp[bD,D1 N []]
 |_::N,d::ds=>by simp[bD,D1 N ds]
theorem J9:∀(N:List ξ) (i:Nat),kH (bD N []) i=none
 |[],i=>rfl
 |_::N,0=>rfl
 |_::N,i+1=>J9 N i
theorem J8:∀(N:List ξ) (ds:List D) (i:Nat) (d:D),kH (bD N ds) i=some d->ds[i]?=some d
 |[],_,_,_,h=>by cases h
 |_::N,[],i,d,h=>by
  rw[J9] at h;cases h
 |_::N,x::ds,0,d,h=>by
  simp only[bD,kH] at h;simpa using h
 |_::N,x::ds,i+1,d,h=>by
  simp only[bD,kH] at h;simpa using J8 N ds i d h
theorem eJ.start{K:η}{N:List ξ}{ds:List D}{vs:List V}{H:Hp}(h:aO K H ds vs)(hl:vs.length≤N.length):eJ K (bD N ds) (L2.start N vs) H:=⟨by
 rw[D1];simp[L2.start];lia,fun i d e=>by
 obtain⟨v,e1,q⟩:=h.get (J8 N ds i d e);refine⟨v,?_,q⟩;unfold L2.start;have hi:i<vs.length:=(aM.mp e1).1;rw[e7 (by simpa using hi),aE,e1];rfl⟩
abbrev V3:=D->Gp->Prop
abbrev aP:=S3->Gp->V3->Prop
abbrev cS:=S3->Gp->(Bool->Gp->Prop)->Prop
abbrev dF:=S3->Gp->(List D->Gp->Prop)->Prop
structure gg where
 nx:S3->Gp->Prop
 rt:V3
 bk:S3->Gp->Prop:=fun _ _=>False
 ct:S3->Gp->Prop:=fun _ _=>False
abbrev ao:=gg->S3->Gp->Prop
def low(K:η)(t:aP):TE:=fun σ H Q=>∃τ G Q3,eJ K τ σ H/\aT K G H/\t τ G Q3/\∀v H' d G',Hv K H' d v->Step H G H' G'->aT K G' H'->Q3 d G'->Q v H'
def sh(K:η)(t:cS):TT:=fun σ H Q=>∃τ G Q3,eJ K τ σ H/\aT K G H/\t τ G Q3/\∀b H' G',Step H G H' G'->aT K G' H'->Q3 b G'->Q b H'
def vU(K:η)(t:dF):TA:=fun σ H Q=>∃τ G Q3,eJ K τ σ H/\aT K G H/\t τ G Q3/\∀vs H' ds G',aO K H' ds vs->Step H G H' G'->aT K G' H'->Q3 ds G'->Q vs H'
structure oV(K:η)(H:Hp)(G:Gp)(D3:gg)(D2:Ends):Prop where
 nx:∀τ σ G' H',eJ K τ σ H'->Step H G H' G'->aT K G' H'->D3.nx τ G'->D2.nx σ H'
 bk:∀τ σ G' H',eJ K τ σ H'->Step H G H' G'->aT K G' H'->D3.bk τ G'->D2.bk σ H'
 ct:∀τ σ G' H',eJ K τ σ H'->Step H G H' G'->aT K G' H'->D3.ct τ G'->D2.ct σ H'
 rt:∀d v G' H',Hv K H' d v->Step H G H' G'->aT K G' H'->D3.rt d G'->D2.rt v H'
theorem oV.step{K:η}{H H1:Hp}{G G1:Gp}{D3:gg}{D2:Ends}(E:oV K H G D3 D2)(S:Step H G H1 G1):oV K H1 G1 D3 D2:=
 ⟨fun τ σ G' H' a b c q=>E.nx τ σ G' H' a (S.trans b) c q,fun τ σ G' H' a b c q=>E.bk τ σ G' H' a (S.trans b) c q,fun τ σ G' H' a b c q=>E.ct τ σ G' H' a (S.trans b) c q,fun d v G' H' a b c q=>E.rt d v G' H' a (S.trans b) c q⟩
def En(K:η)(t:ao):TS:=fun D2 σ H=>∃τ G D3,eJ K τ σ H/\aT K G H/\t D3 τ G/\oV K H G D3 D2
abbrev bS(X:Cx)(e:υ)(t:aP):Prop:=PE X e (low X.K t)
abbrev rf(X:Cx)(e:υ)(t:cS):Prop:=PT X e (sh X.K t)
abbrev xF(X:Cx)(e:υ)(t:cS):Prop:=PW X e (sh X.K t)
abbrev ki(X:Cx)(es:List υ)(t:dF):Prop:=PA X es (vU X.K t)
abbrev pF(X:Cx)(st:aR)(t:ao):Prop:=PS X st (En X.K t)
abbrev jm(X:Cx)(st:List aR)(t:ao):Prop:=nB X st (En X.K t)
section
variable {X:Cx} {e:υ}
theorem jG{t t':TE}(h:PE X e t)(f:∀σ H Q,t' σ H Q->t σ H Q):PE X e t':=fun pins s σ H Q I q=>h pins s σ H Q I (f σ H Q q)
theorem D0{t t':TT}(h:PT X e t)(f:∀σ H Q,t' σ H Q->t σ H Q):PT X e t':=fun pins s σ H Q I q=>h pins s σ H Q I (f σ H Q q)
theorem pw_of{t t':TT}(h:PW X e t)(f:∀σ H Q,t' σ H Q->t σ H Q):PW X e t':=fun w pins s σ H Q I q=>h w pins s σ H Q I (f σ H Q q)
theorem J7{es:List υ}{t t':TA}(h:PA X es t)(f:∀σ H Q,t' σ H Q->t σ H Q):PA X es t':=fun p pins s σ H Q I q=>h p pins s σ H Q I (f σ H Q q)
theorem pj{st:aR}{t t':TS}(h:PS X st t)(f:∀D σ H,t' D σ H->t D σ H):PS X st t':=fun pins s σ H Q I q=>h pins s σ H Q I (f Q σ H q)
theorem KJ{st:List aR}{t t':TS}(h:nB X st t)(f:∀D σ H,t' D σ H->t D σ H):nB X st t':=fun pins s σ H Q I q=>h pins s σ H Q I (f Q σ H q)
end
def Br(b:Bool)(A B:Prop):Prop:=(b=true->A)/\(b=false->B)
theorem Br.ite{b:Bool}{A B A' B':Prop}(h:Br b A B)(f:A->A')(g:B->B'):if b=true then A' else B':=by
 cases b with
 |true=>rw[if_pos rfl];exact f (h.1 rfl)
 |false=>rw[if_neg az];exact g (h.2 rfl)
section
variable {X:Cx} {a b e c:υ} {ta tb te:aP} {tA tB:cS} {pos:aQ} {es rest:List υ}
def eC(d:D):aP:=fun _ G Q=>Q d G
def ο(i:Nat):aP:=fun τ G Q=>match kH τ i with
 |some d=>Q d G
 |none=>False
theorem UD{i:Nat}{x:ξ}(h:PE X (.Name x pos) (zM i)):bS X (.Name x pos) (ο i):=jG h fun σ H Q ⟨τ,G,Q3,RS,RG,h,k⟩=>by
 unfold ο at h;cases hd:kH τ i with
 |none=>rw[hd] at h;exact h.elim
 |some d=>
  rw[hd] at h;obtain⟨v,e1,e2⟩:=RS.at_ i d hd;exact⟨v,e1,k v H d G e2 (.refl H G) RG h⟩
theorem yD{v:V}{d:D}(h:PE X e (tC v))(r:∀H,Hv X.K H d v):bS X e (eC d):=jG h fun σ H Q ⟨τ,G,Q3,RS,RG,h,k⟩=>k v H d G (r H) (.refl H G) RG h
theorem UC{i:Int}{j}:bS X (.Constant (.int i) j pos) (eC (.int i)):=yD Wj fun H=>by simp[Hv]
theorem Ys{i:Bool}{j}:bS X (.Constant (.bool i) j pos) (eC (.bl i)):=yD Wi fun H=>by simp[Hv]
theorem UB{j}:bS X (.Constant .none j pos) (eC .aC):=yD Wh fun H=>by simp[Hv]
theorem UA{x:ξ}{j}:bS X (.Constant (.str x) j pos) (eC (.str x)):=yD Wg fun H=>by simp[Hv]
theorem Uz{x:ξ}{i:Int}{u:Tok}(hm:X.mg x=some (.int i u))(hg:Gl X x:=by rfl)(hd:(x==("__debug__":ξ))=false:=by decide):bS X (.Name x pos) (eC (.int i)):=yD (v:=.int i) (Kv hg hm ⟨u,rfl⟩ hd) fun H=>by simp[Hv]
abbrev R3:=D->D->Gp->V3->Prop
def aq(r:R3)(ta tb:aP):aP:=fun τ G Q=>ta τ G fun x G1=>tb τ G1 fun y G2=>r x y G2 Q
def gq(K:η)(r:R3)(r2:R2):Prop:=∀x y vx vy G H Q3 Q,Hv K H x vx->Hv K H y vy->aT K G H->r x y G Q3->(∀v H' d G',Hv K H' d v->Step H G H' G'->aT K G' H'->Q3 d G'->Q v H')->r2 vx vy H Q
theorem AJ{K:η}{r:R3}{r2:R2}(L:gq K r r2){σ:L2.St}{H:Hp}{Q:VK}(h:low K (aq r ta tb) σ H Q):B5 r2 (low K ta) (low K tb) σ H Q:=by
 obtain⟨τ,G,Q3,RS,RG,h,k⟩:=h;refine⟨τ,G,_,RS,RG,h,fun v1 H1 d1 G1 h1 S1 R1 q1=>?_⟩;refine⟨τ,G1,_,RS.ext (S1.ext RG),R1,q1,fun v2 H2 d2 G2 h2 S2 R2 q2=>?_⟩;exact L _ _ _ _ _ _ _ _ (h1.ext (S2.ext R1)) h2 R2 q2 fun v H' d G' z1 z2 z3 z4=>k v H' d G' z1 ((S1.trans S2).trans z2) z3 z4
theorem Yq{op:sP}{r:R3}{r2:R2}(L:gq X.K r r2)(ho:fi X (binaryOp op) r2)(ha:bS X a ta)(hb:bS X b tb):bS X (.BinOp a op b pos) (aq r ta tb):=
 jG (Vv ho ha hb) fun _ _ _ h=>AJ L h
theorem Uy{op:CmpOp}{r:R3}{r2:R2}(L:gq X.K r r2)(ho:fi X (compareOp op) r2)(ha:bS X a ta)(hb:bS X b tb)(hm:behindInMarks op b=false):bS X (.Compare a [op] [b] pos) (aq r ta tb):=
 jG (V2 ho ha hb hm) fun _ _ _ h=>AJ L h
def cN(t:aP):cS:=fun τ G Q=>t τ G fun x G1=>match x with
 |.bl k=>Q k G1
 |_=>False
theorem KI{K:η}{t:aP}{σ:L2.St}{H:Hp}{Q:Bool->Hp->Prop}(h:sh K (cN t) σ H Q):EZ (low K t) σ H Q:=by
 obtain⟨τ,G,Q3,RS,RG,h,k⟩:=h;refine⟨τ,G,_,RS,RG,h,fun v H' d G' h1 h2 h3 h4=>?_⟩;cases d with
 |bl c=>
  unfold Hv at h1;exact⟨c,h1,k c H' G' h2 h3 h4⟩
 |_=>exact h4.elim
theorem Ux{op:CmpOp}{r:R3}{r2:R2}(L:gq X.K r r2)(ho:fi X (compareOp op) r2)(ha:bS X a ta)(hb:bS X b tb)(hm:behindInMarks op b=false):rf X (.Compare a [op] [b] pos) (cN (aq r ta tb)):=
 D0 (V1 ho ha hb hm) fun σ H Q h=>by
  obtain⟨τ,G,Q3,RS,RG,h,k⟩:=KI h;exact AJ L ⟨τ,G,Q3,RS,RG,h,k⟩
theorem Uw(h:bS X a ta)(he:∀whole,isTrue a X.env whole=(do let v ←whole;standAt a.pos;holding [v] (truthy v)):=by intro _;rfl):rf X a (cN ta):=
 D0 (VY h he) fun σ H Q h=>by
  obtain⟨τ,G,Q3,RS,RG,h,k⟩:=KI h;refine⟨τ,G,Q3,RS,RG,h,fun v H' d G' h1 h2 h3 h4=>?_⟩;obtain⟨c,rfl,q⟩:=k v H' d G' h1 h2 h3 h4;exact⟨c,rfl,q⟩
def EF(t u:cS):cS:=fun τ G Q=>t τ G fun c G1=>Br c (u τ G1 Q) (Q false G1)
def ze(t u:cS):cS:=fun τ G Q=>t τ G fun c G1=>Br c (Q true G1) (u τ G1 Q)
def pz(t:cS):cS:=fun τ G Q=>t τ G fun c G1=>Q (!c) G1
theorem Uv(ha:rf X a tA):xF X (.BoolOp .And [a] pos) tA:=pw_and1 ha
theorem Uu(ha:rf X a tA):xF X (.BoolOp .Or [a] pos) tA:=pw_or1 ha
theorem Ut(ha:rf X a tA)(hb:xF X (.BoolOp .And (b::rest) pos) tB):xF X (.BoolOp .And (a::b::rest) pos) (EF tA tB):=pw_of (pw_and ha hb) fun σ H Q h=>by
 obtain⟨τ,G,Q3,RS,RG,h,k⟩:=h;refine⟨τ,G,_,RS,RG,h,fun c H1 G1 S1 R1 q1=>?_⟩;exact Br.ite q1 (fun q=>⟨τ,G1,Q3,RS.ext (S1.ext RG),R1,q,fun b' H' G' y1 y2 y3=>k b' H' G' (S1.trans y1) y2 y3⟩) fun q=>k false H1 G1 S1 R1 q
theorem Us(ha:rf X a tA)(hb:xF X (.BoolOp .Or (b::rest) pos) tB):xF X (.BoolOp .Or (a::b::rest) pos) (ze tA tB):=pw_of (pw_or ha hb) fun σ H Q h=>by
 obtain⟨τ,G,Q3,RS,RG,h,k⟩:=h;refine⟨τ,G,_,RS,RG,h,fun c H1 G1 S1 R1 q1=>?_⟩;exact Br.ite q1 (fun q=>k true H1 G1 S1 R1 q) fun q=>⟨τ,G1,Q3,RS.ext (S1.ext RG),R1,q,fun b' H' G' y1 y2 y3=>k b' H' G' (S1.trans y1) y2 y3⟩
theorem MM(h:xF X a tA):rf X a tA:=h.pt
theorem Ur(ha:rf X a tA):rf X (.UnaryOp .Not a pos) (pz tA):=D0 (Wf ha) fun σ H Q h=>by
 obtain⟨τ,G,Q3,RS,RG,h,k⟩:=h;exact⟨τ,G,_,RS,RG,h,fun c H1 G1 S1 R1 q1=>k _ H1 G1 S1 R1 q1⟩
def uK(ta tb:aP):aP:=fun τ G Q=>ta τ G fun x G1=>match x with
 |.bl c=>Br c (tb τ G1 Q) (Q (.bl false) G1)
 |_=>False
def Bv(ta:aP):aP:=fun τ G Q=>ta τ G fun x G1=>match x with
 |.bl c=>Q (.bl (!c)) G1
 |_=>False
theorem Uq{op}(h:bS X a ta):bS X (.BoolOp op [a] pos) ta:=We h
theorem Up(ha:bS X a ta)(hb:bS X (.BoolOp .And (b::rest) pos) tb):bS X (.BoolOp .And (a::b::rest) pos) (uK ta tb):=jG (Wd ha hb) fun σ H Q h=>by
 obtain⟨τ,G,Q3,RS,RG,h,k⟩:=h;refine⟨τ,G,_,RS,RG,h,fun v H1 d G1 h1 S1 R1 q1=>?_⟩;cases d with
 |bl c=>
  unfold Hv at h1;exact⟨c,h1,Br.ite q1 (fun q=>⟨τ,G1,Q3,RS.ext (S1.ext RG),R1,q,fun b' H' d' G' y0 y1 y2 y3=>k b' H' d' G' y0 (S1.trans y1) y2 y3⟩) fun q=>k _ H1 (.bl false) G1 (by simp[Hv]) S1 R1 q⟩
 |_=>exact q1.elim
theorem Uo(ha:bS X a ta):bS X (.UnaryOp .Not a pos) (Bv ta):=jG (Wc ha) fun σ H Q h=>by
 obtain⟨τ,G,Q3,RS,RG,h,k⟩:=h;refine⟨τ,G,_,RS,RG,h,fun v H1 d G1 h1 S1 R1 q1=>?_⟩;cases d with
 |bl c=>
  unfold Hv at h1;exact⟨c,h1,k _ H1 (.bl (!c)) G1 (by simp[Hv]) S1 R1 q1⟩
 |_=>exact q1.elim
def notStar:υ->Bool
 |.Starred ..=>false
 |_=>true
theorem gu{e:υ}{es:List υ}{env:dm}(h:notStar e=true):bW (e::es) env=(false,eval e env)::bW es env:=by
 cases e<;>first|rfl|(simp[notStar] at h)
theorem lC{pos:aQ}{env:dm}:∀{es:List υ},es.all notStar=true->(backTo pos (bW es env)).any (·.1)=false
 |[],_=>rfl
 |e::es,h=>by
  rw[List.all_cons,cM] at h;rw[gu h.1];show (false||(backTo pos (bW es env)).any (·.1))=false;rw[lC h.2];rfl
def ae:dF:=fun _ G Q=>Q [] G
def ν(ta:aP)(tr:dF):dF:=fun τ G Q=>ta τ G fun x G1=>tr τ G1 fun xs G2=>Q (x::xs) G2
theorem Um:ki X [] ae:=J7 w6 fun σ H Q ⟨τ,G,Q3,RS,RG,h,k⟩=>k [] H [] G .nil (.refl H G) RG h
theorem Ul{tr:dF}(ha:bS X a ta)(hr:ki X es tr)(hs:notStar a=true:=by rfl):ki X (a::es) (ν ta tr):=J7 (r0 ha hr (gu hs)) fun σ H Q h=>by
 obtain⟨τ,G,Q3,RS,RG,h,k⟩:=h;refine⟨τ,G,_,RS,RG,h,fun v1 H1 d1 G1 h1 S1 R1 q1=>?_⟩;refine⟨τ,G1,_,RS.ext (S1.ext RG),R1,q1,fun vs H2 ds G2 h2 S2 R2 q2=>?_⟩;exact k _ H2 _ G2 (.cons (h1.ext (S2.ext R1)) h2) (S1.trans S2) R2 q2
def tQ{α:Type}(P:Prop):List α->Nat->Prop
 |[],_=>P
 |_::_,0=>False
 |_::xs,n+1=>tQ P xs n
theorem AI{α:Type}{P:Prop}:∀{xs:List α} {n:Nat},tQ P xs n->xs.length≤n/\P
 |[],n,h=>⟨bp _,h⟩
 |_::_,0,h=>h.elim
 |_::xs,n+1,h=>by
  obtain⟨h1,h2⟩:=AI (xs:=xs) (n:=n) h;exact⟨Nat.succ_le_succ h1,h2⟩
theorem yU{n:Nat}(h:n≤64):n≤au:=av h (by decide)
def ky(t:dF):aP:=fun τ G Q=>t τ G fun ds G1=>tQ (Q (.tup ds) G1) ds 64
def fh(t:dF):aP:=fun τ G Q=>t τ G fun ds G1=>tQ (∀p G2,cw G1 p (.lst ds) G2->Q (.obj p) G2) ds 64
theorem Uk{t:dF}{x1}(h:ki X es t):bS X (.Tuple es x1 pos) (ky t):=jG (Vg h) fun σ H Q h=>by
 obtain⟨τ,G,Q3,RS,RG,h,k⟩:=h;refine⟨τ,G,_,RS,RG,h,fun vs H1 ds G1 h1 S1 R1 q1=>?_⟩;obtain⟨z,q1⟩:=AI q1;refine⟨by rw[←h1.length];exact yU z,fun p hp=>?_⟩;refine k _ _ (.tup ds) G1 ?_ (S1.trans (.laid hp)) (R1.laid hp) q1;unfold Hv;exact⟨p,vs,rfl,.of gW,h1.ext (.laid hp)⟩
theorem Uj{t:dF}(h:ki X es t):bS X (.List es pos) (fh t):=jG (Kr h) fun σ H Q h=>by
 obtain⟨τ,G,Q3,RS,RG,h,k⟩:=h;refine⟨τ,G,_,RS,RG,h,fun vs H1 ds G1 h1 S1 R1 q1=>?_⟩;obtain⟨z,q1⟩:=AI q1;refine⟨by rw[←h1.length];exact yU z,fun p hp=>?_⟩;exact k _ _ (.obj p) (du G1 p (.lst ds)) (by simp[Hv]) (S1.trans (.hJ hp)) (R1.hJ hp ⟨vs,gW,h1.ext (.laid hp)⟩) (q1 p _ (.mk' (R1.free hp)))
end
end L3
namespace L2
open PySem PySem.Spec PyProof.Rows
def mV(env:dm):List (ξ×fJ)->List (ξ×ζ)->List (ξ×ζ)
 |[],acc=>acc
 | (n,k)::r,acc=>mV env r (if k=.free then (n,(env.cells.lookup n).getD 0)::acc else acc)
theorem KH{scope:dZ}{env:dm}(h:∀y∈scope.names,y.2=.free->∃c,env.cells.lookup y.1=some c):closureFor scope env=pure (mV env scope.names []):=by
 have key:∀(l:List (ξ×fJ)) (acc:List (ξ×ζ)),(∀y∈l,y.2=.free->∃c,env.cells.lookup y.1=some c) ->
   (forIn l acc fun (x:ξ×fJ) (r:List (ξ×ζ))=>(do
    if (x.2==cU)=true then do
     let a ←cellOf env x.1
     pure (ie ((x.1,a)::r))
    else pure (ie r):kL (ForInStep (List (ξ×ζ)))))=pure (mV env l acc):=by
  intro l
  induction l with
  |nil=>intro acc _;rfl
  |cons y r ih=>
   intro acc hy;obtain⟨n,k⟩:=y;rw[mr];by_cases hk:k=.free
   ·obtain⟨c,hc⟩:=hy (n,k) Γ hk;have e1:cellOf env n=pure c:=by unfold cellOf;rw[show env.cells.lookup n=some c from hc]
    subst hk;simp only[beq_self_eq_true,if_true,e1,pure_bind];rw[ih _ fun y hy'=>hy y (Δ _ hy')];show _=pure (mV env r (if cU=cU then (n,(env.cells.lookup n).getD 0)::acc else acc));rw[if_pos rfl,show env.cells.lookup n=some c from hc];rfl
   ·have hb:(k==cU)=false:=by simpa using hk
    simp only[hb,dD,if_false,pure_bind];rw[ih _ fun y hy'=>hy y (Δ _ hy')];show _=pure (mV env r (if k=cU then (n,(env.cells.lookup n).getD 0)::acc else acc));rw[if_neg hk]
 have:=key scope.names [] h;unfold closureFor
 first
  |exact (by simpa using this)
  | (simp only[bind_pure];exact this)
theorem KG{env:dm}{x:ξ}{c:ζ}:∀(l:List (ξ×fJ)) (acc:List (ξ×ζ)),(mV env l acc).lookup x=some c ->
  acc.lookup x=some c∨((x,cU)∈l/\c=(env.cells.lookup x).getD 0)
 |[],_,h=>.inl h
 | (n,k)::r,acc,h=>by
  rcases KG r _ h with q|⟨q1,q2⟩
  ·by_cases hk:k=.free
   ·rw[if_pos hk,cz] at q;by_cases hx:(x==n)=true
    ·rw[hx] at q;have hx':x=n:=by simpa using hx
     subst hx' hk;exact .inr ⟨Γ,(aJ q).symm⟩
    ·have hx2:(x==n)=false:=by simpa using hx
     rw[hx2] at q;exact .inl q
   ·rw[if_neg hk] at q;exact .inl q
  ·exact .inr ⟨Δ _ q1,q2⟩
theorem KE{env:dm}{x:ξ}:∀(l:List (ξ×fJ)) (acc:List (ξ×ζ)),acc.lookup x=some ((env.cells.lookup x).getD 0)->(mV env l acc).lookup x=some ((env.cells.lookup x).getD 0)
 |[],_,h=>h
 | (n,k)::r,acc,h=>by
  refine KE r _ ?_;by_cases hk:k=.free
  ·rw[if_pos hk,cz];by_cases hx:(x==n)=true
   ·rw[hx];have hx':x=n:=by simpa using hx
    rw[hx']
   ·have hx2:(x==n)=false:=by simpa using hx
    rw[hx2];exact h
  ·rw[if_neg hk];exact h
theorem KC{env:dm}{x:ξ}:∀(l:List (ξ×fJ)) (acc:List (ξ×ζ)),(x,cU)∈l->(mV env l acc).lookup x=some ((env.cells.lookup x).getD 0)
 |[],_,h=>by cases h
 | (n,k)::r,acc,h=>by
  rcases aa.mp h with e|e
  ·cases e;refine KE r _ ?_;rw[if_pos rfl,cz,beq_self_eq_true]
  ·exact KC r _ e
structure dJ(N:List ξ)(sc scope:dZ)(own:List ξ)(js:List Nat):Prop where
 kind:scope.kind=.function
 Ck:∀y∈scope.names,y.2≠.cell
 names:∀y∈scope.names,y.2=.local->scope.names.lookup y.1=some .local
 free:∀y∈scope.names,y.2=.free->sc.names.lookup y.1=some .cell/\own.contains y.1=false
 only:∀y∈scope.names,y.2=.free->scope.names.lookup y.1=some .free
 js:∀j∈js,j<N.length/\(N.getD j iN,cU)∈scope.names
def Yv(N own:List ξ)(js:List Nat):List ξ:=own++js.map fun j=>N.getD j iN
def uL(own:List ξ)(js:List Nat)(σ:St):St:=aj own.length none++js.map fun j=>(σ[j]?).getD none
def Cx.cmp(X:Cx)(scope:dZ)(own:List ξ)(js:List Nat)(s:θ)(H:Hp)(fp:List ζ):Cx:=
 { X with N:=Yv X.N own js,s₀:=s,H₀:=H,env:=compEnvC scope (mV X.env scope.names []) s.heap.objs.size X.env,outer:=X.stack,ex:=fp,fn:=fun x=>own.contains x,pn:=[],xe:=fun _ _=>False }
theorem AH{sc:dZ}{env:dm}{x:ξ}{k:fJ}:∀(names:List (ξ×fJ)),
  (names.map fun (n,k)=>if (k==cU&&env.scope.kind==.function&&env.kindOf n==some .cell) then (n,tj) else (n,k)).lookup x=some k ->
  (names.lookup x=some k/\(k≠.free∨k=.free))∨(k=.cell/\names.lookup x=some .free)
 |[],h=>by simp at h
 | (n,k')::r,h=>by
  have ih:=@AH sc env x k r;have h':List.lookup x ((if (k'==cU&&env.scope.kind==.function&&env.kindOf n==some .cell)=true then (n,tj) else (n,k'))::_)=some k:=h;rw[cz];by_cases hc:(k'==cU&&env.scope.kind==.function&&env.kindOf n==some .cell)=true
  ·rw[if_pos hc,cz] at h';cases hx:x==n with
   |true=>
    rw[hx] at h';have e:tj=k:=aJ h';have hk':k'=.free:=by
     rw[cM,cM] at hc;simpa using hc.1.1
    exact .inr ⟨e.symm,by rw[hk']⟩
   |false=>
    rw[hx] at h';exact ih h'
  ·rw[if_neg hc,cz] at h';cases hx:x==n with
   |true=>
    rw[hx] at h';have e:k'=k:=aJ h';subst e;exact .inl ⟨rfl,by by_cases z:k'=.free;exact .inr z;exact .inl z⟩
   |false=>
    rw[hx] at h';exact ih h'
theorem Ej{x:ξ}{k:fJ}{l:List (ξ×fJ)}(h:l.lookup x=some k):(x,k)∈l:=fE h
section
variable {X:Cx} {pins:List (ζ×aK)} {σ:St} {H:Hp} {s:θ} {scope:dZ} {own:List ξ} {js:List Nat} {fp:List ζ}
theorem dJ.cells(C:dJ X.N X.env.scope scope own js)(ok:X.Ok):∀y∈scope.names,y.2=.free->∃c,X.env.cells.lookup y.1=some c:=fun y hy e=>
 ok.has y.1 (.inl (C.free y hy e).1)
theorem dJ.uN(C:dJ X.N X.env.scope scope own js)(ok:X.Ok){x:ξ}{c:ζ}(h:(mV X.env scope.names []).lookup x=some c):(x,cU)∈scope.names/\X.env.cells.lookup x=some c:=by
 rcases KG scope.names [] h with q|⟨q1,q2⟩
 ·cases q
 ·obtain⟨c',e⟩:=C.cells ok _ q1 rfl;refine⟨q1,?_⟩;rw[q2,show X.env.cells.lookup x=some c' from e];rfl
theorem dJ.Cs(C:dJ X.N X.env.scope scope own js)(ok:X.Ok){x:ξ}(h:(x,cU)∈scope.names):∃c,(mV X.env scope.names []).lookup x=some c/\X.env.cells.lookup x=some c:=by
 obtain⟨c,e⟩:=C.cells ok _ h rfl;refine⟨c,?_,e⟩;rw[KC scope.names [] h,show X.env.cells.lookup x=some c from e];rfl
theorem Inv.Mi(I:Inv X pins σ H s)(C:dJ X.N X.env.scope scope own js)(hf:∀b∈fp,kz X pins H b/\b<s.heap.objs.size):(X.cmp scope own js s H fp).Ok where
 mod:=I.ok.mod
 kind:=C.kind
 glob:=I.ok.glob
 blt:=I.ok.blt
 above:=Ψ _
 inj:=fun x y c h1 h2=>I.ok.inj x y c (C.uN I.ok h1).2 (C.uN I.ok h2).2
 has:=fun x h=>by
  have hfree:(x,cU)∈scope.names:=by
   rcases h with h|h
   ·rcases AH (sc:=scope) (env:=X.env) scope.names h with⟨q,_⟩|⟨_,q⟩
    ·exact absurd rfl (C.Ck _ (Ej q))
    ·exact Ej q
   ·rcases AH (sc:=scope) (env:=X.env) scope.names h with⟨q,_⟩|⟨q,_⟩
    ·exact Ej q
    ·cases q
  obtain⟨c,e,_⟩:=C.Cs I.ok hfree;exact⟨c,e⟩
 zE:=fun x c h1 h2=>by
  have q:=(C.free _ (C.uN I.ok h2).1 rfl).2;have h1':own.contains x=true:=h1;rw[q] at h1';cases h1'
 hd:=I.ok.hd
 frames:=I.ok.frames
 B7:=.inl rfl
 Cq:=fun b hb=>⟨bh (hf b hb).2,fun x c e=>(hf b hb).1.2.2.2.2.1 x c (C.uN I.ok e).2⟩
 bs:=I.bs
 ug:=av I.ok.ug I.sz
 vS:=fun b o e hb=>by
  rcases (hf b hb).1.2.2.2.1 with z|z
  ·exact I.ok.vS b o e z
  ·exact absurd (bE (Θ e) (av I.ok.ug z)) (cy _)
 xq:=fun b hb z=>by
  rcases aa.mp (I.tP b z) with e|e
  ·exact (hf b hb).1.2.1 e
  ·exact (hf b hb).1.2.2.1 e
 lW:=I.stack
 xB:=I.lA
theorem Ui{N:List ξ}{js:List Nat}{i:Nat}{x:ξ}(h:(js.map fun j=>N.getD j iN)[i]?=some x):∃j,js[i]?=some j/\x=N.getD j iN:=by
 rw[aE] at h;cases e:js[i]? with
 |none=>rw[e] at h;cases h
 |some j=>rw[e] at h;exact⟨j,rfl,(aJ h).symm⟩
theorem Inv.cmp(I:Inv X pins σ H s)(C:dJ X.N X.env.scope scope own js)(hf:∀b∈fp,kz X pins H b/\b<s.heap.objs.size){h':Φ}{tk:Nat}(hn:h'.Ns s.heap.objs.size fun _=>none)
  (kept:∀b o,s.heap.get? b=some o->h'.get? b=some o):Inv (X.cmp scope own js s H fp) [] (uL own js σ) H { s with heap:=h',toks:=tk }:=by
 have ok:=I.Mi C hf;refine⟨ok,rfl,I.bare,Un.kept kept,⟨_,hn,fun i x v h1 h2 h3=>?_⟩,fun x c e=>?_,I.bR.fresh (Ψ _),fun x c e=>I.j0 x c (C.uN I.ok e).2,fun p hp=>?_,I.bR.kept kept,?_⟩
 ·have h1':(own++js.map fun j=>X.N.getD j iN)[i]?=some x:=h1;have h2':(aj own.length none++js.map fun j=>(σ[j]?).getD none)[i]?=some (some v):=h2;by_cases hi:i<own.length
  ·rw[e7 (by simpa using hi),fA,if_pos hi] at h2';cases h2'
  ·rw[eO (by lia)] at h1';rw[eO (by simp;lia),gk] at h2';obtain⟨j,hj,rfl⟩:=Ui h1';rw[aE,hj] at h2';have h2'':(σ[j]?).getD none=some v:=aJ h2';have hσ:σ[j]?=some (some v):=by
    cases e:σ[j]? with
    |none=>rw[e] at h2'';cases h2''
    |some o=>
     rw[e] at h2'';have:o=some v:=h2'';rw[this]
   obtain⟨jl,jf⟩:=C.js j (bZ hj);have hN:X.N[j]?=some (X.N.getD j iN):=by
    rw[bw,aw jl];rfl
   have hcell:=(C.free _ jf rfl).1;obtain⟨m,hm,hl⟩:=I.loc;obtain⟨u,ru,lk⟩:=hl j _ v hN hσ (.inr (.inl hcell));refine⟨u,ru,?_⟩;obtain⟨c,e1,e2⟩:=C.Cs I.ok jf;rcases lk with⟨z,_⟩|⟨_,c',z1,z2⟩
   ·have z':X.env.scope.names.lookup (X.N.getD j iN)=some .local:=z;rw[show X.env.scope.names.lookup (X.N.getD j iN)=some .cell from hcell] at z';cases z'
   ·rw[e2] at z1;cases z1;have ic:h'.IsCell c (some u):=by
     obtain⟨o,q1,q2⟩:=z2;exact⟨o,kept _ _ q1,q2⟩
    rcases h3 with h3|h3|h3
    ·exfalso;rcases AH (sc:=scope) (env:=X.env) scope.names h3 with⟨q,_⟩|⟨q,_⟩
     ·have z:=C.only _ jf rfl;rw[q] at z;cases z
     ·cases q
    ·exact .inr ⟨.inl h3,c,e1,ic⟩
    ·exact .inr ⟨.inr h3,c,e1,ic⟩
 ·obtain⟨v,o,q1,q2⟩:=I.cell x c (C.uN I.ok e).2;exact⟨v,o,kept _ _ q1,q2⟩
 ·exact absurd (show p∈([]:List (ζ×aK)) from hp) (by simp)
 ·show (aj own.length none++js.map fun j=>(σ[j]?).getD none).length=(own++js.map fun j=>X.N.getD j iN).length;simp
theorem Inv.LG{σ':St}{H':Hp}{s':θ}{pl:List (ζ×aK)}(I:Inv X pins σ H s)(hf:∀b∈fp,kz X pins H b/\b<s.heap.objs.size)(J:Inv (X.cmp scope own js s H fp) pl σ' H' s'):Inv X pins σ H' s':=by
 refine I.BP (ch:=fp) J.os J.base J.bR J.bare fun b hb=>?_;obtain⟨f0,f1,f2,f3,f4,f5⟩:=(hf b hb).1;exact⟨f3,f1,f4,f5⟩
theorem Inv.other{H':Hp}{s':θ}{h':Φ}{b:ζ}(I0:Inv X pins σ H s)(I:Inv X pins σ H' s')(hb:s.heap.objs.size≤b)(hn:H' b=none)(sb:cL b s'.heap h'):Inv X pins σ H' { s' with heap:=h' }:=by
 obtain⟨f0,f1,f2,f3,f4,f5⟩:=I0.ud hb hn;exact I.turned (t':=s'.toks) (fun c o hc e=>(sb.2 c hc).trans e) f0 f1 f3 f4 f5
end
def vj(X:Cx)(ifs:List υ)(t:TT):Prop:=
 ∀(pins:List (ζ×aK)) (s:θ) (σ:St) (H:Hp) (Q:Bool->Hp->Prop),Inv X pins σ H s->t σ H Q ->
  ρ (model X.prog X.w) X.A (forIn ifs true fun c r=>if r=true then do let ok ←isTrue c X.env (eval c X.env);pure (ie ok) else pure (ie r)) (TP X pins σ Q) X.xe s
def FJ:TT:=fun _ H Q=>Q true H
theorem Uh{X:Cx}:vj X [] FJ:=fun _ _ _ H _ I h=>wpAny_tests_nil ⟨H,I,h⟩
theorem Ug{X:Cx}{c:υ}{t:TT}(h:PT X c t):vj X [c] t:=fun pins s σ H Q I hq=>wpAny_tests_one (h pins s σ H Q I hq)
section
variable {prog:ah} {w:ax} {A:aL} {R:Result->θ->Prop} {s:θ}
theorem UR{elt target iter:υ}{ifs:List υ}{scope:dZ}{pos:aQ}{it acc:ε}{env:dm}(I:Nat->θ->Prop)
  (turn:∀n s,I n s->ρ (model prog w) A (pyNext it) (fun r s₁=>match r with
   |none=>R (.ok .next) s₁
   | some v=>ρ (model prog w) A (letOwnedTupleGo target it v) (fun _ s₁'=>ρ (model prog w) A (assign target env v) (fun _ s₂=>
     ρ (model prog w) A (forIn ifs true fun c r=>if r=true then do let ok ←isTrue c env (eval c env);pure (ie ok) else pure (ie r)) (fun ok s₃=>
      if ok=true then ρ (model prog w) A (eval elt env) (fun x s₄=>
       ρ (model prog w) A (call (.builtin "list.append") [acc,x]) (fun _ s₅=>∃m,m<n/\I m s₅) (fun _ _=>False) s₄) (fun _ _=>False) s₃
      else ∃m,m<n/\I m s₃) (fun _ _=>False) s₂) (fun _ _=>False) s₁') (fun _ _=>False) s₁) (fun _ _=>False) s)
  (n:Nat) (h:I n s):
  iG (model prog w) A (.compLoop (.ListComp elt [⟨target,iter,ifs,0⟩] scope pos) 0 it acc env) R s:=by
 refine codeAny_loop rfl I (fun n s hI=>?_) n h;show ρ _ A ((compTurn (.ListComp elt [⟨target,iter,ifs,0⟩] scope pos) 0 it acc env).onRaise (fun x=>do noteFrame x env;theTreesLotGoes x)) _ _ s
 refine wpAny_noted ?_;rw[compTurn_list];refine δ (g7 (δ (cO (turn n s hI) (fun r s₁ h₁=>?_) fun _ _ h'=>h'.elim)));cases r with
 |none=>exact ι h₁
 |some v=>
  refine δ (cO h₁ (fun _ s₁' h₁'=>?_) fun _ _ h'=>h'.elim);refine δ (cO h₁' (fun _ s₂ h₂=>δ (cO h₂ (fun ok s₃ h₃=>?_) fun _ _ h'=>h'.elim)) fun _ _ h'=>h'.elim);cases ok with
  |false=>exact ι ⟨rfl,h₃⟩
  |true=>
   exact δ (δ (cO h₃ (fun x s₄ h₄=>δ (cO h₄ (fun _ s₅ h₅=>ι (ι ⟨rfl,h₅⟩)) fun _ _ h'=>h'.elim)) fun _ _ h'=>h'.elim))
end
def Lq(own:List ξ)(js:List Nat)(g:TG)(tc:TT)(te:TE)(J:It)(σ:St)(H:Hp)(Q:VK):Prop:=
 ∀D,H D=none->∃W:Nat->Nat->List V->St->Hp->Prop,(∃m,W 0 m [] (uL own js σ) (upd H D (.lst [])))/\∀i m ys σ' H',W i m ys σ' H'->H' D=some (.lst ys) ∧
  ((J.stop i H'/\Q (.ref D) H')∨(J.go i H'/\ys.length<au/\∀x H2,J.EX i H' x H2->g x σ' H2 fun σ2 H3=>tc σ2 H3 fun b H4=>
   if b=true then te σ2 H4 fun v H5=>H5 D=some (.lst ys)/\∃m',m' < m/\W (i+1) m' (ys++[v]) σ2 (upd H5 D (.lst (ys++[v]))) else ∃m',m' < m/\W (i+1) m' ys σ2 H4))
def Gk(own:List ξ)(js:List Nat)(wi:TI)(g:TG)(tc:TT)(te:TE):TE:=fun σ H Q=>wi σ H fun J H1=>Lq own js g tc te J σ H1 Q
section
variable {X:Cx} {tg iter elt:υ} {ifs:List υ} {scope:dZ} {pos:aQ} {own:List ξ} {js:List Nat} {g:TG} {tc:TT} {te:TE}
theorem KA{pins:List (ζ×aK)}{σ:St}{H:Hp}{s:θ}{Q:VK}{it:ζ}{fp:List ζ}{tn:Nat->Φ->Prop}{J:It}{E:ε->θ->Prop}{RR:ε->ζ->Result->θ->Prop}
  (hc:X.calm=true) (C:dJ X.N X.env.scope scope own js)
  (hb:∀s H fp,PG (X.cmp scope own js s H fp) tg g/\vj (X.cmp scope own js s H fp) ifs tc/\PE (X.cmp scope own js s H fp) elt te)
  (I:Inv X pins σ H s) (T:Turn X.prog X.w X.K tg J fp it tn) (st:tn 0 s.heap) (hf:∀b∈fp,kz X pins H b) (rd:Lq own js g tc te J σ H Q)
  (YR:∀D N s' H',Inv X pins σ H' s'->Q (.ref D) H'->s.heap.objs.size≤N->H' N=none->(∃m,s'.heap.Ns N m)->RR (.ref D) N (.ok .next) s'):
  ρ (model X.prog X.w) X.A (newList []) (fun acc s₃=>ρ (model X.prog X.w) X.A (newFunctionEnv scope X.env.globals (mV X.env scope.names []) [] X.env.qual none .none (some X.env)) (fun cenv s₄=>
   iG (model X.prog X.w) X.A (.compStart (.ListComp elt [⟨tg,iter,ifs,0⟩] scope pos) 0 (.ref it) acc { cenv with scope:=relabel scope X.env }) (RR acc cenv.locals) s₄) E s₃) E s:=by
 have hD:H s.heap.objs.size=none:=I.fresh;obtain⟨W,⟨m0,w0⟩,turn⟩:=rd s.heap.objs.size hD;refine bC ?_;have hI3:Inv X pins σ (upd H s.heap.objs.size (.lst [])) { s with heap:=s.heap.push { cls:=.type "list",data:=.seq ([]:List ε).toArray }}:=
  I.A8 (t':=s.toks) (its:=[]) (ys:=[]) .nil (bp _)
 have hlt:∀b∈fp,b<s.heap.objs.size:=fun b hb=>by
  obtain⟨o,e,_⟩:=T.obj 0 _ st b hb;exact Θ e
 have st3:tn 0 (s.heap.push { cls:=.type "list",data:=.seq ([]:List ε).toArray }):=T.keep 0 _ _ st fun b _ o e=>μ _ e;generalize hs3:({ s with heap:=s.heap.push { cls:=.type "list",data:=.seq ([]:List ε).toArray }}:θ)=s3 at hI3 ⊢;have hsz3:s3.heap.objs.size=s.heap.objs.size+1:=by rw[←hs3];exact dN ..
 have st3':tn 0 s3.heap:=by rw[←hs3];exact st3
 have hf3:∀b∈fp,kz X pins (upd H s.heap.objs.size (.lst [])) b/\b<s3.heap.objs.size:=fun b hb=>by
  obtain⟨f0,f1⟩:=hf b hb;refine⟨⟨?_,f1⟩,by rw[hsz3];exact ix (hlt b hb)⟩;rw[dz (bh (hlt b hb))];exact f0
 refine wpAny_newFunctionEnv C.Ck (by intro y hy;simp at hy) (fun h₁ hns₁ hsb₁=>?_) C.kind;have kept1:∀b o,s3.heap.get? b=some o->h₁.get? b=some o:=fun b o e=>(hsb₁.2 b (bh (Θ e))).trans (μ _ e);have I4:Inv (X.cmp scope own js s3 (upd H s.heap.objs.size (.lst [])) fp) [] (uL own js σ) (upd H s.heap.objs.size (.lst [])) { s3 with heap:=h₁,toks:=s3.toks+([]:List (ξ×ε)).length }:=
  hI3.cmp C hf3 hns₁ kept1
 have st4:tn 0 h₁:=T.keep 0 _ _ st3' fun b _ o e=>kept1 b o e;obtain⟨hg,ht,he⟩:=hb s3 (upd H s.heap.objs.size (.lst [])) fp
 -- the iterator's objects in the block's context
 have stat:∀{H':Hp},(∀b∈fp,H' b=none)->∀b∈fp,kz (X.cmp scope own js s3 (upd H s.heap.objs.size (.lst [])) fp) [] H' b:=fun {H'} hn b hb=>by
  have q:=I4.ok;exact⟨hn b hb,(q.Cq b hb).1,q.xq b hb,.inl hb,(q.Cq b hb).2,fun p hp=>absurd (show p∈([]:List (ζ×aK)) from hp) (by simp)⟩
 have loop:iG (model X.prog X.w) X.A (.compLoop (.ListComp elt [⟨tg,iter,ifs,0⟩] scope pos) 0 (.ref it) (.ref s.heap.objs.size) (compEnvC scope (mV X.env scope.names []) s3.heap.objs.size X.env))
   (RR (.ref s.heap.objs.size) s3.heap.objs.size) { s3 with heap:=h₁,toks:=s3.toks+([]:List (ξ×ε)).length }:=by
  refine UR (fun n s'=>∃i ys σ' H',Inv (X.cmp scope own js s3 (upd H s.heap.objs.size (.lst [])) fp) [] σ' H' s'/\tn i s'.heap/\(∀b∈fp,H' b=none)/\W i n ys σ' H') ?_ m0
   ⟨0,[],_,_,I4,st4,fun b hb=>(hf3 b hb).1.1,w0⟩
  rintro n s5 ⟨i,ys,σ5,H5,I5,st5,fr5,w5⟩;obtain⟨hacc,hcase⟩:=turn i n ys σ5 H5 w5;rcases hcase with⟨stop,qn⟩|⟨go,hys,step⟩
  ·refine bN (T.done (X.cmp scope own js s3 (upd H s.heap.objs.size (.lst [])) fp) rfl rfl rfl hc i [] s5 σ5 H5 (fun _ _=>False) I5 (stat fr5) st5 stop) fun r s6 ⟨hr,I6⟩=>?_;subst hr;have I7:=hI3.LG hf3 I6;obtain⟨m,hm,_⟩:=I6.loc;exact YR _ _ _ _ I7 qn (by rw[hsz3];exact qP _) I6.free ⟨m,hm⟩
  ·refine bN (T.item (X.cmp scope own js s3 (upd H s.heap.objs.size (.lst [])) fp) rfl rfl rfl hc i [] s5 σ5 H5 (fun _ _=>False) I5 (stat fr5) st5 go) fun r s6 ⟨u,hr,h6⟩=>?_;subst hr;refine bN h6 fun _ s7 ⟨x,H7,I7,r7,y7,st7,fr7⟩=>?_;have I7':=I7.pinned (stat fr7) (T.obj _ _ st7);refine bN (hg _ s7 σ5 H7 x u _ I7' r7 (step x H7 y7)) fun _ s8 ⟨σ8,H8,I8,q8⟩=>?_;refine bN (ht _ s8 σ8 H8 _ I8 q8) fun ok s9 ⟨H9,I9,q9⟩=>?_;have back:∀{σ':St} {H':Hp} {s':θ} {ys':List V},Inv (X.cmp scope own js s3 (upd H s.heap.objs.size (.lst [])) fp) ([]++t7 fp s7.heap) σ' H' s'->(∃m',m' < n/\W (i+1) m' ys' σ' H') ->
     ∃m',m' < n/\∃i ys σ' H',Inv (X.cmp scope own js s3 (upd H s.heap.objs.size (.lst [])) fp) [] σ' H' s'/\tn i s'.heap/\(∀b∈fp,H' b=none)/\W i m' ys σ' H':=fun {σ' H' s' ys'} I' ⟨m',hm,w'⟩=>by
    refine⟨m',hm,i+1,ys',σ',H',I'.rP,T.keep _ _ _ st7 fun b hb o e=>(I'.pin (b,o) (aV _ (aV _ (AM hb e)))).1,fun b hb=>?_,w'⟩;obtain⟨o,e,d⟩:=T.obj _ _ st7 b hb;exact (I'.pin (b,o) (aV _ (aV _ (AM hb e)))).2.1
   cases ok with
   |false=>
    rw[if_neg az] at q9 ⊢;exact back I9 q9
   |true=>
    rw[if_pos rfl] at q9 ⊢;refine bN (he _ s9 σ8 H9 _ I9 q9) fun xv s10 ⟨v,H10,I10,r10,hD10,q10⟩=>?_;refine bN (D4 (X:=X.cmp scope own js s3 (upd H s.heap.objs.size (.lst [])) fp) _ s10 σ8 H10 (.ref s.heap.objs.size) [v] (.ref s.heap.objs.size) [xv] (fun _ H'=>H'=upd H10 s.heap.objs.size (.lst (ys++[v]))) I10 rfl (.cons r10 .nil)
     ⟨_,ys,v,rfl,rfl,hD10,hys,rfl⟩) fun _ s11 ⟨_,H11,I11,_,e11⟩=>?_
    subst e11;exact back I11 q10
 exact codeAny_compStart_list loop (T.self _ 0 _ _ _ st4 loop)
theorem UQ{wi:TI}(hc:X.calm=true)(C:dJ X.N X.env.scope scope own js)(hi:PI X tg iter wi)
  (hb:∀s H fp,PG (X.cmp scope own js s H fp) tg g/\vj (X.cmp scope own js s H fp) ifs tc/\PE (X.cmp scope own js s H fp) elt te)
  (hs:∀x,foldedSetIterable iter X.env x=pure x:=by intro _;rfl):PE X (.ListComp elt [⟨tg,iter,ifs,0⟩] scope pos) (Gk own js wi g tc te):=by
 intro pins s σ H Q I h;rw[eval_ListComp];refine pI (use:=none) rfl hs (KH (C.cells I.ok)) C.kind C.names (bN (hi pins s σ H _ I h) fun xv s₁ h₁=>bN h₁ fun itv s₂ h₂=>?_);obtain⟨it,fp,tn,J,H2,e,I2,T,st2,f2,rd⟩:=h₂;subst e;refine KA (RR:=fun acc C'=>compPost (model X.prog X.w) X.A X.xe none (EP X pins σ Q) acc C') hc C hb I2 T st2 f2 rd fun D N s' H' I' q hN hHN ⟨m,hm⟩=>?_;exact⟨m,hm,fun h' sb=>⟨.ref D,H',I2.other I' hN hHN sb,rfl,q⟩⟩
theorem UP{wi:TI}{i:Nat}{y:ξ}{py spos:aQ}(hc:X.calm=true)(hN:X.N.Nodup)(hy:X.N[i]?=some y)(hyl:X.env.scope.names.lookup y=some .local)(C:dJ X.N X.env.scope scope own js)(hi:PI X tg iter wi)
  (hb:∀s H fp,PG (X.cmp scope own js s H fp) tg g/\vj (X.cmp scope own js s H fp) ifs tc/\PE (X.cmp scope own js s H fp) elt te)
  (Cp:swapsWith (.ListComp elt [⟨tg,iter,ifs,0⟩] scope pos) (some (.Name y py)) spos.line X.env=pure true:=by rfl)
  (hs:∀x,foldedSetIterable iter X.env x=pure x:=by intro _;rfl):PS X (.Assign [.Name y py] (.ListComp elt [⟨tg,iter,ifs,0⟩] scope pos) spos) (CA (Gk own js wi g tc te) (Bc i)):=by
 intro pins s σ H D I h;rw[exec_Assign_Name_used _ _ _ _ Cp];refine δ (g7 (δ ?_));show ρ _ X.A (do let _ ←comprehension (.ListComp elt [⟨tg,iter,ifs,0⟩] scope pos) scope X.env _ (newList []) false (eval iter X.env) (some (assign (.Name y py) X.env))) _ _ s;refine δ (cO (pI (use:=some (assign (.Name y py) X.env)) (Q:=fun _ s'=>SP X pins D .next s') rfl hs (KH (C.cells I.ok)) C.kind C.names
  (bN (hi pins s σ H _ I h) fun xv s₁ h₁=>bN h₁ fun itv s₂ h₂=>?_)) (fun _ s' hq=>ι (ι hq)) fun _ _ e=>e)
 obtain⟨it,fp,tn,J,H2,e,I2,T,st2,f2,rd⟩:=h₂;subst e;refine KA (RR:=fun acc C'=>compPost (model X.prog X.w) X.A X.xe (some (assign (.Name y py) X.env)) (fun _ s'=>SP X pins D .next s') acc C') hc C hb I2 T st2 f2 rd fun L N s' H' I' q hN' hHN ⟨m,hm⟩=>?_
 show ρ _ _ (assign (.Name y py) X.env (.ref L)) _ _ _;refine wpAny_assign_Name (D9 I' hN hy (.inl hyl) (v:=.ref L) rfl (fun s'' I'' ⟨a,sb,ha⟩=>?_) (.inr hyl));have hNa:N≠a:=by
  obtain⟨f0,f1,f2,f3,f4,f5⟩:=I2.ud hN' hHN;rcases ha with rfl|ha
  ·exact f1
  ·exact de (f4 _ _ ha)
 refine⟨m,hm.sameBut sb hNa,fun h'' sb''=>?_⟩;refine⟨σ.set i (some (.ref L)),H',?_,q⟩;obtain⟨f0,f1,f2,f3,f4,f5⟩:=I2.ud hN' hHN;exact I''.turned (t':=s''.toks) (fun c o hc e=>(sb''.2 c hc).trans e) f0 f1 f3 f4 f5
end
end L2
namespace L3
open PySem PySem.Spec PyProof.Rows L2
section
variable {X:Cx} {st:aR} {rest:List aR} {t u:ao} {e c:υ} {te:aP} {tc:cS} {pos:aQ}
def fZ:ao:=fun D τ G=>D.nx τ G
def aX(t u:ao):ao:=fun D τ G=>t { D with nx:=u D } τ G
theorem UO:jm X [] fZ:=KJ VU fun D σ H ⟨τ,G,D3,RS,RG,h,k⟩=>k.nx τ σ G H RS (.refl H G) RG h
theorem UN(h1:pF X st t)(h2:jm X rest u):jm X (st::rest) (aX t u):=KJ (VT h1 h2) fun D σ H ⟨τ,G,D3,RS,RG,h,k⟩=>
 ⟨τ,G,{ D3 with nx:=u D3 },RS,RG,h,⟨fun τ' σ' G' H' a b c q=>⟨τ',G',D3,a,c,q,k.step b⟩,k.bk,k.ct,k.rt⟩⟩
theorem UM(h1:pF X st t):jm X [st] t:=VS h1
def qg(te:aP):ao:=fun D τ G=>te τ G fun _ G1=>D.nx τ G1
theorem UL(he:bS X e te)(hs:swapsWith e none pos.line X.env=pure false:=by rfl):pF X (.Expr e pos) (qg te):=pj (VR he hs) fun D σ H ⟨τ,G,D3,RS,RG,h,k⟩=>
 ⟨τ,G,_,RS,RG,h,fun v H1 d G1 h1 S1 R1 q1=>k.nx τ σ G1 H1 (RS.ext (S1.ext RG)) S1 R1 q1⟩
def dh(te:aP):ao:=fun D τ G=>te τ G D.rt
theorem UK(he:bS X e te):pF X (.Return (some e) pos) (dh te):=pj (VQ he) fun D σ H ⟨τ,G,D3,RS,RG,h,k⟩=>
 ⟨τ,G,D3.rt,RS,RG,h,fun v H1 d G1 h1 S1 R1 q1=>k.rt d v G1 H1 h1 S1 R1 q1⟩
def kf(c:cS)(t u:ao):ao:=fun D τ G=>c τ G fun b G1=>Br b (t D τ G1) (u D τ G1)
theorem MW{a b:List aR}(hc:rf X c tc)(ha:jm X a t)(hb:jm X b u):pF X (.If c a b pos) (kf tc t u):=pj (VP hc ha hb) fun D σ H ⟨τ,G,D3,RS,RG,h,k⟩=>
 ⟨τ,G,_,RS,RG,h,fun b H1 G1 S1 R1 q1=>Br.ite q1 (fun q=>⟨τ,G1,D3,RS.ext (S1.ext RG),R1,q,k.step S1⟩) fun q=>⟨τ,G1,D3,RS.ext (S1.ext RG),R1,q,k.step S1⟩⟩
end
abbrev iM:=D->S3->Gp->(S3->Gp->Prop)->Prop
abbrev pD:=List D->S3->Gp->(S3->Gp->Prop)->Prop
def lowG(K:η)(t:iM):TG:=fun v σ H Q=>∃d τ G Q3,Hv K H d v/\eJ K τ σ H/\aT K G H/\t d τ G Q3/\∀τ' σ' G' H',eJ K τ' σ' H'->Step H G H' G'->aT K G' H'->Q3 τ' G'->Q σ' H'
def Mc(K:η)(t:pD):wz:=fun vs σ H Q=>∃ds τ G Q3,aO K H ds vs/\eJ K τ σ H/\aT K G H/\t ds τ G Q3/\∀τ' σ' G' H',eJ K τ' σ' H'->Step H G H' G'->aT K G' H'->Q3 τ' G'->Q σ' H'
abbrev wA(X:Cx)(tg:υ)(t:iM):Prop:=PG X tg (lowG X.K t)
abbrev zi(X:Cx)(tgs:List υ)(t:pD):Prop:=zj X tgs (Mc X.K t)
section
variable {X:Cx} {pos:aQ} {e:υ} {es:List υ}
theorem Ei{t t':TG}(h:PG X e t)(f:∀v σ H Q,t' v σ H Q->t v σ H Q):PG X e t':=fun pins s σ H v u Q I r q=>h pins s σ H v u Q I r (f v σ H Q q)
theorem Kz{t t':wz}(h:zj X es t)(f:∀v σ H Q,t' v σ H Q->t v σ H Q):zj X es t':=fun pins s σ H v u Q I r q=>h pins s σ H v u Q I r (f v σ H Q q)
def hName(i:Nat):iM:=fun d τ G Q=>Q (ko τ i d) G
theorem UJ{i:Nat}{x:ξ}(hN:X.N.Nodup)(hi:X.N[i]?=some x:=by rfl)(hx:Loc X.env.scope x:=by first|exact ur rfl|exact rF rfl)(hf:X.fn x=true∨X.env.scope.names.lookup x=some .local:=by first|exact .inl rfl|exact .inr rfl|assumption):wA X (.Name x pos) (hName i):=
 Ei (VO hN hi hx hf) fun v σ H Q ⟨d,τ,G,Q3,hd,RS,RG,h,k⟩=>k _ _ G H (RS.set hd) (.refl H G) RG h
def mU:pD:=fun ds τ G Q=>match ds with
 |[]=>Q τ G
 |_::_=>False
def eZ(t:iM)(u:pD):pD:=fun ds τ G Q=>match ds with
 |[]=>False
 |d::r=>t d τ G fun τ' G'=>u r τ' G' Q
theorem UI:zi X [] mU:=Kz VN fun vs σ H Q ⟨ds,τ,G,Q3,hd,RS,RG,h,k⟩=>by
 cases ds with
 |nil=>exact⟨hd.jk,k _ _ G H RS (.refl H G) RG h⟩
 |cons d r=>exact h.elim
theorem T1{t:iM}{u:pD}(h1:wA X e t)(h2:zi X es u)(hs:(assignEach (e::es) X.env).map (·.2)=assign e X.env::(assignEach es X.env).map (·.2):=by rfl):zi X (e::es) (eZ t u):=
 Kz (VM h1 h2 hs) fun vs σ H Q ⟨ds,τ,G,Q3,hd,RS,RG,h,k⟩=>by
  cases ds with
  |nil=>exact h.elim
  |cons d r=>
   obtain⟨v,vr,rfl,q1,q2⟩:=hd.inv;refine⟨v,vr,rfl,d,τ,G,_,q1,RS,RG,h,fun τ' σ' G' H' a b c q=>?_⟩;exact⟨r,τ',G',Q3,q2.ext (b.ext RG),a,c,q,fun τ2 σ2 G2 H2 a2 b2 c2=>k τ2 σ2 G2 H2 a2 (b.trans b2) c2⟩
def mT(n:Nat)(t:pD):iM:=fun d τ G Q=>match d with
 |.tup ds=>ds.length=n/\t ds τ G Q
 |_=>False
theorem TZ{k:Nat}{t:pD}{n:Nat}(hc:X.calm=true)(h:zi X es t)(hn:(assignEach es X.env).length=n:=by rfl)(hst:(assignEach es X.env).findIdx? (·.1)=none:=by rfl):wA X (.Tuple es k pos) (mT n t):=
 Ei (VL hc h hn hst) fun v σ H Q ⟨d,τ,G,Q3,hd,RS,RG,h,k⟩=>by
  cases d with
  |tup ds=>
   unfold Hv at hd;obtain⟨a,vs,e1,e2,e3⟩:=hd;exact⟨a,vs,e1,e2,by rw[←e3.length];exact h.1,ds,τ,G,Q3,e3,RS,RG,h.2,k⟩
  |_=>exact h.elim
def bz(te:aP)(g:iM):ao:=fun D τ G=>te τ G fun x G1=>g x τ G1 D.nx
theorem TY{tg:υ}{te:aP}{g:iM}(he:bS X e te)(hg:wA X tg g)(hs:swapsWithSole [tg] e pos.line X.env=pure false:=by rfl)(hw:swappedStores [tg] e X.env=pure none:=by rfl)
  (h1:(assignEach [tg] X.env).map (·.2)=[assign tg X.env]:=by rfl):pF X (.Assign [tg] e pos) (bz te g):=pj (VI he hg hs hw h1) fun D σ H ⟨τ,G,D3,RS,RG,h,k⟩=>
 ⟨τ,G,_,RS,RG,h,fun v H1 d G1 h1 S1 R1 q1=>⟨d,τ,G1,D3.nx,h1,RS.ext (S1.ext RG),R1,q1,fun τ' σ' G' H' a b c q=>k.nx τ' σ' G' H' a (S1.trans b) c q⟩⟩
theorem TX{i:Nat}{x:ξ}{te:aP}{pos':aQ}(hN:X.N.Nodup)(he:bS X e te)(hi:X.N[i]?=some x:=by rfl)(hx:Loc X.env.scope x:=by first|exact ur rfl|exact rF rfl)(hs:swapsWith e (some (.Name x pos')) pos.line X.env=pure false:=by rfl)
  (hf:X.fn x=true∨X.env.scope.names.lookup x=some .local:=by first|exact .inl rfl|exact .inr rfl|assumption):pF X (.Assign [.Name x pos'] e pos) (bz te (hName i)):=pj (VH hN hi hx he hs hf) fun D σ H ⟨τ,G,D3,RS,RG,h,k⟩=>
 ⟨τ,G,_,RS,RG,h,fun v H1 d G1 h1 S1 R1 q1=>k.nx _ _ G1 H1 ((RS.ext (S1.ext RG)).set h1) S1 R1 q1⟩
def CD(i j:Nat)(ta:dF):ao:=fun D τ G=>ta τ G fun ds G1=>match ds with
 |[a,b]=>D.nx (ko (ko τ i a) j b) G1
 |_=>False
theorem TV{i j:Nat}{st:aR}{ta:dF}(h:PS X st (Gi i j (vU X.K ta))):pF X st (CD i j ta):=pj h fun D σ H ⟨τ,G,D3,RS,RG,h,k⟩=>
 ⟨τ,G,_,RS,RG,h,fun vs H1 ds G1 h1 S1 R1 q1=>by
  match ds,h1,q1 with
  |[a,b],h1,q1=>
   obtain⟨v,r,rfl,z1,z2⟩:=h1.inv;obtain⟨w,r2,rfl,z3,z4⟩:=z2.inv;cases z4.jk;exact⟨v,w,rfl,k.nx _ _ G1 H1 (((RS.ext (S1.ext RG)).set z1).set z3) S1 R1 q1⟩
  |[],_,q1=>exact q1.elim
  |[_],_,q1=>exact q1.elim
  |_::_::_::_,_,q1=>exact q1.elim⟩
def zS:D->D->D->Gp->(Gp->Prop)->Prop:=fun o i v G Q=>match o,i with
 |.obj p,.int k=>∃ds j,G p=some (.lst ds)/\sV ds.length k=some j/\Q (du G p (.lst (ds.set j v)))
 |_,_=>False
def hSub(to ti:aP):iM:=fun v τ G Q=>to τ G fun o G1=>ti τ G1 fun i G2=>zS o i v G2 fun G3=>Q τ G3
theorem Ky{K:η}{o i v:D}{vo vi vv:V}{G:Gp}{H:Hp}{Q3:Gp->Prop}{Q:Hp->Prop}(ho:Hv K H o vo)(hi:Hv K H i vi)(hv:Hv K H v vv)(RG:aT K G H)(h:zS o i v G Q3)
  (k:∀H' G',Step H G H' G'->aT K G' H'->Q3 G'->Q H'):E8 vo vi vv H Q:=by
 match o,i,ho,hi,h with
 |.obj p,.int j,ho,hi,h=>
  unfold Hv at ho hi;obtain⟨ds,n,e1,e2,q⟩:=h;obtain⟨vs,e3,e4⟩:=RG p _ e1;refine⟨p,vs,j,n,ho,hi,e3,by rw[←e4.length];exact e2,k _ _ (Step.wrote (g:=.lst (ds.set n v)) e1) (RG.wrote e3 ⟨_,gW,?_⟩) q⟩;exact (e4.ext (Ext.wrote e3)).set n (hv.ext (Ext.wrote e3))
 |.obj _,.aC,_,_,h=>exact h.elim
 |.obj _,.bl _,_,_,h=>exact h.elim
 |.obj _,.str _,_,_,h=>exact h.elim
 |.obj _,.tup _,_,_,h=>exact h.elim
 |.obj _,.eS _,_,_,h=>exact h.elim
 |.obj _,.obj _,_,_,h=>exact h.elim
 |.obj _,.dc _,_,_,h=>exact h.elim
 |.dc _,_,_,_,h=>exact h.elim
 |.aC,_,_,_,h=>exact h.elim
 |.bl _,_,_,_,h=>exact h.elim
 |.int _,_,_,_,h=>exact h.elim
 |.str _,_,_,_,h=>exact h.elim
 |.tup _,_,_,_,h=>exact h.elim
 |.eS _,_,_,_,h=>exact h.elim
theorem TU{o i:υ}{to ti:aP}(ho:bS X o to)(hi:bS X i ti)
  (ha:∀v,assign (.Subscript o i pos) X.env v=(do
   let ov ←holding [v] (eval o X.env)
   let iv ←holding [v,ov] (eval i X.env)
   standAt pos
   holding [v,ov,iv] (setItem ov iv v)
   release [v,ov,iv] []):=by intro _;rfl):wA X (.Subscript o i pos) (hSub to ti):=Ei (VJ ho hi set_list ha) fun v σ H Q ⟨d,τ,G,Q3,hd,RS,RG,h,k⟩=>
 ⟨τ,G,_,RS,RG,h,fun v1 H1 d1 G1 h1 S1 R1 q1=>⟨τ,G1,_,RS.ext (S1.ext RG),R1,q1,fun v2 H2 d2 G2 h2 S2 R2 q2=>
  Ky (h1.ext (S2.ext R1)) h2 ((hd.ext (S1.ext RG)).ext (S2.ext R1)) R2 q2 fun H' G' y1 y2 y3=>k _ _ G' H' (((RS.ext (S1.ext RG)).ext (S2.ext R1)).ext (y1.ext R2)) ((S1.trans S2).trans y1) y2 y3⟩⟩
def zR(to ti te:aP)(f:Int->Int->Int):ao:=fun D τ G=>to τ G fun o G1=>ti τ G1 fun i G2=>match o,i with
 |.obj p,.int k=>∃ds x,G2 p=some (.lst ds)/\lE ds k=some (.int x)/\te τ G2 fun y G3=>match y with
  |.int y=>zS o i (.int (f x y)) G3 fun G4=>D.nx τ G4
  |_=>False
 |_,_=>False
def qZ(c:cS)(tb:ao):ao:=fun D τ G=>∃W:Nat->S3->Gp->Prop,(∃m,W m τ G)/\∀m τ G,W m τ G ->
 c τ G fun b G1=>Br b (tb { D with nx:=fun τ' G'=>∃m',m' < m/\W m' τ' G',ct:=fun τ' G'=>∃m',m' < m/\W m' τ' G',bk:=D.nx } τ G1) (D.nx τ G1)
theorem TQ{c:υ}{body:List aR}{tc:cS}{tb:ao}(hp:lG (model X.prog X.w) X.A X.env X.xe)(hc:rf X c tc)(hb:jm X body tb):pF X (.While c body [] pos) (qZ tc tb):=
 pj (VD hp hc hb) fun D σ H ⟨τ,G,D3,RS,RG,⟨W,⟨m0,w0⟩,turn⟩,k⟩=>by
  refine⟨fun m σ' H'=>∃τ' G',W m τ' G'/\eJ X.K τ' σ' H'/\aT X.K G' H'/\Step H G H' G',⟨m0,τ,G,w0,RS,RG,.refl H G⟩,fun m σ1 H1 ⟨τ1,G1,w1,RS1,RG1,S1⟩=>?_⟩;refine⟨τ1,G1,_,RS1,RG1,turn m τ1 G1 w1,fun b H2 G2 S2 R2 q2=>Br.ite q2 (fun q=>?_) fun q=>k.nx _ _ G2 H2 (RS1.ext (S2.ext RG1)) (S1.trans S2) R2 q⟩;refine⟨fun σ' H'=>∃τ' G',(∃m',m' < m/\W m' τ' G')/\eJ X.K τ' σ' H'/\aT X.K G' H'/\Step H G H' G',fun σ' H' ⟨τ',G',⟨m',hm,w'⟩,a,b,c⟩=>⟨m',hm,τ',G',w',a,b,c⟩,?_⟩;refine⟨τ1,G2,_,RS1.ext (S2.ext RG1),R2,q,⟨?_,?_,?_,?_⟩⟩
  ·exact fun τ' σ' G' H' a b c q=>⟨τ',G',q,a,c,(S1.trans S2).trans b⟩
  ·exact fun τ' σ' G' H' a b c q=>k.nx τ' σ' G' H' a ((S1.trans S2).trans b) c q
  ·exact fun τ' σ' G' H' a b c q=>⟨τ',G',q,a,c,(S1.trans S2).trans b⟩
  ·exact fun d v G' H' a b c q=>k.rt d v G' H' a ((S1.trans S2).trans b) c q
end
abbrev fc:=List D->Gp->V3->Prop
def mZ(K:η)(sp:fc):Sp:=fun vs H Q _=>∃ds G Q3,aO K H ds vs/\aT K G H/\sp ds G Q3/\∀v H' d G',Hv K H' d v->Step H G H' G'->aT K G' H'->Q3 d G'->Q v H'
abbrev dS(P:ah)(w:ax)(K:η)(mg:ξ->Option ε)(base:Φ)(k:Nat)(f:ζ)(fd:ay)(ps:List ξ)(sp:fc):Prop:=jn P w K mg base qk k f fd ps (mZ K sp)
def bx(sp:fc)(t:dF):aP:=fun τ G Q=>t τ G fun ds G1=>sp ds G1 Q
section
variable {X:Cx} {k:Nat} {f:ζ} {fd:ay} {ps:List ξ} {sp:fc} {x:ξ} {p pos:aQ} {e:υ} {es:List υ} {t:dF}
theorem Kx{K:η}{σ:L2.St}{H:Hp}{Q:VK}{E:XK}(h:low K (bx sp t) σ H Q):zO (mZ K sp) [] E (vU K t) σ H Q:=by
 obtain⟨τ,G,Q3,RS,RG,h,k⟩:=h;refine⟨τ,G,_,RS,RG,h,fun vs H1 ds G1 h1 S1 R1 q1=>?_⟩;refine⟨ds,G1,Q3,by rw[bB];exact h1,R1,q1,fun v H' d G' z1 z2 z3 z4=>k v H' d G' z1 (S1.trans z2) z3 z4⟩
theorem TN(F:dS X.prog X.w X.K X.mg X.base k f fd ps sp)(hr:eD k X.A)(hm:X.mg x=some (.ref f))(hk:cp X.K (.ref f)=true)(hb:Binds X.K fd ps [])(ha:ki X (e::es) t)(hg:Gl X x:=by rfl)
  (hdb:(x==("__debug__":ξ))=false:=by decide) (he:notStar e=true:=by rfl) (hpl:es.all notStar=true:=by rfl):
  bS X (.Call (.Name x p) (e::es) [] pos) (bx sp t):=jG (Ve (E:=E0) F hr hg hm hk hb .nil LS ha hdb (gu he) (lC hpl)) fun σ H Q h=>Kx h
end
section
variable {P:ah} {w:ax} {K:η} {mg:ξ->Option ε} {base:Φ}
def bo(Q:V3):gg:={ nx:=fun _ G'=>∃G0,Sub G0 G'/\Q .aC G0,rt:=fun d G'=>∃G0,Sub G0 G'/\Q d G0 }
theorem Za{x qual:ξ}{st:aR}{f:ζ}{fd:ay}{N ps:List ξ}{k:Nat}{sp:fc}(F:eP K x qual st f fd)(S:bF N ps (Ξ st))(hN:ps.length≤N.length)(len:∀ds G Q,sp ds G Q->ds.length=ps.length)(tb:ao)
  (hU:∀(cdv:ε) (A:aL) (outer:List dm) (s:θ) (H:Hp) (E:XK),eD k (A.deeper (envOfC qual (Ξ st) s.heap.objs.size f cdv)) ->
   jm (iF qk P w K mg base N qual (Ξ st) f cdv A outer s H E).mH (fu st) tb)
  (sX:∀ds G Q,sp ds G Q->tb (bo Q) (bD N ds) G):dS P w K mg base (k+1) f fd ps sp:=by
 refine F.ok S (fun vs H Q E h=>?_) (fun cdv A outer s H vs Q E hr h=>?_)
 ·obtain⟨ds,G,Q3,h1,h2,h3,h4⟩:=h;rw[←h1.length];exact len _ _ _ h3
 ·obtain⟨ds,G,Q3,h1,h2,h3,h4⟩:=h;refine⟨_,hU cdv A outer s H E hr,bD N ds,G,bo Q3,.start h1 ?_,h2,sX _ _ _ h3,⟨?_,?_,?_,?_⟩⟩
  ·rw[←h1.length,len _ _ _ h3];exact hN
  ·exact fun τ σ G' H' a b c ⟨G0,s0,q⟩=>h4 _ H' .aC G0 (by simp[Hv]) (b.trans (.sub s0)) (c.sub s0) q
  ·exact fun τ σ G' H' a b c q=>q.elim
  ·exact fun τ σ G' H' a b c q=>q.elim
  ·exact fun d v G' H' a b c ⟨G0,s0,q⟩=>h4 _ H' d G0 a (b.trans (.sub s0)) (c.sub s0) q
end
end L3
namespace L3
open PySem PySem.Spec PyProof.Rows L2
structure Src where
 items:List D
 guard:Gp->Prop
structure Fv(K:η)(H0:Hp)(J:It)(S:Src):Prop where
 go:∀(i:Nat) d H G,Ext H0 H->aT K G H->S.guard G->S.items[i]?=some d->J.go i H/\∀x H',J.EX i H x H'->Hv K H' d x/\Step H G H' G/\aT K G H'
 stop:∀(i:Nat) H G,Ext H0 H->aT K G H->S.guard G->S.items.length≤i->J.stop i H
abbrev pC:=S3->Gp->(Src->Gp->Prop)->Prop
def Lb(K:η)(ti:pC):TI:=fun σ H R=>∃τ G R3,eJ K τ σ H/\aT K G H/\ti τ G R3/\∀J H' S G',Fv K H' J S->Step H G H' G'->aT K G' H'->R3 S G'->R J H'
abbrev xG(X:Cx)(tg iter:υ)(ti:pC):Prop:=PI X tg iter (Lb X.K ti)
section
variable {X:Cx} {tg iter:υ} {pos p:aQ}
theorem Eh{t t':TI}(h:PI X tg iter t)(f:∀σ H R,t' σ H R->t σ H R):PI X tg iter t':=fun pins s σ H R I q=>h pins s σ H R I (f σ H R q)
def lg(te:aP):pC:=fun τ G R=>te τ G fun x G1=>match x with
 |.obj p=>∃ds,G1 p=some (.lst ds)/\R ⟨ds,fun G=>G p=some (.lst ds)⟩ G1
 |.tup ds=>R ⟨ds,fun _=>True⟩ G1
 |.eS ds=>R ⟨ds,fun _=>True⟩ G1
 |_=>False
theorem TM{l:υ}{te:aP}(hl:bS X l te):xG X tg l (lg te):=by
 intro pins s σ H R I h;obtain⟨τ,G,R3,RS,RG,h,k⟩:=h
 -- the state carries what a list of the heap is
 refine bN (hl pins s σ H (fun v H'=>∃d G',Hv X.K H' d v/\Step H G H' G'/\aT X.K G' H'/\(match d with
  |.obj p=>∃ds,G' p=some (.lst ds)/\R3 ⟨ds,fun G=>G p=some (.lst ds)⟩ G'
  |.tup ds=>R3 ⟨ds,fun _=>True⟩ G'
  |.eS ds=>R3 ⟨ds,fun _=>True⟩ G'
  | _=>False)) I ⟨τ,G,_,RS,RG,h,fun v H' d G' a b c q=>⟨d,G',a,b,c,q⟩⟩) fun v s1 ⟨x,H1,I1,r1,d,G1,hv,S1,R1,q⟩=>?_
 have hlist:∀(a:ζ) (its:List ε) (xs:List V),bj xs its->PlainL s1.heap a its.toArray->R (MJ X.K a) H1->ρ (model X.prog X.w) X.A (pyIter (.ref a)) (Lm X pins σ tg R) X.xe s1:=by
  intro a its xs rv p q;refine fw p.isList ?_;refine⟨s1.heap.objs.size,[s1.heap.objs.size],_,_,H1,rfl,I1.kept (t':=s1.toks) fun b o e=>μ _ e,VC a _,⟨_,ag _ rfl,rfl,rfl⟩,fun b hb=>?_,q⟩;have e:b=s1.heap.objs.size:=by simpa using hb
  subst e;exact I1.ud (Ψ _) (I1.bR.fresh (Ψ _))
 cases d with
 |obj a=>
  unfold Hv at hv;subst hv;cases r1;obtain⟨ds,e1,q⟩:=q;obtain⟨vs,e2,e3⟩:=R1 a _ e1;obtain⟨its,rv,p,hz⟩:=I1.list (eU.of e2);refine hlist a its vs rv p (k _ _ _ _ ⟨?_,?_⟩ S1 R1 q)
  ·intro i d H' G' E' RG' hg hi;obtain⟨vs',z1,z2⟩:=RG' a _ hg;obtain⟨v',y1,y2⟩:=z2.get hi;refine⟨⟨vs',v',.of z1,y1⟩,fun x H'' hy=>?_⟩;obtain⟨rfl,hy⟩:=hy;have:=hy vs' (.of z1);rw[y1] at this;cases this;exact⟨y2,.refl _ _,RG'⟩
  ·intro i H' G' E' RG' hg hi;obtain⟨vs',z1,z2⟩:=RG' a _ hg;exact⟨vs',.of z1,by rw[←z2.length];exact hi⟩
 |tup ds=>
  unfold Hv at hv;obtain⟨a,vs,rfl,e2,e3⟩:=hv;cases r1;obtain⟨its,rv,p,hz⟩:=I1.tuple e2;have hq:R (MI X.K a) H1:=by
   refine k _ _ _ _ ⟨?_,?_⟩ S1 R1 q
   ·intro i d H' G' E' RG' hg hi;obtain⟨v',y1,y2⟩:=e3.get hi;refine⟨⟨vs,v',cG.ext E' e2,y1⟩,fun x H'' hy=>?_⟩;obtain⟨rfl,hy⟩:=hy;have:=hy vs (cG.ext E' e2);rw[y1] at this;cases this;exact⟨y2.ext E',.refl _ _,RG'⟩
   ·intro i H' G' E' RG' hg hi;exact⟨vs,cG.ext E' e2,by rw[←e3.length];exact hi⟩
  refine hX (show s1.heap.IsTuple a its.toArray from p) ?_;refine⟨s1.heap.objs.size,[s1.heap.objs.size],_,_,H1,rfl,I1.kept (t':=s1.toks) fun b o e=>μ _ e,VB a _,⟨_,ag _ rfl,rfl,rfl⟩,fun b hb=>?_,hq⟩;have e:b=s1.heap.objs.size:=by simpa using hb
  subst e;exact I1.ud (Ψ _) (I1.bR.fresh (Ψ _))
 |eS ds=>
  unfold Hv at hv;obtain⟨a,vs,rfl,e2,e3⟩:=hv;cases r1;obtain⟨its,rv,p,hz⟩:=I1.list e2.l;refine hlist a its vs rv p (k _ _ _ _ ⟨?_,?_⟩ S1 R1 q)
  ·intro i d H' G' E' RG' hg hi;obtain⟨v',y1,y2⟩:=e3.get hi;refine⟨⟨vs,v',(oo.ext E' e2).l,y1⟩,fun x H'' hy=>?_⟩;obtain⟨rfl,hy⟩:=hy;have:=hy vs (oo.ext E' e2).l;rw[y1] at this;cases this;exact⟨y2.ext E',.refl _ _,RG'⟩
  ·intro i H' G' E' RG' hg hi;exact⟨vs,(oo.ext E' e2).l,by rw[←e3.length];exact hi⟩
 |aC=>exact q.elim
 |bl _=>exact q.elim
 |int _=>exact q.elim
 |str _=>exact q.elim
 |dc _=>exact q.elim
def jj(lo:Int)(n:Nat):List D:=(aA n).map fun i:Nat=>.int (lo+(i:Int))
theorem TL{lo:Int}{n i:Nat}{d:D}(h:(jj lo n)[i]?=some d):i<n/\d=.int (lo+(i:Int)):=by
 unfold jj at h;rw[aE] at h;by_cases hi:i<n
 ·rw[fF hi] at h;simp at h;exact⟨hi,h.symm⟩
 ·rw[dW.mpr (by simpa using hi)] at h;cases h
theorem t6(lo:Int)(n:Nat):(jj lo n).length=n:=by simp[jj]
theorem TK{K:η}{H:Hp}(lo:Int)(n:Nat):Fv K H (Fy lo n) ⟨jj lo n,fun _=>True⟩:=⟨by
 intro i d H' G' _ RG _ hi;obtain⟨h1,h2⟩:=TL hi;refine⟨h1,fun x H'' hy=>?_⟩;obtain⟨rfl,rfl⟩:=hy;exact⟨by rw[h2];simp[Hv],.refl _ _,RG⟩,by
 intro i H' G' _ RG _ hi;rw[t6] at hi;exact hi⟩
def kU(ta:dF):pC:=fun τ G R=>ta τ G fun ds G1=>match ds with
 |[.int j]=>(-(2^62)≤j/\j<2^62)/\R ⟨jj 0 j.toNat,fun _=>True⟩ G1
 |_=>False
theorem TJ{a:υ}{ta:dF}(hm:X.mg "range" = none)(ha:ki X [a] ta)(hg:Gl X "range":=by rfl)(hs:notStar a=true:=by rfl):xG X tg (.Call (.Name "range" p) [a] [] pos) (kU ta):=
 Eh (Vy hg hm ha (gu hs)) fun σ H R ⟨τ,G,R3,RS,RG,h,k⟩=>⟨τ,G,_,RS,RG,h,fun vs H1 ds G1 h1 S1 R1 q1=>by
  rcases ds with _|⟨d,_|⟨d2,ds⟩⟩
  ·exact q1.elim
  ·cases d with
   |int j=>
    obtain⟨v,r,rfl,z1,z2⟩:=h1.inv;cases z2.jk;unfold Hv at z1;exact⟨j,by rw[z1],q1.1.1,q1.1.2,k _ _ _ _ (TK 0 _) S1 R1 q1.2⟩
   |_=>exact q1.elim
  ·cases d<;>exact q1.elim⟩
def oH(guard:Gp->Prop)(g:iM)(tb:ao)(D3:gg):List D->S3->Gp->Prop
 |[],τ,G=>guard G/\D3.nx τ G
 |d::ds,τ,G=>guard G/\g d τ G fun τ2 G2=>tb { D3 with nx:=oH guard g tb D3 ds,ct:=oH guard g tb D3 ds,bk:=D3.nx } τ2 G2
def kr(ti:pC)(g:iM)(tb:ao):ao:=fun D3 τ G=>ti τ G fun S G1=>oH S.guard g tb D3 S.items τ G1
theorem TH{body:List aR}{ti:pC}{g:iM}{tb:ao}(hp:lG (model X.prog X.w) X.A X.env X.xe)(hc:X.calm=true)(hi:xG X tg iter ti)(hg:wA X tg g)(hb:jm X body tb)
  (hs:∀x,foldedSetIterable iter X.env x=pure x:=by intro _;rfl):pF X (.For tg iter body [] pos) (kr ti g tb):=pj (Vw hp hc hi hg hb hs) fun D2 σ H ⟨τ,G,D3,RS,RG,h,k⟩=>by
 refine⟨τ,G,_,RS,RG,h,fun J H1 S G1 ok S1 R1 q1=>?_⟩;refine⟨fun i m σ' H'=>∃τ' G',eJ X.K τ' σ' H'/\aT X.K G' H'/\Step H G H' G'/\Ext H1 H'/\oH S.guard g tb D3 (S.items.drop i) τ' G'/\m+i=S.items.length,⟨S.items.length,τ,G1,RS.ext (S1.ext RG),R1,S1,.refl H1,by simpa using q1,by lia⟩,?_⟩;rintro i m σ' H' ⟨τ',G',RS',RG',S',E',q,hm⟩;by_cases hlt:i<S.items.length
 ·have hd:S.items.drop i=S.items[i]::S.items.drop (i+1):=dX hlt;have hget:S.items[i]?=some S.items[i]:=aw hlt;rw[hd] at q;obtain⟨hgd,q⟩:=q;obtain⟨z1,z2⟩:=ok.go i _ H' G' E' RG' hgd hget;refine .inr ⟨z1,fun σ2 H2=>∃τ2 G2,eJ X.K τ2 σ2 H2/\aT X.K G2 H2/\Step H G H2 G2/\Ext H1 H2/\oH S.guard g tb D3 (S.items.drop (i+1)) τ2 G2,fun σ2 H2 ⟨τ2,G2,a1,a2,a3,a4,a5⟩=>⟨m-1,by lia,τ2,G2,a1,a2,a3,a4,a5,by lia⟩,fun x H2 hy=>?_⟩;obtain⟨y1,y2,y3⟩:=z2 x H2 hy;refine⟨S.items[i],τ',G',_,y1,RS'.ext (y2.ext RG'),y3,q,fun τ3 σ3 G3 H3 b1 b2 b3 b4=>?_⟩;refine⟨τ3,G3,_,b1,b3,b4,⟨?_,?_,?_,?_⟩⟩
  ·exact fun τ4 σ4 G4 H4 c1 c2 c3 c4=>⟨τ4,G4,c1,c3,((S'.trans y2).trans b2).trans c2,((E'.trans (y2.ext RG')).trans (b2.ext y3)).trans (c2.ext b3),c4⟩
  ·exact fun τ4 σ4 G4 H4 c1 c2 c3 c4=>k.nx τ4 σ4 G4 H4 c1 (((S'.trans y2).trans b2).trans c2) c3 c4
  ·exact fun τ4 σ4 G4 H4 c1 c2 c3 c4=>⟨τ4,G4,c1,c3,((S'.trans y2).trans b2).trans c2,((E'.trans (y2.ext RG')).trans (b2.ext y3)).trans (c2.ext b3),c4⟩
  ·exact fun d v G4 H4 c1 c2 c3 c4=>k.rt d v G4 H4 c1 (((S'.trans y2).trans b2).trans c2) c3 c4
 ·have hd:S.items.drop i=[]:=ik (by lia);rw[hd] at q;exact .inl ⟨ok.stop i H' G' E' RG' q.1 (by lia),k.nx τ' σ' G' H' RS' S' RG' q.2⟩
def jI(guard:Gp->Prop)(g:iM)(tc:cS)(te:aP)(Q:List D->Gp->Prop):List D->List D->S3->Gp->Prop
 |[],acc,τ,G=>guard G/\Q acc G
 |d::ds,acc,τ,G=>guard G/\g d τ G fun τ2 G2=>tc τ2 G2 fun b G3=>Br b (te τ2 G3 fun v G4=>jI guard g tc te Q ds (acc++[v]) τ2 G4) (jI guard g tc te Q ds acc τ2 G3)
def zg(own:List ξ)(js:List Nat)(τ:S3):S3:=(own.map fun _=>none)++js.map fun j=>kH τ j
def gf(own:List ξ)(js:List Nat)(ti:pC)(g:iM)(tc:cS)(te:aP):aP:=fun τ G Q=>ti τ G fun S G1=>S.items.length≤au ∧
 jI S.guard g tc te (fun ds G2=>∀p G3,cw G2 p (.lst ds) G3->Q (.obj p) G3) S.items [] (zg own js τ) G1
theorem JU:∀(τ:S3) (i:Nat),kH τ i=(τ[i]?).getD none
 |[],i=>by simp[kH]
 |x::r,0=>by simp[kH]
 |x::r,i+1=>by simp[kH,JU r i]
theorem eJ.cmp{K:η}{τ:S3}{σ:L2.St}{H:Hp}(own:List ξ)(js:List Nat)(R:eJ K τ σ H):eJ K (zg own js τ) (uL own js σ) H:=⟨by simp[zg,uL],fun i d h=>by
 rw[JU] at h;unfold zg at h;by_cases hi:i<own.length
 ·rw[e7 (by simpa using hi)] at h;rw[aE,aw hi] at h;cases h
 ·rw[eO (by simpa using hi),aE] at h;simp only[π] at h;cases hj:js[i-own.length]? with
  |none=>rw[hj] at h;cases h
  |some j=>
   rw[hj] at h;have h':kH τ j=some d:=h;obtain⟨v,e1,e2⟩:=R.at_ j d h';refine⟨v,?_,e2⟩;unfold uL;rw[eO (by simpa using hi),aE];simp only[gk,hj,Option.map_some,e1,Option.getD_some]⟩
def eQ:cS:=fun _ G Q=>Q true G
theorem TF:vj X [] (sh X.K eQ):=fun pins s σ H Q I ⟨τ,G,Q3,RS,RG,h,k⟩=>Uh pins s σ H Q I (k true H G (.refl H G) RG h)
theorem TC{c:υ}{t:cS}(h:rf X c t):vj X [c] (sh X.K t):=Ug h
theorem JT{K:η}{own:List ξ}{js:List Nat}{ti:pC}{g:iM}{tc:cS}{te:aP}{σ:L2.St}{H:Hp}{Q:VK}(h:low K (gf own js ti g tc te) σ H Q):Gk own js (Lb K ti) (lowG K g) (sh K tc) (low K te) σ H Q:=by
 obtain⟨τ,G,Q3,RS,RG,h,k⟩:=h;refine⟨τ,G,_,RS,RG,h,fun J H1 S G1 ok S1 R1 q1=>?_⟩;obtain⟨hz,q1⟩:=q1;intro p hp;have hGp:G1 p=none:=R1.free hp;refine⟨fun i m ys σ' H'=>∃τ' G' acc,eJ K τ' σ' H'/\aT K G' H'/\Step H G H' G'/\Ext H1 H'/\H' p=some (.lst ys)/\G' p=none/\aO K H' acc ys ∧
  jI S.guard g tc te (fun ds G2=>∀p G3,cw G2 p (.lst ds) G3->Q3 (.obj p) G3) (S.items.drop i) acc τ' G'/\m+i=S.items.length/\ys.length≤i,?_,?_⟩
 ·have E1:Ext H1 (upd H1 p (.lst [])):=.laid hp;exact⟨S.items.length,zg own js τ,G1,[],((RS.ext (S1.ext RG)).cmp own js).ext E1,R1.laid hp,S1.trans (.laid hp),E1,gW,hGp,.nil,by simpa using q1,by lia,bp _⟩
 rintro i m ys σ' H' ⟨τ',G',acc,RS',RG',S',E',hpl,hG',hacc,q,hm,hy⟩;refine⟨hpl,?_⟩;by_cases hlt:i<S.items.length
 ·have hd:S.items.drop i=S.items[i]::S.items.drop (i+1):=dX hlt;have hget:S.items[i]?=some S.items[i]:=aw hlt;rw[hd] at q;obtain⟨hgd,q⟩:=q;obtain⟨z1,z2⟩:=ok.go i _ H' G' E' RG' hgd hget;refine .inr ⟨z1,by lia,fun x H2 hyl=>?_⟩;obtain⟨y1,y2,y3⟩:=z2 x H2 hyl
  -- what is not in G stays
  have keep:∀{Ha Hb:Hp} {Ga Gb:Gp},Step Ha Ga Hb Gb->Ha p=some (.lst ys)->Ga p=none->Hb p=some (.lst ys)/\Gb p=none:=fun {Ha Hb Ga Gb} st e n=>by
   refine⟨st.fr p _ e n,?_⟩;refine bf fun z=>?_;rw[st.new p n z] at e;cases e
  obtain⟨p2,n2⟩:=keep y2 hpl hG';refine⟨S.items[i],τ',G',_,y1,RS'.ext (y2.ext RG'),y3,q,fun τ3 σ3 G3 H3 b1 b2 b3 b4=>?_⟩;obtain⟨p3,n3⟩:=keep b2 p2 n2;refine⟨τ3,G3,_,b1,b3,b4,fun bb H4 G4 c1 c2 c3=>?_⟩;obtain⟨p4,n4⟩:=keep c1 p3 n3;have E4:Ext H' H4:=((y2.ext RG').trans (b2.ext y3)).trans (c1.ext b3);have S4:Step H G H4 G4:=((S'.trans y2).trans b2).trans c1;have RS4:=b1.ext (c1.ext b3);refine Br.ite c3 (fun c3=>?_) fun c3=>?_
  ·refine⟨τ3,G4,_,RS4,c2,c3,fun v H5 d G5 e1 e2 e3 e4=>?_⟩;obtain⟨p5,n5⟩:=keep e2 p4 n4;refine⟨p5,m-1,by lia,τ3,G5,acc++[d],?_,?_,?_,?_,gW,n5,?_,e4,by lia,by rw[Ω];simp;lia⟩
   ·exact (RS4.ext (e2.ext c2)).ext (.wrote p5)
   ·intro a o e;have cQ:a≠p:=fun z=>by
     rw[z,n5] at e;cases e
    exact (e3 a o e).ext (.wrote p5) (dz cQ)
   ·refine⟨fun a o e n=>?_,fun a q=>?_,fun a n q=>((S4.trans e2).new a n q)⟩
    ·by_cases cQ:a=p
     ·exfalso;rw[cQ] at e n;have hh:=S1.fr p o e n;rw[hp] at hh;cases hh
     ·rw[dz cQ];exact (S4.trans e2).fr a o e n
    ·by_cases cQ:a=p
     ·rw[cQ,gW];simp
     ·rw[dz cQ];exact (S4.trans e2).oi a q
   ·exact ((E'.trans E4).trans (e2.ext c2)).trans (.wrote p5)
   ·have E5:Ext H' (upd H5 p (.lst (ys++[v]))):=(E4.trans (e2.ext c2)).trans (.wrote p5);exact (hacc.ext E5).append (.cons (e1.ext (.wrote p5)) .nil)
  ·exact⟨m-1,by lia,τ3,G4,acc,RS4,c2,S4,E'.trans E4,p4,n4,hacc.ext E4,c3,by lia,by lia⟩
 ·have hd:S.items.drop i=[]:=ik (by lia);rw[hd] at q;refine .inl ⟨ok.stop i H' G' E' RG' q.1 (by lia),?_⟩;refine k _ H' (.obj p) (du G' p (.lst acc)) (by simp[Hv]) ?_ ?_ (q.2 p _ (.mk' hG'))
  ·refine⟨S'.fr,S'.oi,fun a n z=>?_⟩;by_cases cQ:a=p
   ·rw[cQ];cases hh:H p with
    |none=>rfl
    |some o=>
     exfalso;rw[cQ] at n;have:=S1.fr p o hh n;rw[hp] at this;cases this
   ·rw[ny cQ] at z;exact S'.new a n z
  ·intro a o e;by_cases cQ:a=p
   ·rw[cQ,mF] at e;cases e;rw[cQ];exact⟨ys,hpl,hacc⟩
   ·rw[ny cQ] at e;exact RG' a o e
theorem TB{elt:υ}{ifs:List υ}{scope:dZ}{own:List ξ}{js:List Nat}{ti:pC}{g:iM}{tc:cS}{te:aP}(hc:X.calm=true)(C:dJ X.N X.env.scope scope own js)(hi:xG X tg iter ti)
  (hb:∀s H fp,wA (X.cmp scope own js s H fp) tg g/\vj (X.cmp scope own js s H fp) ifs (sh X.K tc)/\bS (X.cmp scope own js s H fp) elt te)
  (hs:∀x,foldedSetIterable iter X.env x=pure x:=by intro _;rfl):bS X (.ListComp elt [⟨tg,iter,ifs,0⟩] scope pos) (gf own js ti g tc te):=
 jG (UQ hc C hi hb hs) fun σ H Q h=>JT h
theorem Tz{elt:υ}{ifs:List υ}{scope:dZ}{own:List ξ}{js:List Nat}{ti:pC}{g:iM}{tc:cS}{te:aP}{i:Nat}{y:ξ}{py spos:aQ}(hc:X.calm=true)(hN:X.N.Nodup)(C:dJ X.N X.env.scope scope own js)(hi:xG X tg iter ti)
  (hb:∀s H fp,wA (X.cmp scope own js s H fp) tg g/\vj (X.cmp scope own js s H fp) ifs (sh X.K tc)/\bS (X.cmp scope own js s H fp) elt te) (hy:X.N[i]?=some y:=by rfl) (hyl:X.env.scope.names.lookup y=some .local:=by rfl)
  (Cp:swapsWith (.ListComp elt [⟨tg,iter,ifs,0⟩] scope pos) (some (.Name y py)) spos.line X.env=pure true:=by rfl)
  (hs:∀x,foldedSetIterable iter X.env x=pure x:=by intro _;rfl):pF X (.Assign [.Name y py] (.ListComp elt [⟨tg,iter,ifs,0⟩] scope pos) spos) (bz (gf own js ti g tc te) (hName i)):=
 pj (UP hc hN hy hyl C hi hb Cp hs) fun D2 σ H ⟨τ,G,D3,RS,RG,h,k⟩=>
  JT ⟨τ,G,_,RS,RG,h,fun v H1 d G1 h1 S1 R1 q1=>k.nx _ _ G1 H1 ((RS.ext (S1.ext RG)).set h1) S1 R1 q1⟩
theorem Tx{guard:Gp->Prop}{g:iM}{tb:ao}{D3:gg}(I:List D->S3->Gp->Prop)(hg:∀ds τ G,I ds τ G->guard G)
  (step:∀d ds τ G,I (d::ds) τ G->g d τ G fun τ2 G2=>tb { D3 with nx:=I ds,ct:=I ds,bk:=D3.nx } τ2 G2) (mS:∀τ G,I [] τ G->D3.nx τ G)
  (mono:∀(N N':S3->Gp->Prop),(∀τ G,N τ G->N' τ G)->∀d τ G,(g d τ G fun τ2 G2=>tb { D3 with nx:=N,ct:=N,bk:=D3.nx } τ2 G2)->g d τ G fun τ2 G2=>tb { D3 with nx:=N',ct:=N',bk:=D3.nx } τ2 G2):
  ∀ds τ G,I ds τ G->oH guard g tb D3 ds τ G
 |[],τ,G,h=>⟨hg _ _ _ h,mS _ _ h⟩
 |d::ds,τ,G,h=>⟨hg _ _ _ h,mono (I ds) _ (fun τ G q=>Tx I hg step mS mono ds τ G q) d τ G (step d ds τ G h)⟩
theorem nS{guard:Gp->Prop}{g:iM}{tb:ao}{D3:gg}(I:List D->S3->Gp->Prop)(hg:∀ds τ G,I ds τ G->guard G)
  (step:∀d ds τ G (N:S3->Gp->Prop),I (d::ds) τ G->(∀τ' G',I ds τ' G'->N τ' G')->g d τ G fun τ2 G2=>tb { D3 with nx:=N,ct:=N,bk:=D3.nx } τ2 G2) (mS:∀τ G,I [] τ G->D3.nx τ G):
  ∀ds τ G,I ds τ G->oH guard g tb D3 ds τ G
 |[],τ,G,h=>⟨hg _ _ _ h,mS _ _ h⟩
 |d::ds,τ,G,h=>⟨hg _ _ _ h,step d ds τ G _ h fun τ' G' q=>nS I hg step mS ds τ' G' q⟩
end
end L3
namespace Dat
open PySem PySem.SeqAt
inductive D where
 |aC|bl (b:Bool)|int (i:Int)|str (x:ξ)|tup (xs:List D)|lst (xs:List D)|i7
mutual
def D.gv:D->D->Bool
 |.aC,.aC=>true
 |.bl a,.bl b=>a==b
 |.bl a,.int b=>(if a then 1 else 0)==b
 |.int a,.bl b=>a==(if b then 1 else 0)
 |.int a,.int b=>a==b
 |.str a,.str b=>a==b
 |.tup xs,.tup ys=>lj xs ys
 |.lst xs,.lst ys=>lj xs ys
 |_,_=>false
def lj:List D->List D->Bool
 |[],[]=>true
 |x::xs,y::ys=>x.gv y&&lj xs ys
 |_,_=>false
end
mutual
def D.lY:D->Nat
 |.tup xs=>ig xs+1
 |.lst xs=>ig xs+1
 |_=>0
def ig:List D->Nat
 |[]=>0
 |x::xs=>max x.lY (ig xs)
end
theorem vQ{d:D}:∀{xs:List D},d∈xs->d.lY≤ig xs
 |x::xs,h=>by
  unfold ig;rcases aa.mp h with e|e
  ·rw[e];exact Nat.le_max_left _ _
  ·exact av (vQ e) (Nat.le_max_right _ _)
mutual
def Hv(h:Φ):D->ε->Prop
 |.aC,u=>u=.none
 |.bl b,u=>u=.bool b
 |.int i,u=>∃t,u=.int i t
 |.str x,u=>∃t,u=.str x t
 |.tup ds,u=>∃(a:ζ) (its:List ε),u=.ref a/\h.IsTuple a its.toArray/\aO h ds its
 |.lst ds,u=>∃(a:ζ) (its:List ε),u=.ref a/\h.IsList a its.toArray/\aO h ds its
 |.i7,_=>False
def aO(h:Φ):List D->List ε->Prop
 |[],us=>us=[]
 |d::ds,us=>∃u r,us=u::r/\Hv h d u/\aO h ds r
end
theorem aO.length{h:Φ}:∀{ds:List D} {us:List ε},aO h ds us->us.length=ds.length
 |[],us,e=>by
  unfold aO at e;rw[e];rfl
 |d::ds,us,e=>by
  unfold aO at e;obtain⟨u,r,rfl,_,e2⟩:=e;rw[aB,aB,e2.length]
theorem aO.get{h:Φ}:∀{ds:List D} {us:List ε} {j:Nat} {d:D} {u:ε},aO h ds us->ds[j]?=some d->us[j]?=some u->Hv h d u
 |[],_,_,_,_,_,e,_=>by simp at e
 |d::ds,us,0,_,_,q,e1,e2=>by
  unfold aO at q;obtain⟨u,r,rfl,q1,_⟩:=q;simp at e1 e2;rw[←e1,←e2];exact q1
 |d::ds,us,j+1,_,_,q,e1,e2=>by
  unfold aO at q;obtain⟨u,r,rfl,_,q2⟩:=q;exact q2.get (j:=j) (by simpa using e1) (by simpa using e2)
theorem JS{h:Φ}{a:ζ}{xs ys:Array ε}(hl:h.IsList a xs)(ht:h.IsTuple a ys):False:=by
 obtain⟨o,ho,hc,_⟩:=hl;obtain⟨o',ho',hc',_⟩:=ht;rw[ho] at ho';cases ho';rw[hc] at hc';exact absurd hc' (by decide)
mutual
theorem Hv.inj{h:Φ}:∀{d e:D} {u:ε},Hv h d u->Hv h e u->d=e
 |d,e,u,p,q=>by
  cases d with
  |aC=>unfold Hv at p;subst p;cases e<;>unfold Hv at q<;>first|rfl|(simp at q)
  |bl b=>unfold Hv at p;subst p;cases e<;>unfold Hv at q<;>first|(simp at q;rw[q])|(simp at q)
  |int b=>unfold Hv at p;obtain⟨t,rfl⟩:=p;cases e<;>unfold Hv at q<;>first|(simp at q;rw[q])|(simp at q)
  |str b=>unfold Hv at p;obtain⟨t,rfl⟩:=p;cases e<;>unfold Hv at q<;>first|(simp at q;rw[q])|(simp at q)
  |i7=>unfold Hv at p;exact p.elim
  |tup ds=>
   unfold Hv at p;obtain⟨a,its,rfl,ha,p⟩:=p;cases e with
   |tup es=>
    unfold Hv at q;obtain⟨a',its',e1,ha',q⟩:=q;cases e1;have e2:its=its':=by
     obtain⟨o,ho,_,n,hd⟩:=ha;obtain⟨o',ho',_,n',hd'⟩:=ha';rw[ho] at ho';cases ho';rw[hd] at hd';injection hd' with e3 _
     simpa using congrArg p8 e3
    subst e2;rw[aO.inj p q]
   |lst es=>
    unfold Hv at q;obtain⟨a',its',e1,ha',q⟩:=q;cases e1;exact (JS ha' ha).elim
   |_=>unfold Hv at q<;>simp at q
  |lst ds=>
   unfold Hv at p;obtain⟨a,its,rfl,ha,p⟩:=p;cases e with
   |lst es=>
    unfold Hv at q;obtain⟨a',its',e1,ha',q⟩:=q;cases e1;have e2:its=its':=by
     obtain⟨o,ho,_,n,hd⟩:=ha;obtain⟨o',ho',_,n',hd'⟩:=ha';rw[ho] at ho';cases ho';rw[hd] at hd';injection hd' with e3 _
     simpa using congrArg p8 e3
    subst e2;rw[aO.inj p q]
   |tup es=>
    unfold Hv at q;obtain⟨a',its',e1,ha',q⟩:=q;cases e1;exact (JS ha ha').elim
   |_=>unfold Hv at q<;>simp at q
theorem aO.inj{h:Φ}:∀{ds es:List D} {us:List ε},aO h ds us->aO h es us->ds=es
 |[],[],_,_,_=>rfl
 |[],e::es,us,p,q=>by
  unfold aO at p q;subst p;obtain⟨_,_,e1,_⟩:=q;cases e1
 |d::ds,[],us,p,q=>by
  unfold aO at p q;subst q;obtain⟨_,_,e1,_⟩:=p;cases e1
 |d::ds,e::es,us,p,q=>by
  unfold aO at p q;obtain⟨u,r,rfl,p1,p2⟩:=p;obtain⟨u',r',e1,q1,q2⟩:=q;cases e1;rw[Hv.inj p1 q1,aO.inj p2 q2]
end
theorem vP:∀(ds es:List D),((aA (min ds.length es.length)).all (fun j=>(ds.getD j .aC).gv (es.getD j .aC))&&ds.length==es.length)=lj ds es
 |[],[]=>by simp[lj]
 |[],e::es=>by simp[lj]
 |d::ds,[]=>by simp[lj]
 |d::ds,e::es=>by
  have ih:=vP ds es;unfold lj;rw[←ih];rw[aB,aB,show min (ds.length+1) (es.length+1)=min ds.length es.length+1 by lia,qT,List.all_cons,List.all_map];have e1:((ds.length+1==es.length+1):Bool)=(ds.length==es.length):=by simp
  rw[e1,Bool.and_assoc];rfl
theorem AG:∀(ds es:List D),ds.length≠es.length->lj ds es=false
 |[],[],h=>absurd rfl h
 |[],e::es,_=>rfl
 |d::ds,[],_=>rfl
 |d::ds,e::es,h=>by
  unfold lj;rw[AG ds es (by simpa using h),Bool.and_false]
mutual
theorem Hv.refl{h:Φ}:∀{d:D} {u:ε},Hv h d u->d.gv d=true
 |.aC,_,_=>rfl
 |.bl b,_,_=>by unfold D.gv;simp
 |.int b,_,_=>by unfold D.gv;simp
 |.str b,_,_=>by unfold D.gv;simp
 |.i7,_,p=>by unfold Hv at p;exact p.elim
 |.tup ds,_,p=>by
  unfold Hv at p;obtain⟨_,_,_,_,p⟩:=p;unfold D.gv;exact aO.refl p
 |.lst ds,_,p=>by
  unfold Hv at p;obtain⟨_,_,_,_,p⟩:=p;unfold D.gv;exact aO.refl p
theorem aO.refl{h:Φ}:∀{ds:List D} {us:List ε},aO h ds us->lj ds ds=true
 |[],_,_=>rfl
 |d::ds,us,p=>by
  unfold aO at p;obtain⟨u,r,_,p1,p2⟩:=p;unfold lj;rw[Hv.refl p1,aO.refl p2];rfl
end
theorem mE{h:Φ}{ds:List D}{us:List ε}(p:aO h ds us){j:Nat}(hj:j<us.toArray.size):Hv h (ds.getD j .aC) (us.toArray[j])/\ds.getD j .aC∈ds:=by
 have hl:=p.length;have hj':j<ds.length:=by simp at hj;lia
 have e1:ds[j]?=some (ds.getD j .aC):=by simp[hj']
 exact⟨p.get e1 (by simp at hj;simp[hj]),bZ e1⟩
theorem xt{s:θ}:∀(d e:D) (u v:ε) (A:aL),Hv s.heap d u->Hv s.heap e v->A.units+d.lY+1<cLine->EqAt A s u v (d.gv e)
 |.aC,.aC,u,v,A,p1,p2,hu=>by
  unfold Hv at p1;subst p1;unfold Hv at p2;subst p2;exact EqAt.same _
 |.aC,.bl b2,u,v,A,p1,p2,hu=>by
  unfold Hv at p1;subst p1;unfold Hv at p2;subst p2;exact EqAt.none_bool  b2
 |.aC,.int b2,u,v,A,p1,p2,hu=>by
  unfold Hv at p1;subst p1;unfold Hv at p2;obtain⟨t2,rfl⟩:=p2;exact EqAt.none_int  b2 t2
 |.aC,.str b2,u,v,A,p1,p2,hu=>by
  unfold Hv at p1;subst p1;unfold Hv at p2;obtain⟨t2,rfl⟩:=p2;exact EqAt.none_str  b2 t2
 |.aC,.tup ds2,u,v,A,p1,p2,hu=>by
  unfold Hv at p1;subst p1;unfold Hv at p2;obtain⟨a2,its2,rfl,l2,p2⟩:=p2;exact EqAt.none_tuple  l2 (by lia)
 |.aC,.lst ds2,u,v,A,p1,p2,hu=>by
  unfold Hv at p1;subst p1;unfold Hv at p2;obtain⟨a2,its2,rfl,l2,p2⟩:=p2;exact EqAt.none_list  l2 (by lia)
 |.bl b1,.aC,u,v,A,p1,p2,hu=>by
  unfold Hv at p1;subst p1;unfold Hv at p2;subst p2;exact EqAt.bool_none b1
 |.bl b1,.bl b2,u,v,A,p1,p2,hu=>by
  unfold Hv at p1;subst p1;unfold Hv at p2;subst p2;exact EqAt.bool_bool b1 b2
 |.bl b1,.int b2,u,v,A,p1,p2,hu=>by
  unfold Hv at p1;subst p1;unfold Hv at p2;obtain⟨t2,rfl⟩:=p2;exact EqAt.bool_int b1 b2 t2
 |.bl b1,.str b2,u,v,A,p1,p2,hu=>by
  unfold Hv at p1;subst p1;unfold Hv at p2;obtain⟨t2,rfl⟩:=p2;exact EqAt.bool_str b1 b2 t2
 |.bl b1,.tup ds2,u,v,A,p1,p2,hu=>by
  unfold Hv at p1;subst p1;unfold Hv at p2;obtain⟨a2,its2,rfl,l2,p2⟩:=p2;exact EqAt.bool_tuple b1 l2 (by lia)
 |.bl b1,.lst ds2,u,v,A,p1,p2,hu=>by
  unfold Hv at p1;subst p1;unfold Hv at p2;obtain⟨a2,its2,rfl,l2,p2⟩:=p2;exact EqAt.bool_list b1 l2 (by lia)
 |.int b1,.aC,u,v,A,p1,p2,hu=>by
  unfold Hv at p1;obtain⟨t1,rfl⟩:=p1;unfold Hv at p2;subst p2;exact EqAt.int_none b1 t1
 |.int b1,.bl b2,u,v,A,p1,p2,hu=>by
  unfold Hv at p1;obtain⟨t1,rfl⟩:=p1;unfold Hv at p2;subst p2;exact EqAt.int_bool b1 t1 b2
 |.int b1,.int b2,u,v,A,p1,p2,hu=>by
  unfold Hv at p1;obtain⟨t1,rfl⟩:=p1;unfold Hv at p2;obtain⟨t2,rfl⟩:=p2;exact EqAt.int_int b1 t1 b2 t2
 |.int b1,.str b2,u,v,A,p1,p2,hu=>by
  unfold Hv at p1;obtain⟨t1,rfl⟩:=p1;unfold Hv at p2;obtain⟨t2,rfl⟩:=p2;exact EqAt.int_str b1 t1 b2 t2
 |.int b1,.tup ds2,u,v,A,p1,p2,hu=>by
  unfold Hv at p1;obtain⟨t1,rfl⟩:=p1;unfold Hv at p2;obtain⟨a2,its2,rfl,l2,p2⟩:=p2;exact EqAt.int_tuple b1 t1 l2 (by lia)
 |.int b1,.lst ds2,u,v,A,p1,p2,hu=>by
  unfold Hv at p1;obtain⟨t1,rfl⟩:=p1;unfold Hv at p2;obtain⟨a2,its2,rfl,l2,p2⟩:=p2;exact EqAt.int_list b1 t1 l2 (by lia)
 |.str b1,.aC,u,v,A,p1,p2,hu=>by
  unfold Hv at p1;obtain⟨t1,rfl⟩:=p1;unfold Hv at p2;subst p2;exact EqAt.str_none b1 t1
 |.str b1,.bl b2,u,v,A,p1,p2,hu=>by
  unfold Hv at p1;obtain⟨t1,rfl⟩:=p1;unfold Hv at p2;subst p2;exact EqAt.str_bool b1 t1 b2
 |.str b1,.int b2,u,v,A,p1,p2,hu=>by
  unfold Hv at p1;obtain⟨t1,rfl⟩:=p1;unfold Hv at p2;obtain⟨t2,rfl⟩:=p2;exact EqAt.str_int b1 t1 b2 t2
 |.str b1,.str b2,u,v,A,p1,p2,hu=>by
  unfold Hv at p1;obtain⟨t1,rfl⟩:=p1;unfold Hv at p2;obtain⟨t2,rfl⟩:=p2;exact EqAt.str_str b1 t1 b2 t2
 |.str b1,.tup ds2,u,v,A,p1,p2,hu=>by
  unfold Hv at p1;obtain⟨t1,rfl⟩:=p1;unfold Hv at p2;obtain⟨a2,its2,rfl,l2,p2⟩:=p2;exact EqAt.str_tuple b1 t1 l2 (by lia)
 |.str b1,.lst ds2,u,v,A,p1,p2,hu=>by
  unfold Hv at p1;obtain⟨t1,rfl⟩:=p1;unfold Hv at p2;obtain⟨a2,its2,rfl,l2,p2⟩:=p2;exact EqAt.str_list b1 t1 l2 (by lia)
 |.tup ds1,.aC,u,v,A,p1,p2,hu=>by
  unfold Hv at p1;obtain⟨a1,its1,rfl,l1,p1⟩:=p1;unfold Hv at p2;subst p2;exact EqAt.tuple_none  l1 (by lia)
 |.tup ds1,.bl b2,u,v,A,p1,p2,hu=>by
  unfold Hv at p1;obtain⟨a1,its1,rfl,l1,p1⟩:=p1;unfold Hv at p2;subst p2;exact EqAt.tuple_bool b2 l1 (by lia)
 |.tup ds1,.int b2,u,v,A,p1,p2,hu=>by
  unfold Hv at p1;obtain⟨a1,its1,rfl,l1,p1⟩:=p1;unfold Hv at p2;obtain⟨t2,rfl⟩:=p2;exact EqAt.tuple_int b2 t2 l1 (by lia)
 |.tup ds1,.str b2,u,v,A,p1,p2,hu=>by
  unfold Hv at p1;obtain⟨a1,its1,rfl,l1,p1⟩:=p1;unfold Hv at p2;obtain⟨t2,rfl⟩:=p2;exact EqAt.tuple_str b2 t2 l1 (by lia)
 |.tup ds1,.tup ds2,u,v,A,p1,p2,hu=>by
  unfold Hv at p1;obtain⟨a1,its1,rfl,l1,p1⟩:=p1;unfold Hv at p2;obtain⟨a2,its2,rfl,l2,p2⟩:=p2;unfold D.gv;by_cases ha:a1=a2
  ·subst ha;have e0:(.tup ds1:D)=.tup ds2:=Hv.inj (h:=s.heap) (u:=.ref a1) (by unfold Hv;exact⟨a1,its1,rfl,l1,p1⟩) (by unfold Hv;exact⟨a1,its2,rfl,l2,p2⟩);injection e0 with e0;subst e0;rw[p1.refl];exact EqAt.same _
  ·refine EqAt.of_refs ha ?_;have hdep:A.units+ig ds1+1+1<cLine:=by
    have e9:(.tup ds1:D).lY=ig ds1+1:=by first|rfl|(unfold D.lY;rfl)
    lia
   have q:=RcAt.tuples (e:=fun j=>(ds1.getD j .aC).gv (ds2.getD j .aC)) l1 l2 (by lia) fun j h1 h2=>
    have m:=(mE p1 h1).2
    xt (ds1.getD j .aC) (ds2.getD j .aC) _ _ A.in1 (mE p1 h1).1 (mE p2 h2).1 (by
     have:=vQ m;show A.units+1+_+1<cLine;lia)
   rw[ψ,ψ,p1.length,p2.length,vP] at q;exact q
 |.tup ds1,.lst ds2,u,v,A,p1,p2,hu=>by
  unfold Hv at p1;obtain⟨a1,its1,rfl,l1,p1⟩:=p1;unfold Hv at p2;obtain⟨a2,its2,rfl,l2,p2⟩:=p2;exact EqAt.tuple_list l1 l2 (by lia)
 |.lst ds1,.aC,u,v,A,p1,p2,hu=>by
  unfold Hv at p1;obtain⟨a1,its1,rfl,l1,p1⟩:=p1;unfold Hv at p2;subst p2;exact EqAt.list_none  l1 (by lia)
 |.lst ds1,.bl b2,u,v,A,p1,p2,hu=>by
  unfold Hv at p1;obtain⟨a1,its1,rfl,l1,p1⟩:=p1;unfold Hv at p2;subst p2;exact EqAt.list_bool b2 l1 (by lia)
 |.lst ds1,.int b2,u,v,A,p1,p2,hu=>by
  unfold Hv at p1;obtain⟨a1,its1,rfl,l1,p1⟩:=p1;unfold Hv at p2;obtain⟨t2,rfl⟩:=p2;exact EqAt.list_int b2 t2 l1 (by lia)
 |.lst ds1,.str b2,u,v,A,p1,p2,hu=>by
  unfold Hv at p1;obtain⟨a1,its1,rfl,l1,p1⟩:=p1;unfold Hv at p2;obtain⟨t2,rfl⟩:=p2;exact EqAt.list_str b2 t2 l1 (by lia)
 |.lst ds1,.tup ds2,u,v,A,p1,p2,hu=>by
  unfold Hv at p1;obtain⟨a1,its1,rfl,l1,p1⟩:=p1;unfold Hv at p2;obtain⟨a2,its2,rfl,l2,p2⟩:=p2;exact EqAt.list_tuple l1 l2 (by lia)
 |.lst ds1,.lst ds2,u,v,A,p1,p2,hu=>by
  unfold Hv at p1;obtain⟨a1,its1,rfl,l1,p1⟩:=p1;unfold Hv at p2;obtain⟨a2,its2,rfl,l2,p2⟩:=p2;unfold D.gv;by_cases ha:a1=a2
  ·subst ha;have e0:(.lst ds1:D)=.lst ds2:=Hv.inj (h:=s.heap) (u:=.ref a1) (by unfold Hv;exact⟨a1,its1,rfl,l1,p1⟩) (by unfold Hv;exact⟨a1,its2,rfl,l2,p2⟩);injection e0 with e0;subst e0;rw[p1.refl];exact EqAt.same _
  ·refine EqAt.of_refs ha ?_;have hdep:A.units+ig ds1+1+1<cLine:=by
    have e9:(.lst ds1:D).lY=ig ds1+1:=by first|rfl|(unfold D.lY;rfl)
    lia
   by_cases hn:ds1.length=ds2.length
   ·have q:=RcAt.lists (e:=fun j=>(ds1.getD j .aC).gv (ds2.getD j .aC)) l1 l2 (by simp[p1.length,p2.length,hn]) (by lia) fun j h1 h2=>
     have m:=(mE p1 h1).2
     xt (ds1.getD j .aC) (ds2.getD j .aC) _ _ A.in1 (mE p1 h1).1 (mE p2 h2).1 (by
      have:=vQ m;show A.units+1+_+1<cLine;lia)
    have q2:=vP ds1 ds2;rw[hn,pQ,beq_self_eq_true,tD] at q2;rw[ψ,p1.length,hn,q2] at q;exact q
   ·rw[AG _ _ hn];exact uq l1 l2 (by simp[p1.length,p2.length,hn]) (by lia)
 |.aC,.i7,u,v,A,p1,p2,hu=>by
  unfold Hv at p2;exact p2.elim
 |.bl b1,.i7,u,v,A,p1,p2,hu=>by
  unfold Hv at p2;exact p2.elim
 |.int b1,.i7,u,v,A,p1,p2,hu=>by
  unfold Hv at p2;exact p2.elim
 |.str b1,.i7,u,v,A,p1,p2,hu=>by
  unfold Hv at p2;exact p2.elim
 |.tup ds1,.i7,u,v,A,p1,p2,hu=>by
  unfold Hv at p2;exact p2.elim
 |.lst ds1,.i7,u,v,A,p1,p2,hu=>by
  unfold Hv at p2;exact p2.elim
 |.i7,e,u,v,A,p1,p2,hu=>by
  unfold Hv at p1;exact p1.elim
termination_by d=>sizeOf d
decreasing_by
 all_goals (have:=List.sizeOf_lt_of_mem m;first|(rw[D.tup.sizeOf_spec];lia)|(rw[D.lst.sizeOf_spec];lia))
theorem MY{s:θ}(d e:D)(u v:ε)(A:aL)(p1:Hv s.heap d u)(p2:Hv s.heap e v)(hu:A.units+d.lY+1<cLine):RcAt A s u v (d.gv e):=
 match d,e,p1,p2,hu with
 |.aC,.aC,p1,p2,hu=>by
  unfold Hv at p1;subst p1;unfold Hv at p2;subst p2;exact RcAt.none_none
 |.aC,.bl b2,p1,p2,hu=>by
  unfold Hv at p1;subst p1;unfold Hv at p2;subst p2;exact RcAt.none_bool  b2
 |.aC,.int b2,p1,p2,hu=>by
  unfold Hv at p1;subst p1;unfold Hv at p2;obtain⟨t2,rfl⟩:=p2;exact RcAt.none_int  b2 t2
 |.aC,.str b2,p1,p2,hu=>by
  unfold Hv at p1;subst p1;unfold Hv at p2;obtain⟨t2,rfl⟩:=p2;exact RcAt.none_str  b2 t2
 |.aC,.tup ds2,p1,p2,hu=>by
  unfold Hv at p1;subst p1;unfold Hv at p2;obtain⟨a2,its2,rfl,l2,p2⟩:=p2;exact RcAt.none_tuple  l2 (by lia)
 |.aC,.lst ds2,p1,p2,hu=>by
  unfold Hv at p1;subst p1;unfold Hv at p2;obtain⟨a2,its2,rfl,l2,p2⟩:=p2;exact RcAt.none_list  l2 (by lia)
 |.bl b1,.aC,p1,p2,hu=>by
  unfold Hv at p1;subst p1;unfold Hv at p2;subst p2;exact RcAt.bool_none b1
 |.bl b1,.bl b2,p1,p2,hu=>by
  unfold Hv at p1;subst p1;unfold Hv at p2;subst p2;exact RcAt.bool_bool b1 b2
 |.bl b1,.int b2,p1,p2,hu=>by
  unfold Hv at p1;subst p1;unfold Hv at p2;obtain⟨t2,rfl⟩:=p2;exact RcAt.bool_int b1 b2 t2
 |.bl b1,.str b2,p1,p2,hu=>by
  unfold Hv at p1;subst p1;unfold Hv at p2;obtain⟨t2,rfl⟩:=p2;exact RcAt.bool_str b1 b2 t2
 |.bl b1,.tup ds2,p1,p2,hu=>by
  unfold Hv at p1;subst p1;unfold Hv at p2;obtain⟨a2,its2,rfl,l2,p2⟩:=p2;exact RcAt.bool_tuple b1 l2 (by lia)
 |.bl b1,.lst ds2,p1,p2,hu=>by
  unfold Hv at p1;subst p1;unfold Hv at p2;obtain⟨a2,its2,rfl,l2,p2⟩:=p2;exact RcAt.bool_list b1 l2 (by lia)
 |.int b1,.aC,p1,p2,hu=>by
  unfold Hv at p1;obtain⟨t1,rfl⟩:=p1;unfold Hv at p2;subst p2;exact RcAt.int_none b1 t1
 |.int b1,.bl b2,p1,p2,hu=>by
  unfold Hv at p1;obtain⟨t1,rfl⟩:=p1;unfold Hv at p2;subst p2;exact RcAt.int_bool b1 t1 b2
 |.int b1,.int b2,p1,p2,hu=>by
  unfold Hv at p1;obtain⟨t1,rfl⟩:=p1;unfold Hv at p2;obtain⟨t2,rfl⟩:=p2;exact RcAt.int_int b1 t1 b2 t2
 |.int b1,.str b2,p1,p2,hu=>by
  unfold Hv at p1;obtain⟨t1,rfl⟩:=p1;unfold Hv at p2;obtain⟨t2,rfl⟩:=p2;exact RcAt.int_str b1 t1 b2 t2
 |.int b1,.tup ds2,p1,p2,hu=>by
  unfold Hv at p1;obtain⟨t1,rfl⟩:=p1;unfold Hv at p2;obtain⟨a2,its2,rfl,l2,p2⟩:=p2;exact RcAt.int_tuple b1 t1 l2 (by lia)
 |.int b1,.lst ds2,p1,p2,hu=>by
  unfold Hv at p1;obtain⟨t1,rfl⟩:=p1;unfold Hv at p2;obtain⟨a2,its2,rfl,l2,p2⟩:=p2;exact RcAt.int_list b1 t1 l2 (by lia)
 |.str b1,.aC,p1,p2,hu=>by
  unfold Hv at p1;obtain⟨t1,rfl⟩:=p1;unfold Hv at p2;subst p2;exact RcAt.str_none b1 t1
 |.str b1,.bl b2,p1,p2,hu=>by
  unfold Hv at p1;obtain⟨t1,rfl⟩:=p1;unfold Hv at p2;subst p2;exact RcAt.str_bool b1 t1 b2
 |.str b1,.int b2,p1,p2,hu=>by
  unfold Hv at p1;obtain⟨t1,rfl⟩:=p1;unfold Hv at p2;obtain⟨t2,rfl⟩:=p2;exact RcAt.str_int b1 t1 b2 t2
 |.str b1,.str b2,p1,p2,hu=>by
  unfold Hv at p1;obtain⟨t1,rfl⟩:=p1;unfold Hv at p2;obtain⟨t2,rfl⟩:=p2;exact RcAt.str_str b1 t1 b2 t2
 |.str b1,.tup ds2,p1,p2,hu=>by
  unfold Hv at p1;obtain⟨t1,rfl⟩:=p1;unfold Hv at p2;obtain⟨a2,its2,rfl,l2,p2⟩:=p2;exact RcAt.str_tuple b1 t1 l2 (by lia)
 |.str b1,.lst ds2,p1,p2,hu=>by
  unfold Hv at p1;obtain⟨t1,rfl⟩:=p1;unfold Hv at p2;obtain⟨a2,its2,rfl,l2,p2⟩:=p2;exact RcAt.str_list b1 t1 l2 (by lia)
 |.tup ds1,.aC,p1,p2,hu=>by
  unfold Hv at p1;obtain⟨a1,its1,rfl,l1,p1⟩:=p1;unfold Hv at p2;subst p2;exact RcAt.tuple_none  l1 (by lia)
 |.tup ds1,.bl b2,p1,p2,hu=>by
  unfold Hv at p1;obtain⟨a1,its1,rfl,l1,p1⟩:=p1;unfold Hv at p2;subst p2;exact RcAt.tuple_bool b2 l1 (by lia)
 |.tup ds1,.int b2,p1,p2,hu=>by
  unfold Hv at p1;obtain⟨a1,its1,rfl,l1,p1⟩:=p1;unfold Hv at p2;obtain⟨t2,rfl⟩:=p2;exact RcAt.tuple_int b2 t2 l1 (by lia)
 |.tup ds1,.str b2,p1,p2,hu=>by
  unfold Hv at p1;obtain⟨a1,its1,rfl,l1,p1⟩:=p1;unfold Hv at p2;obtain⟨t2,rfl⟩:=p2;exact RcAt.tuple_str b2 t2 l1 (by lia)
 |.tup ds1,.tup ds2,p1,p2,hu=>by
  unfold Hv at p1;obtain⟨a1,its1,rfl,l1,p1⟩:=p1;unfold Hv at p2;obtain⟨a2,its2,rfl,l2,p2⟩:=p2;unfold D.gv;have hdep:A.units+ig ds1+1+1<cLine:=by
   have e9:(.tup ds1:D).lY=ig ds1+1:=by first|rfl|(unfold D.lY;rfl)
   lia
  have q:=RcAt.tuples (e:=fun j=>(ds1.getD j .aC).gv (ds2.getD j .aC)) l1 l2 (by lia) fun j h1 h2=>
   xt (ds1.getD j .aC) (ds2.getD j .aC) _ _ A.in1 (mE p1 h1).1 (mE p2 h2).1 (by
    have:=vQ (mE p1 h1).2;show A.units+1+_+1<cLine;lia)
  rw[ψ,ψ,p1.length,p2.length,vP] at q;exact q
 |.tup ds1,.lst ds2,p1,p2,hu=>by
  unfold Hv at p1;obtain⟨a1,its1,rfl,l1,p1⟩:=p1;unfold Hv at p2;obtain⟨a2,its2,rfl,l2,p2⟩:=p2;exact RcAt.tuple_list l1 l2 (by lia)
 |.lst ds1,.aC,p1,p2,hu=>by
  unfold Hv at p1;obtain⟨a1,its1,rfl,l1,p1⟩:=p1;unfold Hv at p2;subst p2;exact RcAt.list_none  l1 (by lia)
 |.lst ds1,.bl b2,p1,p2,hu=>by
  unfold Hv at p1;obtain⟨a1,its1,rfl,l1,p1⟩:=p1;unfold Hv at p2;subst p2;exact RcAt.list_bool b2 l1 (by lia)
 |.lst ds1,.int b2,p1,p2,hu=>by
  unfold Hv at p1;obtain⟨a1,its1,rfl,l1,p1⟩:=p1;unfold Hv at p2;obtain⟨t2,rfl⟩:=p2;exact RcAt.list_int b2 t2 l1 (by lia)
 |.lst ds1,.str b2,p1,p2,hu=>by
  unfold Hv at p1;obtain⟨a1,its1,rfl,l1,p1⟩:=p1;unfold Hv at p2;obtain⟨t2,rfl⟩:=p2;exact RcAt.list_str b2 t2 l1 (by lia)
 |.lst ds1,.tup ds2,p1,p2,hu=>by
  unfold Hv at p1;obtain⟨a1,its1,rfl,l1,p1⟩:=p1;unfold Hv at p2;obtain⟨a2,its2,rfl,l2,p2⟩:=p2;exact RcAt.list_tuple l1 l2 (by lia)
 |.lst ds1,.lst ds2,p1,p2,hu=>by
  unfold Hv at p1;obtain⟨a1,its1,rfl,l1,p1⟩:=p1;unfold Hv at p2;obtain⟨a2,its2,rfl,l2,p2⟩:=p2;unfold D.gv;have hdep:A.units+ig ds1+1+1<cLine:=by
   have e9:(.lst ds1:D).lY=ig ds1+1:=by first|rfl|(unfold D.lY;rfl)
   lia
  by_cases hn:ds1.length=ds2.length
  ·have q:=RcAt.lists (e:=fun j=>(ds1.getD j .aC).gv (ds2.getD j .aC)) l1 l2 (by simp[p1.length,p2.length,hn]) (by lia) fun j h1 h2=>
    xt (ds1.getD j .aC) (ds2.getD j .aC) _ _ A.in1 (mE p1 h1).1 (mE p2 h2).1 (by
     have:=vQ (mE p1 h1).2;show A.units+1+_+1<cLine;lia)
   have q2:=vP ds1 ds2;rw[hn,pQ,beq_self_eq_true,tD] at q2;rw[ψ,p1.length,hn,q2] at q;exact q
  ·rw[AG _ _ hn];exact uq l1 l2 (by simp[p1.length,p2.length,hn]) (by lia)
 |d,.i7,p1,p2,hu=>by
  unfold Hv at p2;exact p2.elim
 |.i7,e,p1,p2,hu=>by
  unfold Hv at p1;exact p1.elim
theorem MX{s:θ}(d e:D)(u v:ε)(A:aL)(p1:Hv s.heap d u)(p2:Hv s.heap e v)(hu:A.units+d.lY+1<cLine):RcNeAt A s u v (!d.gv e):=
 match d,e,p1,p2,hu with
 |.aC,.aC,p1,p2,hu=>by
  unfold Hv at p1;subst p1;unfold Hv at p2;subst p2;exact RcNeAt.none_none
 |.aC,.bl b2,p1,p2,hu=>by
  unfold Hv at p1;subst p1;unfold Hv at p2;subst p2;exact RcNeAt.none_bool  b2
 |.aC,.int b2,p1,p2,hu=>by
  unfold Hv at p1;subst p1;unfold Hv at p2;obtain⟨t2,rfl⟩:=p2;exact RcNeAt.none_int  b2 t2
 |.aC,.str b2,p1,p2,hu=>by
  unfold Hv at p1;subst p1;unfold Hv at p2;obtain⟨t2,rfl⟩:=p2;exact RcNeAt.none_str  b2 t2
 |.aC,.tup ds2,p1,p2,hu=>by
  unfold Hv at p1;subst p1;unfold Hv at p2;obtain⟨a2,its2,rfl,l2,p2⟩:=p2;exact RcNeAt.none_tuple  l2 (by lia)
 |.aC,.lst ds2,p1,p2,hu=>by
  unfold Hv at p1;subst p1;unfold Hv at p2;obtain⟨a2,its2,rfl,l2,p2⟩:=p2;exact RcNeAt.none_list  l2 (by lia)
 |.bl b1,.aC,p1,p2,hu=>by
  unfold Hv at p1;subst p1;unfold Hv at p2;subst p2;exact RcNeAt.bool_none b1
 |.bl b1,.bl b2,p1,p2,hu=>by
  unfold Hv at p1;subst p1;unfold Hv at p2;subst p2;exact RcNeAt.bool_bool b1 b2
 |.bl b1,.int b2,p1,p2,hu=>by
  unfold Hv at p1;subst p1;unfold Hv at p2;obtain⟨t2,rfl⟩:=p2;exact RcNeAt.bool_int b1 b2 t2
 |.bl b1,.str b2,p1,p2,hu=>by
  unfold Hv at p1;subst p1;unfold Hv at p2;obtain⟨t2,rfl⟩:=p2;exact RcNeAt.bool_str b1 b2 t2
 |.bl b1,.tup ds2,p1,p2,hu=>by
  unfold Hv at p1;subst p1;unfold Hv at p2;obtain⟨a2,its2,rfl,l2,p2⟩:=p2;exact RcNeAt.bool_tuple b1 l2 (by lia)
 |.bl b1,.lst ds2,p1,p2,hu=>by
  unfold Hv at p1;subst p1;unfold Hv at p2;obtain⟨a2,its2,rfl,l2,p2⟩:=p2;exact RcNeAt.bool_list b1 l2 (by lia)
 |.int b1,.aC,p1,p2,hu=>by
  unfold Hv at p1;obtain⟨t1,rfl⟩:=p1;unfold Hv at p2;subst p2;exact RcNeAt.int_none b1 t1
 |.int b1,.bl b2,p1,p2,hu=>by
  unfold Hv at p1;obtain⟨t1,rfl⟩:=p1;unfold Hv at p2;subst p2;exact RcNeAt.int_bool b1 t1 b2
 |.int b1,.int b2,p1,p2,hu=>by
  unfold Hv at p1;obtain⟨t1,rfl⟩:=p1;unfold Hv at p2;obtain⟨t2,rfl⟩:=p2;exact RcNeAt.int_int b1 t1 b2 t2
 |.int b1,.str b2,p1,p2,hu=>by
  unfold Hv at p1;obtain⟨t1,rfl⟩:=p1;unfold Hv at p2;obtain⟨t2,rfl⟩:=p2;exact RcNeAt.int_str b1 t1 b2 t2
 |.int b1,.tup ds2,p1,p2,hu=>by
  unfold Hv at p1;obtain⟨t1,rfl⟩:=p1;unfold Hv at p2;obtain⟨a2,its2,rfl,l2,p2⟩:=p2;exact RcNeAt.int_tuple b1 t1 l2 (by lia)
 |.int b1,.lst ds2,p1,p2,hu=>by
  unfold Hv at p1;obtain⟨t1,rfl⟩:=p1;unfold Hv at p2;obtain⟨a2,its2,rfl,l2,p2⟩:=p2;exact RcNeAt.int_list b1 t1 l2 (by lia)
 |.str b1,.aC,p1,p2,hu=>by
  unfold Hv at p1;obtain⟨t1,rfl⟩:=p1;unfold Hv at p2;subst p2;exact RcNeAt.str_none b1 t1
 |.str b1,.bl b2,p1,p2,hu=>by
  unfold Hv at p1;obtain⟨t1,rfl⟩:=p1;unfold Hv at p2;subst p2;exact RcNeAt.str_bool b1 t1 b2
 |.str b1,.int b2,p1,p2,hu=>by
  unfold Hv at p1;obtain⟨t1,rfl⟩:=p1;unfold Hv at p2;obtain⟨t2,rfl⟩:=p2;exact RcNeAt.str_int b1 t1 b2 t2
 |.str b1,.str b2,p1,p2,hu=>by
  unfold Hv at p1;obtain⟨t1,rfl⟩:=p1;unfold Hv at p2;obtain⟨t2,rfl⟩:=p2;exact RcNeAt.str_str b1 t1 b2 t2
 |.str b1,.tup ds2,p1,p2,hu=>by
  unfold Hv at p1;obtain⟨t1,rfl⟩:=p1;unfold Hv at p2;obtain⟨a2,its2,rfl,l2,p2⟩:=p2;exact RcNeAt.str_tuple b1 t1 l2 (by lia)
 |.str b1,.lst ds2,p1,p2,hu=>by
  unfold Hv at p1;obtain⟨t1,rfl⟩:=p1;unfold Hv at p2;obtain⟨a2,its2,rfl,l2,p2⟩:=p2;exact RcNeAt.str_list b1 t1 l2 (by lia)
 |.tup ds1,.aC,p1,p2,hu=>by
  unfold Hv at p1;obtain⟨a1,its1,rfl,l1,p1⟩:=p1;unfold Hv at p2;subst p2;exact RcNeAt.tuple_none  l1 (by lia)
 |.tup ds1,.bl b2,p1,p2,hu=>by
  unfold Hv at p1;obtain⟨a1,its1,rfl,l1,p1⟩:=p1;unfold Hv at p2;subst p2;exact RcNeAt.tuple_bool b2 l1 (by lia)
 |.tup ds1,.int b2,p1,p2,hu=>by
  unfold Hv at p1;obtain⟨a1,its1,rfl,l1,p1⟩:=p1;unfold Hv at p2;obtain⟨t2,rfl⟩:=p2;exact RcNeAt.tuple_int b2 t2 l1 (by lia)
 |.tup ds1,.str b2,p1,p2,hu=>by
  unfold Hv at p1;obtain⟨a1,its1,rfl,l1,p1⟩:=p1;unfold Hv at p2;obtain⟨t2,rfl⟩:=p2;exact RcNeAt.tuple_str b2 t2 l1 (by lia)
 |.tup ds1,.tup ds2,p1,p2,hu=>by
  unfold Hv at p1;obtain⟨a1,its1,rfl,l1,p1⟩:=p1;unfold Hv at p2;obtain⟨a2,its2,rfl,l2,p2⟩:=p2;unfold D.gv;have hdep:A.units+ig ds1+1+1<cLine:=by
   have e9:(.tup ds1:D).lY=ig ds1+1:=by first|rfl|(unfold D.lY;rfl)
   lia
  have q:=RcNeAt.tuples (e:=fun j=>(ds1.getD j .aC).gv (ds2.getD j .aC)) l1 l2 (by lia) fun j h1 h2=>
   xt (ds1.getD j .aC) (ds2.getD j .aC) _ _ A.in1 (mE p1 h1).1 (mE p2 h2).1 (by
    have:=vQ (mE p1 h1).2;show A.units+1+_+1<cLine;lia)
  rw[ψ,ψ,p1.length,p2.length,vP] at q;exact q
 |.tup ds1,.lst ds2,p1,p2,hu=>by
  unfold Hv at p1;obtain⟨a1,its1,rfl,l1,p1⟩:=p1;unfold Hv at p2;obtain⟨a2,its2,rfl,l2,p2⟩:=p2;exact RcNeAt.tuple_list l1 l2 (by lia)
 |.lst ds1,.aC,p1,p2,hu=>by
  unfold Hv at p1;obtain⟨a1,its1,rfl,l1,p1⟩:=p1;unfold Hv at p2;subst p2;exact RcNeAt.list_none  l1 (by lia)
 |.lst ds1,.bl b2,p1,p2,hu=>by
  unfold Hv at p1;obtain⟨a1,its1,rfl,l1,p1⟩:=p1;unfold Hv at p2;subst p2;exact RcNeAt.list_bool b2 l1 (by lia)
 |.lst ds1,.int b2,p1,p2,hu=>by
  unfold Hv at p1;obtain⟨a1,its1,rfl,l1,p1⟩:=p1;unfold Hv at p2;obtain⟨t2,rfl⟩:=p2;exact RcNeAt.list_int b2 t2 l1 (by lia)
 |.lst ds1,.str b2,p1,p2,hu=>by
  unfold Hv at p1;obtain⟨a1,its1,rfl,l1,p1⟩:=p1;unfold Hv at p2;obtain⟨t2,rfl⟩:=p2;exact RcNeAt.list_str b2 t2 l1 (by lia)
 |.lst ds1,.tup ds2,p1,p2,hu=>by
  unfold Hv at p1;obtain⟨a1,its1,rfl,l1,p1⟩:=p1;unfold Hv at p2;obtain⟨a2,its2,rfl,l2,p2⟩:=p2;exact RcNeAt.list_tuple l1 l2 (by lia)
 |.lst ds1,.lst ds2,p1,p2,hu=>by
  unfold Hv at p1;obtain⟨a1,its1,rfl,l1,p1⟩:=p1;unfold Hv at p2;obtain⟨a2,its2,rfl,l2,p2⟩:=p2;unfold D.gv;have hdep:A.units+ig ds1+1+1<cLine:=by
   have e9:(.lst ds1:D).lY=ig ds1+1:=by first|rfl|(unfold D.lY;rfl)
   lia
  by_cases hn:ds1.length=ds2.length
  ·have q:=RcNeAt.lists (e:=fun j=>(ds1.getD j .aC).gv (ds2.getD j .aC)) l1 l2 (by simp[p1.length,p2.length,hn]) (by lia) fun j h1 h2=>
    xt (ds1.getD j .aC) (ds2.getD j .aC) _ _ A.in1 (mE p1 h1).1 (mE p2 h2).1 (by
     have:=vQ (mE p1 h1).2;show A.units+1+_+1<cLine;lia)
   have q2:=vP ds1 ds2;rw[hn,pQ,beq_self_eq_true,tD] at q2;rw[ψ,p1.length,hn,q2] at q;exact q
  ·rw[AG _ _ hn];exact RcNeAt.lists_lengths l1 l2 (by simp[p1.length,p2.length,hn]) (by lia)
 |d,.i7,p1,p2,hu=>by
  unfold Hv at p2;exact p2.elim
 |.i7,e,p1,p2,hu=>by
  unfold Hv at p1;exact p1.elim
end Dat
namespace L3
open PySem PySem.Spec PyProof.Rows L2
section
variable {X:Cx} {K:η}
def Cf(f:Int->Int->D):R3:=fun x y G Q=>match x,y with
 |.int i,.int j=>Q (f i j) G
 |_,_=>False
theorem i6{H:Hp}{i:Int}{v:V}(h:Hv K H (.int i) v):v=.int i:=by unfold Hv at h;exact h
theorem vO{H:Hp}{i:Bool}{v:V}(h:Hv K H (.bl i) v):v=.bl i:=by unfold Hv at h;exact h
theorem iq{H:Hp}{a:ζ}{v:V}(h:Hv K H (.obj a) v):v=.ref a:=by unfold Hv at h;exact h
theorem kZ{H:Hp}{ds:List D}{v:V}(h:Hv K H (.tup ds) v):∃a vs,v=.ref a/\cG K H a vs/\aO K H ds vs:=by unfold Hv at h;exact h
theorem t5{H:Hp}{ds:List D}{v:V}(h:Hv K H (.eS ds) v):∃a vs,v=.ref a/\oo K H a vs/\aO K H ds vs:=by unfold Hv at h;exact h
theorem nv{H:Hp}{i:Int}:Hv K H (.int i) (.int i):=by simp[Hv]
theorem nR{H:Hp}{i:Bool}:Hv K H (.bl i) (.bl i):=by simp[Hv]
theorem rZ{H:Hp}{a:ζ}:Hv K H (.obj a) (.ref a):=by simp[Hv]
theorem rY{H:Hp}{ds:List D}{a:ζ}{vs:List V}(h:cG K H a vs)(q:aO K H ds vs):Hv K H (.tup ds) (.ref a):=by
 unfold Hv;exact⟨a,vs,rfl,h,q⟩
theorem low_ints{f:Int->Int->D}{g:Int->Int->V}(hf:∀i j H,Hv K H (f i j) (g i j)):gq K (Cf f) (pd g):=fun x y vx vy G H Q3 Q hx hy RG h k=>by
 cases x with
 |int i=>
  cases y with
  |int j=>
   rw[i6 hx,i6 hy];exact⟨i,j,rfl,rfl,k _ H _ G (hf i j H) (.refl H G) RG h⟩
  |_=>exact h.elim
 |_=>exact h.elim
abbrev gb:R3:=Cf fun i j=>.int (i-j)
theorem lR:gq K gb (pd fun i j=>.int (i-j)):=low_ints fun _ _ _=>nv
abbrev Gv:R3:=Cf fun i j=>.bl (decide (i≤j))
theorem Yf:gq K Gv (pd fun i j=>.bl (decide (i≤j))):=low_ints fun _ _ _=>nR
abbrev wU:R3:=Cf fun i j=>.bl (decide (j<i))
theorem yW:gq K wU (pd fun i j=>.bl (decide (j<i))):=low_ints fun _ _ _=>nR
abbrev Gy:R3:=Cf fun i j=>.bl (decide (j≤i))
theorem Yh:gq K Gy (pd fun i j=>.bl (decide (j≤i))):=low_ints fun _ _ _=>nR
def gh(i:Int):Prop:=i.natAbs<2^4000
theorem JR{i:Int}(h:gh i):i.natAbs.log2<4000:=by
 by_cases h0:i.natAbs=0
 ·rw[h0];decide
 ·exact (Nat.log2_lt h0).mpr h
theorem JQ{i:Int}(h:gh i):jq i≤4000:=by
 unfold jq;split
 ·exact bp _
 ·exact JR h
theorem Tw{i j:Int}(h1:gh i)(h2:gh j):IntMulOk i j:=by
 unfold IntMulOk df.Int.intTooBig;have b1:=JQ h1;have b2:=JQ h2;have:¬((jq i:Int)+(jq j:Int) > (bitsLine:Int)):=by
  have:(bitsLine:Int)=134217728:=by decide
  lia
 rw[decide_eq_false this];simp
theorem qI:fi X (binaryOp .FloorDiv) (rI (fun _ j=>0<j/\gh j) fun i j=>.int (i / j)):=Ff fun i j _ _ _ _ _ hc q=>by
 have h1:(0:Int)<j:=hc.1;exact floordiv_int (by lia) (by rw[Int.fdiv_eq_ediv_of_nonneg i (by lia)];exact q) (.inl (PyProof.noPylong_of_log2 (jP (JR hc.2) (by decide))))
theorem FP:fi X (binaryOp .Mult) (rI (fun i j=>gh i/\gh j) fun i j=>.int (i*j)):=Ff fun _ _ _ _ _ _ _ hc q=>mul_int q (Tw hc.1 hc.2)
def zT(C:Int->Int->Prop)(f:Int->Int->D):R3:=fun x y G Q=>match x,y with
 |.int i,.int j=>C i j/\Q (f i j) G
 |_,_=>False
theorem Eg{C:Int->Int->Prop}{f:Int->Int->D}{g:Int->Int->V}(hf:∀i j H,Hv K H (f i j) (g i j)):gq K (zT C f) (rI C g):=fun x y vx vy G H Q3 Q hx hy RG h k=>by
 cases x with
 |int i=>
  cases y with
  |int j=>
   rw[i6 hx,i6 hy];exact⟨i,j,rfl,rfl,h.1,k _ H _ G (hf i j H) (.refl H G) RG h.2⟩
  |_=>exact h.elim
 |_=>exact h.elim
abbrev lO:R3:=zT (fun _ j=>0<j/\gh j) fun i j=>.int (i / j)
theorem qH:gq K lO (rI (fun _ j=>0<j/\gh j) fun i j=>.int (i / j)):=Eg fun _ _ _=>nv
abbrev jv:R3:=zT (fun _ j=>0<j) fun i j=>.int (i%j)
theorem mP:gq K jv (rI (fun _ j=>0<j) fun i j=>.int (i%j)):=Eg fun _ _ _=>nv
abbrev rR:R3:=zT EW fun i j=>.int (i^j.toNat)
theorem wZ:gq K rR (rI EW fun i j=>.int (i^j.toNat)):=Eg fun _ _ _=>nv
theorem Tv{prog:ah}{w:ax}{A:aL}{E:ε->θ->Prop}{s:θ}{t b:ζ}{ws:List ε}{Q:ε->θ->Prop}(ht:oQ s.heap t #[])(hb:oQ s.heap b ws.toArray)(h1:Q (.ref b) s):
  ρ (model prog w) A (binaryOp .Add (.ref t) (.ref b)) Q E s:=by
 obtain⟨⟨cls,dd,data,sl⟩,ho,hc,n,hd⟩:=id ht;obtain⟨⟨cls2,dd2,data2,sl2⟩,ho2,hc2,n2,hd2⟩:=id hb;simp only at hc hd hc2 hd2;subst hc hd hc2 hd2;exact pL ⟨_,ho,rfl⟩ ⟨_,ho2,rfl⟩ pK tf kN kj (jM _ _)
   (tuple_addW0 t b #[] ws.toArray n n2 dd dd2 sl sl2 rfl) ⟨ho,ho2,h1⟩
def Cg(K:η):R2:=fun x y H Q=>∃a b ys,x=.ref a/\y=.ref b/\cG K H a []/\cG K H b ys/\Q (.ref b) H
theorem Tu:fi X (binaryOp .Add) (Cg X.K):=by
 intro pins s σ H x y v u Q I rx ry h;obtain⟨a,b,ys,rfl,rfl,ha,hb,q⟩:=h;cases rx;cases ry;obtain⟨its,r1,p1,_⟩:=I.tuple ha;obtain⟨its2,r2,p2,_⟩:=I.tuple hb;cases r1;exact Tv p1 p2 ⟨.ref b,H,I,rfl,q⟩
def dy:R3:=fun x y G Q=>match x,y with
 |.int i,.int j=>Q (.int (i+j)) G
 |.obj a,.obj b=>∃ds es,G a=some (.lst ds)/\G b=some (.lst es)/\ds.length+es.length≤au/\∀p G',cw G p (.lst (ds++es)) G'->Q (.obj p) G'
 |.tup ds,.tup es=>ds.length+es.length≤au/\Q (.tup (ds++es)) G
 |_,_=>False
abbrev Fd(K:η):R2:=fun x y H Q=>pd (fun i j=>.int (i+j)) x y H Q∨(Gz x y H Q∨(Fb K x y H Q∨Cg K x y H Q))
theorem gV:fi X (binaryOp .Add) (Fd X.K):=KR.or (KQ.or (FQ.or Tu))
theorem gU:gq K dy (Fd K):=fun x y vx vy G H Q3 Q hx hy RG h k=>by
 cases x with
 |int i=>
  cases y with
  |int j=>
   rw[i6 hx,i6 hy];exact .inl ⟨i,j,rfl,rfl,k _ H _ G nv (.refl H G) RG h⟩
  |_=>exact h.elim
 |obj a=>
  cases y with
  |obj b=>
   rw[iq hx,iq hy];obtain⟨ds,es,e1,e2,hz,q⟩:=h;obtain⟨vs,z1,z2⟩:=RG a _ e1;obtain⟨us,y1,y2⟩:=RG b _ e2;refine .inr (.inl ⟨a,b,vs,us,rfl,rfl,z1,y1,by rw[←z2.length,←y2.length];exact hz,fun p hp=>?_⟩);exact k _ _ (.obj p) _ rZ (.hJ hp) (RG.vT hp (z2.append y2)) (q p _ (.mk' (RG.free hp)))
  |_=>exact h.elim
 |tup ds=>
  cases y with
  |tup es=>
   obtain⟨a,vs,rfl,e1,e2⟩:=kZ hx;obtain⟨b,us,rfl,y1,y2⟩:=kZ hy;by_cases h0:vs=[]
   ·subst h0;have:ds=[]:=by
     have:=e2.length;exact mz (by simpa using this)
    subst this;exact .inr (.inr (.inr ⟨a,b,us,rfl,rfl,e1,y1,k _ H (.tup es) G (rY y1 y2) (.refl H G) RG h.2⟩))
   ·refine .inr (.inr (.inl ⟨a,b,vs,us,rfl,rfl,e1,y1,h0,by rw[←e2.length,←y2.length];exact h.1,fun z=>?_,fun z p hp=>?_⟩))
    ·subst z;have:es=[]:=mz (by simpa using y2.length);subst this;refine k _ H (.tup ds) G (rY e1 e2) (.refl H G) RG ?_;have:=h.2;rwa [bB] at this
    ·exact k _ _ (.tup (ds++es)) G (rY (.of gW) ((e2.append y2).ext (.laid hp))) (.laid hp) (RG.laid hp) h.2
  |_=>exact h.elim
 |_=>exact h.elim
def eY:R3:=fun x y G Q=>match x,y with
 |.int i,.int j=>(gh i/\gh j)/\Q (.int (i*j)) G
 |.obj a,.int k=>∃ds,G a=some (.lst ds)/\(-(2^63)≤k/\k<2^63)/\ds.length*k.toNat≤au/\∀p G',cw G p (.lst (aj k.toNat ds).flatten) G'->Q (.obj p) G'
 |_,_=>False
abbrev E9:R2:=fun x y H Q=>rI (fun i j=>gh i/\gh j) (fun i j=>.int (i*j)) x y H Q∨Gr x y H Q
theorem kh:fi X (binaryOp .Mult) E9:=FP.or Vp
theorem kg:gq K eY E9:=fun x y vx vy G H Q3 Q hx hy RG h k=>by
 cases x with
 |int i=>
  cases y with
  |int j=>
   rw[i6 hx,i6 hy];exact .inl ⟨i,j,rfl,rfl,h.1,k _ H _ G nv (.refl H G) RG h.2⟩
  |_=>exact h.elim
 |obj a=>
  cases y with
  |int j=>
   rw[iq hx,i6 hy];obtain⟨ds,e1,hk,hz,q⟩:=h;obtain⟨vs,z1,z2⟩:=RG a _ e1;refine .inr ⟨a,j,vs,rfl,rfl,z1,hk.1,hk.2,by rw[←z2.length];exact hz,fun p hp=>?_⟩;exact k _ _ (.obj p) _ rZ (.hJ hp) (RG.vT hp (z2.rep _)) (q p _ (.mk' (RG.free hp)))
  |_=>exact h.elim
 |_=>exact h.elim
def Ba:D->Bool
 |.aC=>true
 |_=>false
def CJ(neg:Bool):R3:=fun x y G Q=>match y with
 |.aC=>Q (.bl (if neg then !Ba x else Ba x)) G
 |_=>False
theorem Tt{H:Hp}{x:D}{v:V}(h:Hv K H x v):decide (v=.aC)=Ba x:=by
 cases x with
 |aC=>unfold Hv at h;subst h;rfl
 |bl b=>rw[vO h];rfl
 |int b=>rw[i6 h];rfl
 |str b=>unfold Hv at h;subst h;rfl
 |obj b=>rw[iq h];rfl
 |tup ds=>obtain⟨a,vs,rfl,_⟩:=kZ h;rfl
 |eS ds=>obtain⟨a,vs,rfl,_⟩:=t5 h;rfl
 |dc a=>unfold Hv at h;rw[h.1];rfl
theorem JP:gq K (CJ true) (fun x y H Q=>y=.aC/\Q (.bl (!decide (x=.aC))) H):=fun x y vx vy G H Q3 Q hx hy RG h k=>by
 cases y with
 |aC=>
  refine⟨by unfold Hv at hy;exact hy,?_⟩;rw[Tt hx];exact k _ H _ G nR (.refl H G) RG h
 |_=>exact h.elim
def intsOf:List D->Option (List Int)
 |[]=>some []
 |.int i::r=>(intsOf r).map (i::·)
 |_::_=>none
theorem tZ{H:Hp}:∀{ds:List D} {vs:List V} {ns:List Int},aO K H ds vs->intsOf ds=some ns->vs=ns.map V.int
 |[],vs,ns,h,e=>by
  cases e;exact h.jk
 |d::ds,vs,ns,h,e=>by
  cases d with
  |int i=>
   obtain⟨v,r,rfl,z1,z2⟩:=h.inv;unfold intsOf at e;cases hm:intsOf ds with
   |none=>rw[hm] at e;cases e
   |some ms=>
    rw[hm] at e;cases e;rw[i6 z1,tZ z2 hm];rfl
  |_=>cases e
def xK:R3:=fun x y G Q=>match x,y with
 |.int i,.int j=>Q (.bl (decide (i<j))) G
 |.tup ds,.tup es=>∃ns ms,intsOf ds=some ns/\intsOf es=some ms/\Q (.bl (HT.lexLt ns ms)) G
 |_,_=>False
abbrev Gu(K:η):R2:=fun x y H Q=>pd (fun i j=>.bl (decide (i<j))) x y H Q∨Gs K x y H Q
theorem Ef(hu:X.A.units<cLine):fi X (compareOp .Lt) (Gu X.K):=LV.or (UY hu)
theorem Ee:gq K xK (Gu K):=fun x y vx vy G H Q3 Q hx hy RG h k=>by
 cases x with
 |int i=>
  cases y with
  |int j=>
   rw[i6 hx,i6 hy];exact .inl ⟨i,j,rfl,rfl,k _ H _ G nR (.refl H G) RG h⟩
  |_=>exact h.elim
 |tup ds=>
  cases y with
  |tup es=>
   obtain⟨a,vs,rfl,e1,e2⟩:=kZ hx;obtain⟨b,us,rfl,y1,y2⟩:=kZ hy;obtain⟨ns,ms,z1,z2,q⟩:=h;have q1:=tZ e2 z1;have q2:=tZ y2 z2;subst q1 q2;exact .inr ⟨a,b,ns,ms,rfl,rfl,e1,y1,k _ H _ G nR (.refl H G) RG q⟩
  |_=>exact h.elim
 |_=>exact h.elim
def dE:R3:=fun x y G Q=>match x,y with
 |.tup ds,.int i=>∃d,lE ds i=some d/\Q d G
 |.eS ds,.int i=>∃d,lE ds i=some d/\Q d G
 |.obj p,.int i=>∃ds d,G p=some (.lst ds)/\lE ds i=some d/\Q d G
 |_,_=>False
theorem yC{H:Hp}{ds:List D}{vs:List V}{i:Int}{d:D}(h:aO K H ds vs)(e:lE ds i=some d):∃v,lE vs i=some v/\Hv K H d v:=by
 unfold lE at e ⊢;rw[←h.length];cases hx:sV ds.length i with
 |none=>rw[hx] at e;cases e
 |some j=>
  rw[hx] at e;exact h.get e
theorem Yg:gq K dE (Mz K):=fun x y vx vy G H Q3 Q hx hy RG h k=>by
 cases y with
 |int i=>
  rw[i6 hy];cases x with
  |tup ds=>
   obtain⟨d,e,q⟩:=h;obtain⟨a,vs,rfl,e1,e2⟩:=kZ hx;obtain⟨v,z1,z2⟩:=yC e2 e;exact .inr (.inl ⟨a,vs,i,v,rfl,rfl,e1,z1,k _ H d G z2 (.refl H G) RG q⟩)
  |eS ds=>
   obtain⟨d,e,q⟩:=h;obtain⟨a,vs,rfl,e1,e2⟩:=t5 hx;obtain⟨v,z1,z2⟩:=yC e2 e;exact .inl ⟨a,vs,i,v,rfl,rfl,e1.l,z1,k _ H d G z2 (.refl H G) RG q⟩
  |obj p=>
   obtain⟨ds,d,e0,e,q⟩:=h;rw[iq hx];obtain⟨vs,e1,e2⟩:=RG p _ e0;obtain⟨v,z1,z2⟩:=yC e2 e;exact .inl ⟨p,vs,i,v,rfl,rfl,.of e1,z1,k _ H d G z2 (.refl H G) RG q⟩
  |_=>exact h.elim
 |_=>cases x<;>exact h.elim
theorem Yr{a b:υ}{ta tb:aP}{pos:aQ}(ha:bS X a ta)(hb:bS X b tb)(hs:rb b:=by intro _ _;rfl):bS X (.Subscript a b pos) (aq dE ta tb):=jG (Kg Kf ha hb hs) fun _ _ _ h=>AJ Yg h
def wq(ta:dF)(tb:aP):aP:=fun τ G Q=>ta τ G fun ds G1=>tQ (tb τ G1 fun y G2=>match y with
 |.int i=>∃d,lE ds i=some d/\Q d G2
 | _=>False) ds 64
theorem Ts{es:List υ}{b:υ}{ta:dF}{tb:aP}{pos pos':aQ}(ha:ki X es ta)(hb:bS X b tb)(hs:rb b:=by intro _ _;rfl):bS X (.Subscript (.List es pos') b pos) (wq ta tb):=
 jG (Kg Kf (Kr ha) hb hs) fun σ H Q ⟨τ,G,Q3,RS,RG,h,k⟩=>by
  refine⟨τ,G,_,RS,RG,h,fun vs H1 ds G1 h1 S1 R1 q1=>?_⟩;obtain⟨z,q1⟩:=AI q1;refine⟨by rw[←h1.length];exact yU z,fun p hp=>?_⟩;refine⟨τ,G1,_,(RS.ext (S1.ext RG)).ext (.laid hp),R1.laid hp,q1,fun v2 H2 d2 G2 h2 S2 R2 q2=>?_⟩;have e2:H2 p=some (.lst vs):=S2.fr p _ gW (R1.free hp);cases d2 with
  |int i=>
   obtain⟨d,e,q⟩:=q2;obtain⟨v,z1,z2⟩:=yC ((h1.ext (.laid hp)).ext (S2.ext (R1.laid hp))) e;rw[i6 h2];exact .inl ⟨p,vs,i,v,rfl,rfl,.of e2,z1,k _ H2 d G2 z2 ((S1.trans (.laid hp)).trans S2) R2 q⟩
  |_=>exact q2.elim
end
end L3
namespace L3
open PySem PySem.Spec PyProof.Rows L2
mutual
def qX:D->Option Dat.D
 |.aC=>some .aC
 |.bl b=>some (.bl b)
 |.int i=>some (.int i)
 |.str x=>some (.str x)
 |.tup ds=>match fY ds with
  |some xs=>some (.tup xs)
  |none=>none
 |.eS ds=>match fY ds with
  |some xs=>some (.lst xs)
  |none=>none
 |.obj _=>none
 |.dc _=>none
def fY:List D->Option (List Dat.D)
 |[]=>some []
 |d::ds=>match qX d with
  |some x=>match fY ds with
   |some xs=>some (x::xs)
   |none=>none
  |none=>none
end
def uH(G:Gp):D->Option Dat.D
 |.obj a=>match G a with
  |some (.lst ds)=>match fY ds with
   |some xs=>some (.lst xs)
   |none=>none
  |_=>none
 |d=>qX d
section
variable {X:Cx} {pins:List (ζ×aK)} {σ:L2.St} {H:Hp} {s:θ}
mutual
theorem tY(I:Inv X pins σ H s):∀{d:D} {v:V} {u:ε} {x:Dat.D},Hv X.K H d v->RelV v u->qX d=some x->Dat.Hv s.heap x u
 |.aC,v,u,x,h,r,e=>by
  unfold Hv at h;subst h;cases e;unfold Dat.Hv;exact r
 |.bl b,v,u,x,h,r,e=>by
  unfold Hv at h;subst h;cases e;unfold Dat.Hv;exact r
 |.int b,v,u,x,h,r,e=>by
  unfold Hv at h;subst h;cases e;unfold Dat.Hv;exact r
 |.str b,v,u,x,h,r,e=>by
  unfold Hv at h;subst h;cases e;unfold Dat.Hv;exact r
 |.obj a,v,u,x,h,r,e=>by cases e
 |.dc a,v,u,x,h,r,e=>by cases e
 |.tup ds,v,u,x,h,r,e=>by
  obtain⟨a,vs,rfl,q1,q2⟩:=kZ h;cases r;unfold qX at e;cases hd:fY ds with
  |none=>rw[hd] at e;cases e
  |some xs=>
   rw[hd] at e;cases e;obtain⟨its,rv,p,_⟩:=I.tuple q1;unfold Dat.Hv;exact⟨a,its,rfl,p,AF I q2 rv hd⟩
 |.eS ds,v,u,x,h,r,e=>by
  obtain⟨a,vs,rfl,q1,q2⟩:=t5 h;cases r;unfold qX at e;cases hd:fY ds with
  |none=>rw[hd] at e;cases e
  |some xs=>
   rw[hd] at e;cases e;obtain⟨its,rv,p,_⟩:=I.list q1.l;unfold Dat.Hv;exact⟨a,its,rfl,p.isList,AF I q2 rv hd⟩
theorem AF(I:Inv X pins σ H s):∀{ds:List D} {vs:List V} {us:List ε} {xs:List Dat.D},aO X.K H ds vs->bj vs us->fY ds=some xs->Dat.aO s.heap xs us
 |[],vs,us,xs,h,r,e=>by
  cases h.jk;cases r;cases e;unfold Dat.aO;rfl
 |d::ds,vs,us,xs,h,r,e=>by
  obtain⟨v,vr,rfl,q1,q2⟩:=h.inv;unfold fY at e;cases hd:qX d with
  |none=>rw[hd] at e;cases e
  |some x=>
   rw[hd] at e;cases hr:fY ds with
   |none=>rw[hr] at e;cases e
   |some xr=>
    rw[hr] at e;cases e;cases r with
    |cons r1 r2=>
     unfold Dat.aO;exact⟨_,_,rfl,tY I q1 r1 hd,AF I q2 r2 hr⟩
end
theorem AE{G:Gp}(I:Inv X pins σ H s)(RG:aT X.K G H){d:D}{v:V}{u:ε}{x:Dat.D}(h:Hv X.K H d v)(r:RelV v u)(e:uH G d=some x):Dat.Hv s.heap x u:=by
 cases d with
 |obj a=>
  rw[iq h] at r;cases r;unfold uH at e;cases hG:G a with
  |none=>simp[hG] at e
  |some o=>
   cases o with
   |lst ds=>
    simp only[hG] at e;cases hr:fY ds with
    |none=>rw[hr] at e;cases e
    |some xs=>
     rw[hr] at e;cases e;obtain⟨vs,e1,e2⟩:=RG a _ hG;obtain⟨its,rv,p,_⟩:=I.list (eU.of e1);unfold Dat.Hv;exact⟨a,its,rfl,p.isList,AF I e2 rv hr⟩
   |mG=>simp[hG] at e
   |i7=>simp[hG] at e
   |gen R=>simp[hG] at e
 |aC=>exact tY I h r e
 |bl _=>exact tY I h r e
 |int _=>exact tY I h r e
 |str _=>exact tY I h r e
 |tup _=>exact tY I h r e
 |eS _=>exact tY I h r e
 |dc _=>exact tY I h r e
end
section
variable {X:Cx} {a b e:υ} {ta tb:aP} {pos:aQ}
def gZ(neg:Bool):R3:=fun x y G Q=>∃u v,uH G x=some u/\uH G y=some v/\u.lY≤50/\Q (.bl (if neg then !u.gv v else u.gv v)) G
def B0(X:Cx)(f:ε->ε->kL ε)(r:R3):Prop:=
 ∀(pins:List (ζ×aK)) (s:θ) (σ:L2.St) (H:Hp) (G:Gp) (x y:D) (vx vy:V) (u v:ε) (Q3:V3),Inv X pins σ H s->aT X.K G H->Hv X.K H x vx->Hv X.K H y vy->RelV vx u->RelV vy v->r x y G Q3 ->
  ρ (model X.prog X.w) X.A (f u v) (EP X pins σ fun w H'=>∃d G',Hv X.K H' d w/\Step H G H' G'/\aT X.K G' H'/\Q3 d G') X.xe s
theorem Zc(hu:X.A.units+64<cLine):B0 X (compareOp .Eq) (gZ false):=by
 intro pins s σ H G x y vx vy u v Q3 I RG hx hy rx ry ⟨p,q,e1,e2,hd,h⟩;have:=Dat.MY p q u v X.A (AE I RG hx rx e1) (AE I RG hy ry e2) (by lia);exact this _ _ _ _ ⟨.bl (p.gv q),H,I,rfl,.bl (p.gv q),G,nR,.refl H G,RG,h⟩
theorem YL(hu:X.A.units+64<cLine):B0 X (compareOp .NotEq) (gZ true):=by
 intro pins s σ H G x y vx vy u v Q3 I RG hx hy rx ry ⟨p,q,e1,e2,hd,h⟩;have:=Dat.MX p q u v X.A (AE I RG hx rx e1) (AE I RG hy ry e2) (by lia);exact this _ _ _ _ ⟨.bl (!p.gv q),H,I,rfl,.bl (!p.gv q),G,nR,.refl H G,RG,h⟩
def uM(K:η)(r:R3):R2:=fun vx vy H Q=>∃x y G Q3,aT K G H/\Hv K H x vx/\Hv K H y vy/\r x y G Q3/\∀v H' d G',Hv K H' d v->Step H G H' G'->aT K G' H'->Q3 d G'->Q v H'
theorem B0.op{f:ε->ε->kL ε}{r:R3}(h:B0 X f r):fi X f (uM X.K r):=by
 intro pins s σ H vx vy u v Q I rx ry ⟨x,y,G,Q3,RG,hx,hy,q,k⟩;refine bN (h pins s σ H G x y vx vy u v Q3 I RG hx hy rx ry q) fun w s' ⟨v',H',I',r',d,G',z1,z2,z3,z4⟩=>⟨v',H',I',r',k v' H' d G' z1 z2 z3 z4⟩
theorem JO{K:η}{r:R3}:gq K r (uM K r):=fun x y vx vy G H Q3 Q hx hy RG h k=>⟨x,y,G,Q3,RG,hx,hy,h,k⟩
theorem rX(hu:X.A.units+64<cLine):fi X (compareOp .Eq) (uM X.K (gZ false)):=(Zc hu).op
theorem yB(hu:X.A.units+64<cLine):fi X (compareOp .NotEq) (uM X.K (gZ true)):=(YL hu).op
theorem sj{K:η}:gq K (gZ false) (uM K (gZ false)):=JO
theorem yV{K:η}:gq K (gZ true) (uM K (gZ true)):=JO
abbrev xD:=S3->Gp->(Option Int->Gp->Prop)->Prop
def Ye(K:η)(t:xD):TO:=fun σ H Q=>∃τ G Q3,eJ K τ σ H/\aT K G H/\t τ G Q3/\∀o H' G',Step H G H' G'->aT K G' H'->Q3 o G'->Q o H'
abbrev Cu(X:Cx)(e:Option υ)(t:xD):Prop:=PO X e (Ye X.K t)
theorem JN{o:Option υ}{t t':TO}(h:PO X o t)(f:∀σ H Q,t' σ H Q->t σ H Q):PO X o t':=fun pins s σ H Q I q=>h pins s σ H Q I (f σ H Q q)
def wg:xD:=fun _ G Q=>Q none G
def se(t:aP):xD:=fun τ G Q=>t τ G fun x G1=>match x with
 |.int i=>Q (some i) G1
 |_=>False
theorem Tr:Cu X none wg:=JN U1 fun σ H Q ⟨τ,G,Q3,RS,RG,h,k⟩=>k none H G (.refl H G) RG h
theorem Tq(h:bS X e ta):Cu X (some e) (se ta):=JN (U0 h) fun σ H Q ⟨τ,G,Q3,RS,RG,h,k⟩=>
 ⟨τ,G,_,RS,RG,h,fun v H1 d G1 h1 S1 R1 q1=>by
  cases d with
  |int i=>exact⟨i,i6 h1,k (some i) H1 G1 S1 R1 q1⟩
  |_=>exact q1.elim⟩
def ll(ds:List D)(lo hi:Option Int):List D:=(ds.drop (HT.cu ds.length 0 lo)).take (HT.cu ds.length ds.length hi-HT.cu ds.length 0 lo)
def zD(ta:aP)(tl th:xD):aP:=fun τ G Q=>ta τ G fun x G1=>tl τ G1 fun lo G2=>th τ G2 fun hi G3=>match x with
 |.tup ds=>Q (.tup (ll ds lo hi)) G3
 |.eS ds=>∀p G4,cw G3 p (.lst (ll ds lo hi)) G4->Q (.obj p) G4
 |.obj a=>∃ds,G3 a=some (.lst ds)/\∀p G4,cw G3 p (.lst (ll ds lo hi)) G4->Q (.obj p) G4
 |_=>False
theorem Ed{K:η}{H:Hp}{ds:List D}{vs:List V}(h:aO K H ds vs)(lo hi:Option Int):aO K H (ll ds lo hi) (uf vs lo hi):=by
 unfold ll uf;rw[h.length];exact (h.drop _).take _
theorem Tp{prog:ah}{w:ax}{A:aL}{E:ε->θ->Prop}{s:θ}{t sl:ζ}{items:Array ε}{vl vu:ε}{lo hi:Option Int}{Q:ε->θ->Prop}(ht:oQ s.heap t items)(hs:s.heap.IsSliceOf sl vl vu .none)(pl:mv vl lo)(pu:mv vu hi)
  (hw:HT.cu items.size 0 lo=0/\HT.cu items.size items.size hi=items.size) (h:Q (.ref t) s):ρ (model prog w) A (getItem (.ref t) (.ref sl)) Q E s:=by
 obtain⟨os,hos,hcs,hds⟩:=id hs;have hTs:s.TypeIs (.ref sl) "slice":=⟨os,hos,hcs⟩;unfold getItem
 try with_reducible refine bO ?_
 first|refine δ (ι ?_)|skip
 refine δ (wpAny_sequenceKey ht.typeIs (by decide) ?_);refine δ (ck (name:=fk "__getitem__") ht.typeIs cT
  (bX cT ht.typeIs entry_tuple_getitem ?_ (args_tuple_getitem _ _)))
 show ρ _ _ (og (.ref t) >>= _) _ _ s;refine δ (tupleItemsOf_ ht ?_);refine δ (jL hTs ?_);rw[if_pos (by decide)];refine δ (HT.pb hs pl pu ?_);have hyes:(((HT.cu items.size 0 lo:Nat):Int)==0&&(1:Int)==1&&(HT.cu items.size items.size hi-HT.cu items.size 0 lo)==items.size)=true:=by
  rw[hw.1,hw.2];simp
 show ρ _ _ (if (((HT.cu items.size 0 lo:Nat):Int)==0&&(1:Int)==1&&(HT.cu items.size items.size hi-HT.cu items.size 0 lo)==items.size)=true then _ else _) _ _ s;rw[if_pos hyes];unfold df.Tuple.tupleIsExact;refine δ (δ (jL ht.typeIs (ι ?_)));rw[if_pos (by decide)];exact δ (mf (ι ⟨_,rfl,ι h⟩))
def LQ(K:η):V->Option Int->Option Int->Hp->VK->Prop:=fun x lo hi H Q=>∃a xs,x=.ref a/\cG K H a xs ∧
 (HT.cu xs.length 0 lo=0/\HT.cu xs.length xs.length hi=xs.length)/\Q (.ref a) H
theorem FL:xE X (LQ X.K):=by
 intro pins s σ H x v vl vu lo hi sl Q I rx hs pl pu h;obtain⟨a,xs,rfl,hx,hw,q⟩:=h;cases rx;obtain⟨its,r,ht,hz⟩:=I.tuple hx;have hlen:its.toArray.size=xs.length:=by rw[ψ];exact r.length.symm
 refine⟨"tuple",_,cT.lookup,ht.typeIs,?_⟩;exact Tp ht hs pl pu (by rw[hlen];exact hw) ⟨.ref a,H,I,rfl,q⟩
theorem Yp{lo hi:Option υ}{tl th:xD}{p2:aQ}(ha:bS X a ta)(hl:Cu X lo tl)(hh:Cu X hi th):bS X (.Subscript a (.Slice lo hi none p2) pos) (zD ta tl th):=
 jG (UZ (Gn.or (FL.or US)) ha hl hh) fun σ H Q ⟨τ,G,Q3,RS,RG,h,k⟩=>by
  refine⟨τ,G,_,RS,RG,h,fun v1 H1 d1 G1 h1 S1 R1 q1=>?_⟩;have RS1:=RS.ext (S1.ext RG);refine⟨τ,G1,_,RS1,R1,q1,fun l H2 G2 S2 R2 q2=>?_⟩;have RS2:=RS1.ext (S2.ext R1);refine⟨τ,G2,_,RS2,R2,q2,fun u H3 G3 S3 R3 q3=>?_⟩;have S13:Step H G H3 G3:=(S1.trans S2).trans S3;have hv:=(h1.ext (S2.ext R1)).ext (S3.ext R2);cases d1 with
  |tup ds=>
   obtain⟨a',vs,rfl,e1,e2⟩:=kZ hv;by_cases hw:HT.cu vs.length 0 l=0/\HT.cu vs.length vs.length u=vs.length
   ·refine .inr (.inl ⟨a',vs,rfl,e1,hw,k _ H3 (.tup (ll ds l u)) G3 (rY e1 ?_) S13 R3 q3⟩);have:ll ds l u=ds:=by
     unfold ll;rw[e2.length,hw.1,hw.2];simp[←e2.length]
    rw[this];exact e2
   ·refine .inl ⟨a',vs,rfl,e1,hw,fun p hp=>?_⟩;exact k _ _ (.tup (ll ds l u)) G3 (rY (.of gW) ((Ed e2 l u).ext (.laid hp))) (S13.trans (.laid hp)) (R3.laid hp) q3
  |eS ds=>
   obtain⟨a',vs,rfl,e1,e2⟩:=t5 hv;refine .inr (.inr ⟨a',vs,rfl,e1.l,fun p hp=>?_⟩);exact k _ _ (.obj p) _ rZ (S13.trans (.hJ hp)) (R3.vT hp (Ed e2 l u)) (q3 p _ (.mk' (R3.free hp)))
  |obj a'=>
   rw[iq hv];obtain⟨ds,e0,q3⟩:=q3;obtain⟨vs,e1,e2⟩:=R3 a' _ e0;refine .inr (.inr ⟨a',vs,rfl,.of e1,fun p hp=>?_⟩);exact k _ _ (.obj p) _ rZ (S13.trans (.hJ hp)) (R3.vT hp (Ed e2 l u)) (q3 p _ (.mk' (R3.free hp)))
  |_=>exact q3.elim
end
end L3
namespace L3
open PySem PySem.Spec PyProof.Rows L2
abbrev C3:=List D->Gp->V3->Prop
def eL(r:C3)(t:dF):aP:=fun τ G Q=>t τ G fun ds G1=>r ds G1 Q
def sI(K:η)(r:C3)(r2:List V->Hp->VK->Prop):Prop:=∀ds vs G H Q3 Q,aO K H ds vs->aT K G H->r ds G Q3->(∀v H' d G',Hv K H' d v->Step H G H' G'->aT K G' H'->Q3 d G'->Q v H')->r2 vs H Q
section
variable {X:Cx} {K:η} {e:υ} {es:List υ} {t:dF} {ta:aP} {pos p:aQ}
theorem Ue{r:C3}{r2:List V->Hp->VK->Prop}(L:sI K r r2){σ:L2.St}{H:Hp}{Q:VK}(h:low K (eL r t) σ H Q):B6 r2 (vU K t) σ H Q:=by
 obtain⟨τ,G,Q3,RS,RG,h,k⟩:=h;refine⟨τ,G,_,RS,RG,h,fun vs H1 ds G1 h1 S1 R1 q1=>?_⟩;exact L _ _ _ _ _ _ h1 R1 q1 fun v H' d G' z1 z2 z3 z4=>k v H' d G' z1 (S1.trans z2) z3 z4
theorem ue{r:C3}{r2:List V->Hp->VK->Prop}(L:sI X.K r r2)(h:PE X e (B6 r2 (vU X.K t))):bS X e (eL r t):=jG h fun _ _ _ h=>Ue L h
theorem su{H:Hp}{d:D}{vs:List V}(h:aO K H [d] vs):∃v,vs=[v]/\Hv K H d v:=by
 obtain⟨v,r,rfl,z1,z2⟩:=h.inv;cases z2.jk;exact⟨v,rfl,z1⟩
theorem Yk{H:Hp}{d d':D}{vs:List V}(h:aO K H [d,d'] vs):∃v v',vs=[v,v']/\Hv K H d v/\Hv K H d' v':=by
 obtain⟨v,r,rfl,z1,z2⟩:=h.inv;obtain⟨v',rfl,z3⟩:=su z2;exact⟨v,v',rfl,z1,z3⟩
def kv:C3:=fun ds G Q=>match ds with
 |[.obj a]=>∃xs,G a=some (.lst xs)/\Q (.int xs.length) G
 |[.tup xs]=>Q (.int xs.length) G
 |[.eS xs]=>Q (.int xs.length) G
 |_=>False
theorem Ud:sI K kv (fun xs H Q=>∃p ys,xs=[.ref p]/\(eU K H p ys∨cG K H p ys)/\Q (.int ys.length) H):=fun ds vs G H Q3 Q h RG q k=>by
 rcases ds with _|⟨d,_|⟨d2,ds⟩⟩
 ·exact q.elim
 ·obtain⟨v,rfl,hv⟩:=su h;cases d with
  |obj a=>
   obtain⟨xs,e,q⟩:=q;obtain⟨us,e1,e2⟩:=RG a _ e;rw[iq hv];exact⟨a,us,rfl,.inl (.of e1),by rw[←e2.length];exact k _ H _ G nv (.refl H G) RG q⟩
  |tup xs=>
   obtain⟨a,us,rfl,e1,e2⟩:=kZ hv;exact⟨a,us,rfl,.inr e1,by rw[←e2.length];exact k _ H _ G nv (.refl H G) RG q⟩
  |eS xs=>
   obtain⟨a,us,rfl,e1,e2⟩:=t5 hv;exact⟨a,us,rfl,.inl e1.l,by rw[←e2.length];exact k _ H _ G nv (.refl H G) RG q⟩
  |_=>exact q.elim
 ·cases d<;>exact q.elim
theorem Uc(hu:X.A.units+64<cLine)(hm:X.mg "len" = none)(ha:ki X (e::es) t)(hg:Gl X "len":=by rfl)(he:notStar e=true:=by rfl)(hpl:es.all notStar=true:=by rfl):
  bS X (.Call (.Name "len" p) (e::es) [] pos) (eL kv t):=ue Ud (qJ Vt hg hm PySem.boot_len ha (he:=gu he) (hpl:=lC hpl))
def AD:C3:=fun ds G Q=>match ds with
 |[.bl b]=>Q (.int (if b then 1 else 0)) G
 |[.int i]=>Q (.int i) G
 |_=>False
theorem Ub:sI K AD (fun xs H Q=>(∃i,xs=[.int i]/\Q (.int i) H)∨∃k,xs=[.bl k]/\Q (.int (if k then 1 else 0)) H):=fun ds vs G H Q3 Q h RG q k=>by
 rcases ds with _|⟨d,_|⟨d2,ds⟩⟩
 ·exact q.elim
 ·obtain⟨v,rfl,hv⟩:=su h;cases d with
  |bl b=>
   rw[vO hv];exact .inr ⟨b,rfl,k _ H _ G nv (.refl H G) RG q⟩
  |int b=>
   rw[i6 hv];exact .inl ⟨b,rfl,k _ H _ G nv (.refl H G) RG q⟩
  |_=>exact q.elim
 ·cases d<;>exact q.elim
theorem Ua(hu:X.A.units+64<cLine)(hm:X.mg "int" = none)(ha:ki X (e::es) t)(hg:Gl X "int":=by rfl)(he:notStar e=true:=by rfl)(hpl:es.all notStar=true:=by rfl):
  bS X (.Call (.Name "int" p) (e::es) [] pos) (eL AD t):=ue Ub (D7 VV hg hm rfl ha (he:=gu he) (hpl:=lC hpl))
def wY:C3:=fun ds G Q=>match ds with
 |[.int i,.int j]=>Q (.int (if j > i then j else i)) G
 |_=>False
def Ec:C3:=fun ds G Q=>match ds with
 |[.int i,.int j]=>Q (.int (if j<i then j else i)) G
 |_=>False
theorem JM{f:Int->Int->Int}:sI K (fun ds G Q=>match ds with
 |[.int i,.int j]=>Q (.int (f i j)) G
 | _=>False) (fun xs H Q=>∃i j,xs=[.int i,.int j]/\Q (.int (f i j)) H):=fun ds vs G H Q3 Q h RG q k=>by
 rcases ds with _|⟨d,_|⟨d2,_|⟨d3,ds⟩⟩⟩
 ·exact q.elim
 ·cases d<;>exact q.elim
 ·obtain⟨v,v',rfl,h1,h2⟩:=Yk h;cases d with
  |int i=>
   cases d2 with
   |int j=>
    rw[i6 h1,i6 h2];exact⟨i,j,rfl,k _ H _ G nv (.refl H G) RG q⟩
   |_=>exact q.elim
  |_=>exact q.elim
 ·cases d with
  |int i=>cases d2<;>exact q.elim
  |_=>exact q.elim
theorem T9(hu:X.A.units+64<cLine)(hm:X.mg "max" = none)(ha:ki X (e::es) t)(hc:X.calm=true:=by rfl)(hg:Gl X "max":=by rfl)(he:notStar e=true:=by rfl)(hpl:es.all notStar=true:=by rfl):
  bS X (.Call (.Name "max" p) (e::es) [] pos) (eL wY t):=ue (JM (f:=fun i j=>if j > i then j else i)) (qJ (VX hc) hg hm rfl ha (he:=gu he) (hpl:=lC hpl))
theorem T6(hu:X.A.units+64<cLine)(hm:X.mg "min" = none)(ha:ki X (e::es) t)(hc:X.calm=true:=by rfl)(hg:Gl X "min":=by rfl)(he:notStar e=true:=by rfl)(hpl:es.all notStar=true:=by rfl):
  bS X (.Call (.Name "min" p) (e::es) [] pos) (eL Ec t):=ue (JM (f:=fun i j=>if j<i then j else i)) (qJ (VW hc) hg hm rfl ha (he:=gu he) (hpl:=lC hpl))
def wX:C3:=fun ds G Q=>match ds with
 |[.obj a]=>∃xs,G a=some (.lst xs)/\Q (.tup xs) G
 |[.tup xs]=>Q (.tup xs) G
 |[.eS xs]=>Q (.tup xs) G
 |_=>False
theorem T5:sI K wX (fun xs H Q=>∃p ys,xs=[.ref p]/\((eU K H p ys/\∀l,H l=none->Q (.ref l) (upd H l (.tup ys)))∨(cG K H p ys/\Q (.ref p) H))):=fun ds vs G H Q3 Q h RG q k=>by
 rcases ds with _|⟨d,_|⟨d2,ds⟩⟩
 ·exact q.elim
 ·obtain⟨v,rfl,hv⟩:=su h;cases d with
  |obj a=>
   obtain⟨xs,e,q⟩:=q;obtain⟨us,e1,e2⟩:=RG a _ e;rw[iq hv];exact⟨a,us,rfl,.inl ⟨.of e1,fun l hl=>k _ _ (.tup xs) G (rY (.of gW) (e2.ext (.laid hl))) (.laid hl) (RG.laid hl) q⟩⟩
  |tup xs=>
   obtain⟨a,us,rfl,e1,e2⟩:=kZ hv;exact⟨a,us,rfl,.inr ⟨e1,k _ H _ G (rY e1 e2) (.refl H G) RG q⟩⟩
  |eS xs=>
   obtain⟨a,us,rfl,e1,e2⟩:=t5 hv;exact⟨a,us,rfl,.inl ⟨e1.l,fun l hl=>k _ _ (.tup xs) G (rY (.of gW) (e2.ext (.laid hl))) (.laid hl) (RG.laid hl) q⟩⟩
  |_=>exact q.elim
 ·cases d<;>exact q.elim
theorem T4(hu:X.A.units+64<cLine)(hm:X.mg "tuple" = none)(ha:ki X (e::es) t)(hg:Gl X "tuple":=by rfl)(he:notStar e=true:=by rfl)(hpl:es.all notStar=true:=by rfl):
  bS X (.Call (.Name "tuple" p) (e::es) [] pos) (eL wX t):=ue T5 (D7 Vs hg hm rfl ha (he:=gu he) (hpl:=lC hpl))
def eM(r:D->List D->Gp->V3->Prop)(to:aP)(t:dF):aP:=fun τ G Q=>to τ G fun x G1=>(∃a xs,x=.obj a/\G1 a=some (.lst xs))/\t τ G1 fun ds G2=>r x ds G2 Q
def v7(K:η)(r:D->List D->Gp->V3->Prop)(r2:V->List V->Hp->VK->Prop):Prop:=∀x vx ds vs G H Q3 Q,Hv K H x vx->aO K H ds vs->aT K G H->r x ds G Q3->(∀v H' d G',Hv K H' d v->Step H G H' G'->aT K G' H'->Q3 d G'->Q v H')->r2 vx vs H Q
theorem T3{r:D->List D->Gp->V3->Prop}{r2:V->List V->Hp->VK->Prop}{to:aP}(L:v7 K r r2){σ:L2.St}{H:Hp}{Q:VK}(h:low K (eM r to t) σ H Q):Gm K "list" r2 (low K to) (vU K t) σ H Q:=by
 obtain⟨τ,G,Q3,RS,RG,h,k⟩:=h;refine⟨τ,G,_,RS,RG,h,fun v1 H1 d1 G1 h1 S1 R1 q1=>?_⟩;obtain⟨⟨a,xs,rfl,e1⟩,q1⟩:=q1;obtain⟨us,e2,e3⟩:=R1 a _ e1;refine⟨?_,τ,G1,_,RS.ext (S1.ext RG),R1,q1,fun vs H2 ds G2 h2 S2 R2 q2=>?_⟩
 ·rw[iq h1];exact .inl ⟨rfl,us,.of e2⟩
 ·exact L _ _ _ _ _ _ _ _ (h1.ext (S2.ext R1)) h2 R2 q2 fun v H' d G' z1 z2 z3 z4=>k v H' d G' z1 ((S1.trans S2).trans z2) z3 z4
def Eb:D->List D->Gp->V3->Prop:=fun x ds G Q=>match x,ds with
 |.obj a,[d]=>∃xs,G a=some (.lst xs)/\xs.length<au/\Q .aC (du G a (.lst (xs++[d])))
 |_,_=>False
theorem JL:v7 K Eb zx:=fun x vx ds vs G H Q3 Q hx hs RG q k=>by
 rcases ds with _|⟨d,_|⟨d2,ds⟩⟩
 ·cases x<;>exact q.elim
 ·cases x with
  |obj a=>
   obtain⟨xs,e1,hz,q⟩:=q;obtain⟨us,e2,e3⟩:=RG a _ e1;obtain⟨v,rfl,hv⟩:=su hs;rw[iq hx];refine⟨a,us,v,rfl,rfl,e2,by rw[←e3.length];exact hz,?_⟩;exact k _ _ .aC _ (by simp[Hv]) (.wrote e1) (RG.B4 e2 (e3.append (.cons hv .nil))) q
  |_=>exact q.elim
 ·cases x<;>exact q.elim
theorem S9{r:D->List D->Gp->V3->Prop}{r2:V->List V->Hp->VK->Prop}{to:aP}(L:v7 X.K r r2)(h:PE X e (Gm X.K "list" r2 (low X.K to) (vU X.K t))):bS X e (eM r to t):=jG h fun _ _ _ z=>T3 L z
def Ea:D->List D->Gp->V3->Prop:=fun x ds G Q=>match x,ds with
 |.obj a,[.int i]=>∃xs k d,G a=some (.lst xs)/\(-(2^63)≤i/\i<2^63)/\seqIndex? i xs.length=some k/\xs[k]?=some d/\Q d (du G a (.lst (xs.eraseIdx k)))
 |_,_=>False
theorem JK:v7 K Ea Ce:=fun x vx ds vs G H Q3 Q hx hs RG q k=>by
 rcases ds with _|⟨d,_|⟨d2,ds⟩⟩
 ·cases x<;>exact q.elim
 ·cases x with
  |obj a=>
   cases d with
   |int i=>
    obtain⟨xs,j,y,e1,hb,hk,hy,q⟩:=q;obtain⟨us,e2,e3⟩:=RG a _ e1;obtain⟨v,rfl,hv⟩:=su hs;obtain⟨w,e4,e5⟩:=e3.get hy;rw[iq hx,i6 hv];refine⟨a,us,i,j,w,rfl,rfl,e2,hb.1,hb.2,by rw[←e3.length];exact hk,e4,?_⟩;exact k _ _ y _ (e5.ext (.wrote e2)) (.wrote e1) (RG.B4 e2 (e3.erase j)) q
   |_=>exact q.elim
  |_=>exact q.elim
 ·cases x with
  |obj a=>cases d<;>exact q.elim
  |_=>exact q.elim
def lU(T:String)(G:Gp):D->Option Bool
 |.aC=>some false
 |.bl _=>some (T=="bool" || T=="int")
 |.int _=>some (T=="int")
 |.str _=>some (T=="str")
 |.tup _=>some (T=="tuple")
 |.eS _=>some (T=="list")
 |.dc _=>some (T=="dict")
 |.obj a=>match G a with
  |some (.lst _)=>some (T=="list")
  |some .mG=>some (T=="list")
  |some .i7=>some (T=="dict")
  |some (.gen _)=>none
  |none=>none
def wt(T:String)(ta:aP):aP:=fun τ G Q=>ta τ G fun x G1=>match lU T G1 x with
 |some b=>Q (.bl b) G1
 |none=>False
end
end L3
namespace Lr
open PySem PySem.W PyProof.Rows
structure Ord(n:Nat)(lt:Nat->Nat->Bool):Prop where
 zF:∀a b,a<n->b<n->lt a b=true->lt b a=false
 vf:∀a b c,a<n->b<n->c<n->lt b a=false->lt c b=false->lt c a=false
abbrev g(p:Array Nat)(i:Nat):Nat:=p.getD i 0
structure Va(n:Nat)(p:Array Nat):Prop where
 perm:p.toList.Perm (aA n)
section
variable {n:Nat} {lt:Nat->Nat->Bool} {cmp:Nat->Nat->(Bool->θ->Prop)->θ->Prop} {s:θ}
theorem Va.size{p:Array Nat}(v:Va n p):p.size=n:=by
 have:=v.perm.length_eq;simpa using this
theorem Va.get{p:Array Nat}(v:Va n p){i:Nat}(hi:i<n):p[i]?=some (g p i):=by
 have h:=v.size;simp[g,my,h,hi]
theorem Va.inr{p:Array Nat}(v:Va n p){i:Nat}(hi:i<n):g p i<n:=by
 have h:=v.get hi;have hm:g p i∈p.toList:=bZ (by rw[aY];exact h);have:=v.perm.mem_iff.mp hm;simpa using this
theorem Ord.refl(O:Ord n lt){a:Nat}(ha:a<n):lt a a=false:=by
 cases h:lt a a with
 |false=>rfl
 |true=>
  have:=O.zF a a ha ha h;rw[h] at this;exact this
def So(lt:Nat->Nat->Bool)(p:Array Nat)(k:Nat):Prop:=∀i j,i≤j->j<k->lt (g p j) (g p i)=false
def Ni(lt:Nat->Nat->Bool)(p:Array Nat)(k:Nat):Prop:=∀i j,i≤j->j<k->lt (g p i) (g p j)=false
def Cy(lt:Nat->Nat->Bool)(p:Array Nat)(lo hi:Nat):Prop:=∀i j,lo≤i->i<hi->lo≤j->j<hi->lt (g p i) (g p j)=false
theorem So.one(O:Ord n lt){p:Array Nat}(v:Va n p)(hn:1≤n):So lt p 1:=fun i j h1 h2=>by
 have e1:i=0:=by lia
 have e2:j=0:=by lia
 rw[e1,e2];exact O.refl (v.inr (by lia))
theorem So.next(O:Ord n lt){p:Array Nat}(v:Va n p){a:Nat}(h1:1≤a)(ha:a<n)(S:So lt p a)(h:lt (g p a) (g p (a-1))=false):So lt p (a+1):=fun i j hij hj=>by
 by_cases hja:j<a
 ·exact S i j hij hja
 ·have e:j=a:=by lia
  subst e;by_cases hij':i=j
  ·rw[hij'];exact O.refl (v.inr ha)
  ·exact O.vf (g p i) (g p (j-1)) (g p j) (v.inr (by lia)) (v.inr (by lia)) (v.inr ha) (S i (j-1) (by lia) (by lia)) h
theorem Ni.next(O:Ord n lt){p:Array Nat}(v:Va n p){a:Nat}(h1:1≤a)(ha:a<n)(S:Ni lt p a)(h:lt (g p (a-1)) (g p a)=false):Ni lt p (a+1):=fun i j hij hj=>by
 by_cases hja:j<a
 ·exact S i j hij hja
 ·have e:j=a:=by lia
  subst e;by_cases hij':i=j
  ·rw[hij'];exact O.refl (v.inr ha)
  ·exact O.vf (g p j) (g p (j-1)) (g p i) (v.inr ha) (v.inr (by lia)) (v.inr (by lia)) h (S i (j-1) (by lia) (by lia))
theorem vN{p:Array Nat}(v:Va n p)(i j:Nat):Va n (kas_rev p i j):=⟨(mirror_perm p i j _).toList.trans v.perm⟩
theorem AB{p:Array Nat}(v:Va n p){lo hi k:Nat}(hh:hi≤n)(hk:k<n):g (kas_rev p lo hi) k=if lo≤k/\k<hi then g p (lo+hi-1-k) else g p k:=by
 have h1:=getElem?_mirror_all (xs:=p) (i:=lo) (j:=hi) (by rw[v.size];exact hh) k;have h2:=(vN v lo hi).get hk;have h3:(kas_rev p lo hi)[k]?=_:=h1;rw[h2] at h3;by_cases hc:lo≤k/\k<hi
 ·rw[if_pos hc] at h3 ⊢;rw[v.get (by lia)] at h3;exact aJ h3
 ·rw[if_neg hc] at h3 ⊢;rw[v.get hk] at h3;exact aJ h3
theorem DP{p:Array Nat}(v:Va n p){lo hi k:Nat}(hh:hi≤k)(hk:k≤n)(S:Ni lt p k)(e:Cy lt p lo hi):Ni lt (kas_rev p lo hi) k:=fun i j hij hj=>by
 rw[AB v (by lia) (show i<n by lia),AB v (by lia) (show j<n by lia)];by_cases hi':lo≤i/\i<hi
 ·rw[if_pos hi'];by_cases hj':lo≤j/\j<hi
  ·rw[if_pos hj'];exact e _ _ (by lia) (by lia) (by lia) (by lia)
  ·rw[if_neg hj'];exact S _ _ (by lia) hj
 ·rw[if_neg hi'];by_cases hj':lo≤j/\j<hi
  ·rw[if_pos hj'];exact S _ _ (by lia) (by lia)
  ·rw[if_neg hj'];exact S _ _ hij hj
theorem S8{p:Array Nat}(v:Va n p){k:Nat}(hk:k≤n)(S:Ni lt p k):So lt (kas_rev p 0 k) k:=fun i j hij hj=>by
 rw[AB v hk (show i<n by lia),AB v hk (show j<n by lia),if_pos (by lia),if_pos (by lia)];exact S _ _ (by lia) (by lia)
variable (O:Ord n lt) (hc:∀i j,i<n->j<n->∀(C:Bool->θ->Prop) (s:θ),C (lt i j) s->cmp i j C s)
include O hc
theorem DO{p:Array Nat}(v:Va n p){G:Nat->θ->Prop}:∀(f a:Nat),1≤a->a+f≤n->So lt p a->(∀m,a≤m->m≤a+f->So lt p m->(m=a+f∨lt (g p m) (g p (m-1))=true)->G m s)->(kas_asc p f a).kasWp cmp G s
 |0,a,_,_,S,h=>h a (Ψ _) (by lia) S (.inl (by lia))
 |f+1,a,h1,h2,S,h=>by
  show cmp _ _ _ s;refine hc _ _ (v.inr (by lia)) (v.inr (by lia)) _ s ?_;cases hb:lt (g p a) (g p (a-1)) with
  |true=>
   ((try dsimp only);rw[if_pos rfl])
   exact h a (Ψ _) (by lia) S (.inr hb)
  |false=>
   ((try dsimp only);rw[if_neg az])
   exact DO v f (a+1) (by lia) (by lia) (S.next O v h1 (by lia) hb) fun m q1 q2 q3 q4=>h m (by lia) (by lia) q3 (by
    rcases q4 with q4|q4
    ·exact .inl (by lia)
    ·exact .inr q4)
theorem AA{G:Array Nat×Nat×Nat->θ->Prop}:∀(f:Nat) (p:Array Nat) (a q:Nat),Va n p->q+1≤a->a+f≤n->Ni lt p a->Cy lt p (a-(q+1)) a ->
  (∀p' m q',Va n p'->a≤m->m≤a+f->q'+1≤m->Ni lt p' m->Cy lt p' (m-(q'+1)) m->G (p',m,q') s)->(kas_desc f p a q).kasWp cmp G s
 |0,p,a,q,v,h1,h2,S,e,h=>h p a q v (Ψ _) (by lia) h1 S e
 |f+1,p,a,q,v,h1,h2,S,e,h=>by
  show cmp _ _ _ s;refine hc _ _ (v.inr (by lia)) (v.inr (by lia)) _ s ?_;have one:∀{p':Array Nat},Va n p'->Cy lt p' (a+1-(0+1)) (a+1):=fun {p'} v' i j i1 i2 j1 j2=>by
   have e1:i=a:=by lia
   have e2:j=a:=by lia
   rw[e1,e2];exact O.refl (v'.inr (by lia))
  cases hb:lt (g p a) (g p (a-1)) with
  |true=>
   ((try dsimp only);rw[if_pos rfl])
   have S':=S.next O v (by lia) (by lia) (O.zF _ _ (v.inr (by lia)) (v.inr (by lia)) hb)
   by_cases hq:q > 0
   ·rw[if_pos hq];exact AA f _ (a+1) 0 (vN v _ _) (by lia) (by lia) (DP v (by lia) (by lia) S' e) (one (vN v _ _)) fun p' m q' r1 r2 r3 r4 r5 r6=>h p' m q' r1 (by lia) (by lia) r4 r5 r6
   ·rw[if_neg hq];exact AA f _ (a+1) 0 v (by lia) (by lia) S' (one v) fun p' m q' r1 r2 r3 r4 r5 r6=>h p' m q' r1 (by lia) (by lia) r4 r5 r6
  |false=>
   ((try dsimp only);rw[if_neg az])
   show cmp _ _ _ s;refine hc _ _ (v.inr (by lia)) (v.inr (by lia)) _ s ?_;cases hd:lt (g p (a-1)) (g p a) with
   |true=>
    ((try dsimp only);rw[if_pos rfl])
    exact h p a q v (Ψ _) (by lia) h1 S e
   |false=>
    ((try dsimp only);rw[if_neg az])
    refine AA f _ (a+1) (q+1) v (by lia) (by lia) (S.next O v (by lia) (by lia) hd) (fun i j i1 i2 j1 j2=>?_) fun p' m q' r1 r2 r3 r4 r5 r6=>h p' m q' r1 (by lia) (by lia) r4 r5 r6
    have L:∀k,k<n->g p k<n:=fun k hk=>v.inr hk;by_cases hi:i=a
    ·by_cases hj:j=a
     ·rw[hi,hj];exact O.refl (L _ (by lia))
     ·rw[hi];exact O.vf (g p j) (g p (a-1)) (g p a) (L _ (by lia)) (L _ (by lia)) (L _ (by lia)) (e (a-1) j (by lia) (by lia) (by lia) (by lia)) hb
    ·by_cases hj:j=a
     ·rw[hj];exact O.vf (g p a) (g p (a-1)) (g p i) (L _ (by lia)) (L _ (by lia)) (L _ (by lia)) hd (e i (a-1) (by lia) (by lia) (by lia) (by lia))
     ·exact e i j (by lia) (by lia) (by lia) (by lia)
theorem JJ{p:Array Nat}(v:Va n p){a:Nat}{G:Nat×Array Nat->θ->Prop}(h1:1≤a)(h2:a≤n)(S:Ni lt p a)(h:∀m p',Va n p'->1≤m->m≤n->So lt p' m->G (m,p') s):(kas_tail3 a n p).kasWp cmp G s:=by
 unfold kas_tail3;rw[jB];exact DO O hc (vN v 0 a) (n-a) a h1 (by lia) (S8 v h2 S) fun m q1 q2 q3 _=>h m _ (vN v 0 a) (by lia) (by lia) q3
theorem JI{p:Array Nat}(v:Va n p){a:Nat}{G:Nat×Array Nat->θ->Prop}(h1:1≤a)(h2:a+1≤n)(S:Ni lt p (a+1))(h:∀m p',Va n p'->1≤m->m≤n->So lt p' m->G (m,p') s):(kas_descPart a n p).kasWp cmp G s:=by
 unfold kas_descPart;rw[jB];refine AA O hc (n-(a+1)) p (a+1) 0 v (by lia) (by lia) S (fun i j i1 i2 j1 j2=>?_) fun p' m q' r1 r2 r3 r4 r5 r6=>?_
 ·have e1:i=a:=by lia
  have e2:j=a:=by lia
  rw[e1,e2];exact O.refl (v.inr (by lia))
 ·dsimp only;by_cases hq:q' > 0
  ·rw[if_pos hq];exact JJ O hc (vN r1 _ _) (by lia) (by lia) (DP r1 (Ψ _) (by lia) r5 r6) h
  ·rw[if_neg hq];exact JJ O hc r1 (by lia) (by lia) r5 h
theorem S7{p:Array Nat}(v:Va n p){G:Nat×Array Nat->θ->Prop}(hn:1≤n)(h:∀m p',Va n p'->1≤m->m≤n->So lt p' m->G (m,p') s):(kas_count n p).kasWp cmp G s:=by
 unfold kas_count;rw[jB];refine DO O hc v (n-1) 1 (Ψ _) (by lia) (So.one O v hn) fun a q1 q2 q3 q4=>?_;have L:∀k,k<n->g p k<n:=fun k hk=>v.inr hk;by_cases e1:(a==n)=true
 ·rw[if_pos e1];exact h a p v q1 (by lia) q3
 ·rw[if_neg e1];have cQ:a≠n:=fun z=>e1 (by rw[z];exact beq_self_eq_true _);have hlt:lt (g p a) (g p (a-1))=true:=by
   rcases q4 with q4|q4
   ·lia
   ·exact q4
  have hle:=O.zF _ _ (L a (by lia)) (L (a-1) (by lia)) hlt;by_cases e2:a > 1
  ·rw[if_pos e2];show cmp _ _ _ s;refine hc _ _ (v.inr (by lia)) (v.inr (by lia)) _ s ?_;cases hb:lt (g p 0) (g p (a-1)) with
   |true=>
    ((try dsimp only);rw[if_pos rfl])
    exact h a p v q1 (by lia) q3
   |false=>
    ((try dsimp only);rw[if_neg az])
    -- all of the run are alike
    have eqv:Cy lt p 0 a:=fun i j i1 i2 j1 j2=>by
     have h1:lt (g p i) (g p 0)=false:=q3 0 i (by lia) i2;have h2:lt (g p (a-1)) (g p j)=false:=q3 j (a-1) (by lia) (by lia);have h3:lt (g p 0) (g p j)=false:=O.vf _ _ _ (L j (by lia)) (L (a-1) (by lia)) (L 0 (by lia)) h2 hb;have h4:lt (g p (a-1)) (g p i)=false:=q3 i (a-1) (by lia) (by lia);exact O.vf _ _ _ (L j (by lia)) (L 0 (by lia)) (L i (by lia)) h3 h1
    have ni:Ni lt p (a+1):=Ni.next O v (by lia) (by lia) (fun i j hij hj=>eqv i j (by lia) (by lia) (by lia) hj) hle
    exact JI O hc (vN v _ _) (by lia) (by lia) (DP v (by lia) (by lia) ni eqv) h
  ·rw[if_neg e2];have ea:a=1:=by lia
   subst ea;refine JI O hc v (Ψ _) (by lia) (Ni.next O v (by lia) (by lia) (fun i j hij hj=>?_) hle) h
   have e3:i=0:=by lia
   have e4:j=0:=by lia
   rw[e3,e4];exact O.refl (L 0 (by lia))
theorem DN{p:Array Nat}(v:Va n p){k:Nat}(hk:k<n)(S:So lt p k){G:Nat->θ->Prop}:∀(f l r:Nat),l≤r->r≤k->r-l≤f->(∀i,i<l->lt (g p k) (g p i)=false)->(∀i,r≤i->i<k->lt (g p k) (g p i)=true) ->
  (∀l,l≤k->(∀i,i<l->lt (g p k) (g p i)=false)->(∀i,l≤i->i<k->lt (g p k) (g p i)=true)->G l s)->(kas_place p k f l r).kasWp cmp G s
 |0,l,r,h1,h2,h3,h4,h5,h=>by
  have e:l=r:=by lia
  subst e;exact h l h2 h4 h5
 |f+1,l,r,h1,h2,h3,h4,h5,h=>by
  unfold kas_place;by_cases hlr:l≥r
  ·rw[if_pos hlr];have e:l=r:=by lia
   subst e;exact h l h2 h4 h5
  ·rw[if_neg hlr];show cmp _ _ _ s;refine hc _ _ (v.inr hk) (v.inr (by lia)) _ s ?_;have L:∀k,k<n->g p k<n:=fun k hk=>v.inr hk;cases hb:lt (g p k) (g p ((l+r) / 2)) with
   |true=>
    ((try dsimp only);rw[if_pos rfl])
    refine DN v hk S f l ((l+r) / 2) (by lia) (by lia) (by lia) h4 (fun i i1 i2=>?_) h;by_cases hri:r≤i
    ·exact h5 i hri i2
    ·cases hx:lt (g p k) (g p i) with
     |true=>rfl
     |false=>
      have h6:lt (g p i) (g p ((l+r) / 2))=false:=S _ _ i1 i2;have:=O.vf _ _ _ (L ((l+r) / 2) (by lia)) (L i (by lia)) (L k hk) h6 hx;rw[hb] at this;exact this.symm
   |false=>
    ((try dsimp only);rw[if_neg az])
    refine DN v hk S f ((l+r) / 2+1) r (by lia) h2 (by lia) (fun i hi=>?_) h5 h;exact O.vf _ _ _ (L i (by lia)) (L ((l+r) / 2) (by lia)) (L k hk) (S i ((l+r) / 2) (by lia) (by lia)) hb
theorem JH{G:Array Nat->θ->Prop}:∀(f:Nat) (p:Array Nat) (k:Nat),Va n p->k+f=n->So lt p k->(∀p',Va n p'->So lt p' n->G p' s)->(kas_bin f p k).kasWp cmp G s
 | 0,p,k,v,hk,S,h=>h p v (by
  have e:k=n:=by lia
  rw[←e];exact S)
 |f+1,p,k,v,hk,S,h=>by
  show ((kas_place p k k 0 k).bind fun l=>kas_bin f (bubble p k (k-l)) (k+1)).kasWp cmp G s;rw[jB];refine DN O hc v (by lia) S k 0 k (by lia) (Ψ _) (by lia) (fun i hi=>by lia) (fun i i1 i2=>by lia) fun l hl q1 q2=>?_;have v':Va n (bubble p k (k-l)):=⟨(bubble_perm p k (k-l)).toList.trans v.perm⟩;have L:∀k,k<n->g p k<n:=fun k hk=>v.inr hk;have bg:∀i,i<n->g (bubble p k (k-l)) i=if i=l then g p k else if l<i/\i≤k then g p (i-1) else g p i:=fun i hi=>by
   have h1:=getElem?_bubble (xs:=p) (src:=k) (by rw[v.size];lia) (k-l) (by lia) i;rw[v'.get hi,show k-(k-l)=l by lia] at h1;by_cases c1:i=l
   ·rw[if_pos c1] at h1 ⊢;rw[v.get (by lia)] at h1;exact aJ h1
   ·rw[if_neg c1] at h1 ⊢;by_cases c2:l<i/\i≤k
    ·rw[if_pos c2] at h1 ⊢;rw[v.get (by lia)] at h1;exact aJ h1
    ·rw[if_neg c2] at h1 ⊢;rw[v.get hi] at h1;exact aJ h1
  refine JH f _ (k+1) v' (by lia) (fun i j hij hj=>?_) h;rw[bg i (by lia),bg j (by lia)];by_cases ci:i=l
  ·rw[if_pos ci];by_cases cj:j=l
   ·rw[if_pos cj];exact O.refl (L k (by lia))
   ·rw[if_neg cj,if_pos (by lia)];exact O.zF _ _ (L k (by lia)) (L _ (by lia)) (q2 (j-1) (by lia) (by lia))
  ·rw[if_neg ci];by_cases cj:j=l
   ·rw[if_pos cj,if_neg (by lia)];exact q1 i (by lia)
   ·rw[if_neg cj];by_cases c3:l<i/\i≤k
    ·rw[if_pos c3,if_pos (by lia)];exact S (i-1) (j-1) (by lia) (by lia)
    ·rw[if_neg c3];by_cases c4:l<j/\j≤k
     ·rw[if_pos c4];exact S i (j-1) (by lia) (by lia)
     ·rw[if_neg c4];exact S i j hij (by lia)
theorem S6{G:Array Nat->θ->Prop}(hn:1≤n)(h:∀p,Va n p->So lt p n->G p s):(kas_sort n).kasWp cmp G s:=by
 unfold kas_sort;rw[jB];have v0:Va n (jR (aA n)):=⟨by simp⟩;refine S7 O hc v0 hn fun m p' v m1 m2 S=>?_;dsimp only;by_cases hm:m<n
 ·rw[if_pos hm];have e:max m 1=m:=by lia
  rw[e];exact JH O hc (n-m) p' m v (by lia) S h
 ·rw[if_neg hm];have e:m=n:=by lia
  subst e;exact h p' v S
end
end Lr
namespace pE
open PySem PySem.SetTable
def j3(m:Nat):Prop:=m=7∨m=31∨m=127
def uh(m:Nat)(p:Probe):Probe:=
 if p.more > 0 then { p with j:=p.j+1,more:=p.more-1 } else
 { p with j:=(leap m p.i p.perturb).1,more:=runEnd m (leap m p.i p.perturb).1-(leap m p.i p.perturb).1,i:=(leap m p.i p.perturb).1,perturb:=(leap m p.i p.perturb).2 }
def rs(m:Nat)(q:Nat×Nat):Probe:={ j:=q.1,more:=runEnd m q.1-q.1,i:=q.1,perturb:=q.2,dummy:=none }
def YK(m:Nat)(h:Int):Probe:=rs m (bits h%(m+1),bits h)
def sq(m:Nat)(h:Int):Nat->Probe
 |0=>YK m h
 |k+1=>uh m (sq m h k)
def rn(m:Nat)(h:Int):Nat->Nat×Nat
 |0=>(bits h%(m+1),bits h)
 |r+1=>leap m (rn m h r).1 (rn m h r).2
theorem JG(m:Nat)(h:Int):∀k,(sq m h k).dummy=none
 |0=>rfl
 |k+1=>by
  show (uh m (sq m h k)).dummy=none;have ih:=JG m h k;unfold uh;split<;>simpa using ih
theorem SY(m i:Nat):runEnd m i-i≤9:=by
 unfold runEnd;split<;>lia
theorem DM(m:Nat)(h:Int)(n:Nat)(q:Nat×Nat)(e:sq m h n=rs m q):∀d,d≤runEnd m q.1-q.1->sq m h (n+d)={ j:=q.1+d,more:=runEnd m q.1-q.1-d,i:=q.1,perturb:=q.2,dummy:=none }
 |0,_=>by rw[uv,e];rfl
 |d+1,hd=>by
  have ih:=DM m h n q e d (by lia);show uh m (sq m h (n+d))=_;rw[ih];unfold uh;rw[if_pos (show runEnd m q.1-q.1-d > 0 by lia)];simp only[Probe.mk.injEq,and_true,true_and];lia
theorem JF(m:Nat)(h:Int)(n:Nat)(q:Nat×Nat)(e:sq m h n=rs m q):sq m h (n+(runEnd m q.1-q.1)+1)=rs m (leap m q.1 q.2):=by
 show uh m (sq m h (n+(runEnd m q.1-q.1)))=_;rw[DM m h n q e _ (Ψ _)];unfold uh;rw[if_neg (by simp)];rfl
theorem JE(m:Nat)(h:Int):∀r,∃n,n≤10*r/\sq m h n=rs m (rn m h r)
 |0=>⟨0,by lia,rfl⟩
 |r+1=>by
  obtain⟨n,hn,e⟩:=JE m h r;have:=SY m (rn m h r).1;exact⟨n+(runEnd m (rn m h r).1-(rn m h r).1)+1,by lia,JF m h n _ e⟩
theorem SX(h:Int):bits h<2^64:=by
 unfold bits;have h1:h%(2^64:Int)<2^64:=cf _ (by decide);have h2:0≤h%(2^64:Int):=cJ _ (by decide);lia
theorem JD(m:Nat)(h:Int):∀r,(rn m h r).2=bits h / 32^r
 |0=>by simp[rn]
 |r+1=>by
  show (rn m h r).2 / 32=_;rw[JD m h r,Nat.div_div_eq_div_mul,iJ]
theorem SW(m:Nat)(h:Int)(r:Nat)(hr:13≤r):(rn m h r).2=0:=by
 rw[JD];have h1:=SX h;have h2:(32:Nat)^13≤32^r:=cW (by decide) hr;have h3:(2:Nat)^64<32^13:=by decide
 exact Nat.div_eq_of_lt (by lia)
def fl(m x:Nat):Nat:=(x*5+1)%(m+1)
def it(m:Nat):Nat->Nat->Nat
 |0,x=>x
 |n+1,x=>fl m (it m n x)
theorem yA(m:Nat)(a:Nat):∀b x,it m (b+a) x=it m b (it m a x)
 |0,x=>by rw[Nat.zero_add];rfl
 |b+1,x=>by
  rw[show b+1+a=(b+a)+1 by lia];show fl m (it m (b+a) x)=fl m (it m b (it m a x));rw[yA m a b x]
theorem DL(m:Nat)(h:Int):∀n,(rn m h (13+n)).1=it m n (rn m h 13).1
 |0=>rfl
 |n+1=>by
  show ((rn m h (13+n)).1*5+1+(rn m h (13+n)).2 / 32)%(m+1)=fl m (it m n (rn m h 13).1);rw[SW m h (13+n) (by lia),DL m h n];rfl
theorem DK(m:Nat)(h:Int):∀r,(rn m h r).1<m+1
 |0=>fO _ (pP _)
 |r+1=>fO _ (pP _)
def Cj(m:Nat):Nat->Nat->List Nat
 |0,_=>[]
 |n+1,x=>x::Cj m n (fl m x)
theorem Az(m:Nat):∀(n x y:Nat),y∈Cj m n x->∃k,k<n/\y=it m k x
 |0,_,_,h=>by cases h
 |n+1,x,y,h=>by
  rcases aa.mp h with e|e
  ·exact⟨0,by lia,e⟩
  ·obtain⟨k,hk,e⟩:=Az m n (fl m x) y e;refine⟨k+1,by lia,?_⟩;rw[yA m 1 k x];exact e
theorem X2:((aA 8).all fun x=>(Cj 7 8 0).contains x)=true:=by decide +kernel
theorem LU:((aA 32).all fun x=>(Cj 31 32 0).contains x)=true:=by decide +kernel
theorem KP:((aA 128).all fun x=>(Cj 127 128 0).contains x)=true:=by decide +kernel
theorem Mj:it 7 8 0=0:=by decide +kernel
theorem Lj:it 31 32 0=0:=by decide +kernel
theorem FW:it 127 128 0=0:=by decide +kernel
theorem Fe{m:Nat}(hm:j3 m){x:Nat}(hx:x<m+1):∃k,k<m+1/\x=it m k 0:=by
 rcases hm with rfl|rfl|rfl
 ·have:=iX.mp X2 x (b9.mpr hx);exact Az 7 8 0 x (by simpa using this)
 ·have:=iX.mp LU x (b9.mpr hx);exact Az 31 32 0 x (by simpa using this)
 ·have:=iX.mp KP x (b9.mpr hx);exact Az 127 128 0 x (by simpa using this)
theorem back{m:Nat}(hm:j3 m):it m (m+1) 0=0:=by
 rcases hm with rfl|rfl|rfl
 ·exact Mj
 ·exact Lj
 ·exact FW
theorem Ci{m:Nat}(hm:j3 m){x y:Nat}(hx:x<m+1)(hy:y<m+1):∃n,n≤m/\it m n x=y:=by
 obtain⟨a,ha,ea⟩:=Fe hm hx;obtain⟨b,hb,eb⟩:=Fe hm hy;by_cases hab:a≤b
 ·refine⟨b-a,by lia,?_⟩;rw[ea,←yA,eb];congr 1;lia
 ·refine⟨m+1-a+b,by lia,?_⟩;rw[ea,←yA,eb,show m+1-a+b+a=b+(m+1) by lia,yA,back hm]
theorem comes{m:Nat}(hm:j3 m)(h:Int){e:Nat}(he:e≤m):∃k,k≤10*m+130/\(sq m h k).j=e:=by
 obtain⟨n,hn,en⟩:=Ci hm (DK m h 13) (show e<m+1 by lia);obtain⟨k,hk,ek⟩:=JE m h (13+n);refine⟨k,by lia,?_⟩;rw[ek];show (rn m h (13+n)).1=e;rw[DL,en]
theorem DJ{xs:Array Nat}{j:Nat}(hr:xs.toList.Pairwise (· < ·)):∀(fuel lo hi:Nat),hi-lo≤fuel->lo≤hi->hi≤xs.size->(∀i x,i<lo->xs[i]?=some x->x<j)->(∀i x,hi≤i->xs[i]?=some x->j≤x) ->
  below.go xs j fuel lo hi≤xs.size/\(∀i x,i<below.go xs j fuel lo hi->xs[i]?=some x->x<j)/\(∀i x,below.go xs j fuel lo hi≤i->xs[i]?=some x->j≤x)
 |0,lo,hi,hf,hl,hs,h1,h2=>by
  have e:lo=hi:=by lia
  subst e;exact⟨hs,h1,h2⟩
 |fuel+1,lo,hi,hf,hl,hs,h1,h2=>by
  unfold below.go;by_cases hlt:lo<hi
  ·rw[if_pos hlt];dsimp only;have hmid:(lo+hi) / 2<xs.size:=by lia
   have hg:xs.getD ((lo+hi) / 2) j=xs[(lo+hi) / 2]:=by simp[my,hmid]
   rw[hg];have pw:∀a b x y,a<b->xs[a]?=some x->xs[b]?=some y->x<y:=fun a b x y hab ea eb=>by
    have ha':a<xs.toList.length:=by
     have:=(aG.mp ea).1;simpa using this
    have hb':b<xs.toList.length:=by
     have:=(aG.mp eb).1;simpa using this
    have:=gA.mp hr a b ha' hb' hab;obtain⟨_,e1⟩:=aG.mp ea;obtain⟨_,e2⟩:=aG.mp eb;simpa [e1,e2] using this
   have em:xs[(lo+hi) / 2]?=some xs[(lo+hi) / 2]:=by simp[hmid]
   by_cases hc:xs[(lo+hi) / 2]<j
   ·rw[if_pos hc];refine DJ hr fuel _ hi (by lia) (by lia) hs (fun i x hi' e=>?_) h2;by_cases hi2:i=(lo+hi) / 2
    ·subst hi2;rw[em] at e;cases e;exact hc
    ·exact jP (pw i _ x _ (by lia) e em) hc
   ·rw[if_neg hc];refine DJ hr fuel lo _ (by lia) (by lia) (by lia) h1 (fun i x hi' e=>?_);by_cases hi2:i=(lo+hi) / 2
    ·subst hi2;rw[em] at e;cases e;lia
    ·have:=pw _ i _ x (by lia) em e;lia
  ·rw[if_neg hlt];have e:lo=hi:=by lia
   subst e;exact⟨hs,h1,h2⟩
theorem Ay{xs:Array Nat}{j:Nat}(hr:xs.toList.Pairwise (· < ·)):below xs j≤xs.size/\(∀i x,i<below xs j->xs[i]?=some x->x<j)/\(∀i x,below xs j≤i->xs[i]?=some x->j≤x):=
 DJ hr xs.size 0 xs.size (by lia) (by lia) (by lia) (fun i _ h=>by lia) fun i x h e=>by
  have:=(aG.mp e).1;lia
theorem below_at{xs:Array Nat}{j i:Nat}(hr:xs.toList.Pairwise (· < ·))(e:xs[i]?=some j):below xs j=i:=by
 obtain⟨h0,h1,h2⟩:=Ay (j:=j) hr;have hi:=(aG.mp e).1;by_cases hlt:i<below xs j
 ·exact absurd (h1 i j hlt e) (cy _)
 ·by_cases hgt:below xs j<i
  ·have hb:below xs j<xs.size:=by lia
   have eb:xs[below xs j]?=some xs[below xs j]:=by simp[hb]
   have q1:=h2 _ _ (Ψ _) eb;have pw:=gA.mp hr (below xs j) i (by simpa using hb) (by simpa using hi) hgt;obtain⟨_,e1⟩:=aG.mp e;simp[e1] at pw;lia
  ·lia
end pE
namespace pE
open PySem PySem.SetTable
structure Tab(t:bI)(hs:List Int):Prop where
 mask:j3 t.mask
 size:t.place.size=hs.length
 rise:t.place.toList.Pairwise (· < ·)
 bound:∀j∈t.place.toList,j≤t.mask
 oF:t.dummies = #[]
 room:hs.length*5<t.mask*3
 reach:∀j h,(j,h)∈t.place.toList.zip hs->∃k,(sq t.mask h k).j=j/\∀k',k' < k->(sq t.mask h k').j∈t.place.toList
theorem JC{t:bI}{j i:Nat}(hr:t.place.toList.Pairwise (· < ·))(e:t.place[i]?=some j):t.slot j=.live i:=by
 unfold slot;dsimp only;rw[below_at hr e,e];simp
theorem SV{t:bI}{j:Nat}(hd:t.dummies = #[])(e:j∉t.place.toList):t.slot j=.empty:=by
 unfold slot;dsimp only;have h1:¬(t.place[below t.place j]?==some j)=true:=by
  intro h;have h':t.place[below t.place j]?=some j:=by simpa using h
  exact e (by
   rw[←aY] at h';exact bZ h')
 rw[if_neg h1];have h2:has t.dummies j=false:=by
  rw[hd];rfl
 rw[h2];rfl
theorem DI:∀(n:Nat) (L:List Nat),(∀e,e<n->e∈L)->n≤L.length
 |0,_,_=>bp _
 |n+1,L,h=>by
  have h1:=h n (ls n);have h2:=DI n (L.erase n) fun e he=>(List.mem_erase_of_ne (by lia)).mpr (h e (by lia));have h3:=List.length_erase_of_mem h1;have h4:=List.length_pos_of_mem h1;lia
theorem SU{t:bI}{hs:List Int}(T:Tab t hs)(h:Int):∃ke,ke≤10*t.mask+130/\(sq t.mask h ke).j∉t.place.toList/\∀k,k<ke->(sq t.mask h k).j∈t.place.toList:=by
 -- some slot is empty
 have hex:∃e,e≤t.mask/\e∉t.place.toList:=by
  refine bf fun hn=>?_;have hall:∀e,e≤t.mask->e∈t.place.toList:=fun e he=>bf fun q=>hn ⟨e,he,q⟩;have hl:=DI (t.mask+1) t.place.toList fun e he=>hall e (by lia);have e1:t.place.toList.length=t.place.size:=by simp
  have:=T.size;have:=T.room;lia
 obtain⟨e,he,ne⟩:=hex;obtain⟨k,hk,ek⟩:=comes T.mask h he;have hP:∃k,(sq t.mask h k).j∉t.place.toList:=⟨k,by rw[ek];exact ne⟩
 -- the least one
 have least:∀n,(∃k,k≤n/\(sq t.mask h k).j∉t.place.toList)->∃ke,ke≤n/\(sq t.mask h ke).j∉t.place.toList/\∀k,k<ke->(sq t.mask h k).j∈t.place.toList:=by
  intro n
  induction n with
  |zero=>
   rintro⟨k,hk,q⟩;have:k=0:=by lia
   subst this;exact⟨0,Ψ _,q,fun k hk=>by lia⟩
  |succ n ih=>
   rintro⟨k,hk,q⟩;by_cases hp:∃k,k≤n/\(sq t.mask h k).j∉t.place.toList
   ·obtain⟨ke,h1,h2,h3⟩:=ih hp;exact⟨ke,by lia,h2,h3⟩
   ·have hk':k=n+1:=by
     refine bf fun z=>hp ⟨k,by lia,q⟩
    subst hk';exact⟨n+1,Ψ _,q,fun k' hk'=>bf fun z=>hp ⟨k',by lia,z⟩⟩
 obtain⟨ke,h1,h2,h3⟩:=least k ⟨k,Ψ _,by rw[ek];exact ne⟩;exact⟨ke,by lia,h2,h3⟩
inductive Meets(t:bI)(hashAt:Nat->Int)(h:Int)(n ke:Nat):Met->Prop where
 |BO {k i:Nat} (h1:n≤k) (h2:k<ke) (h3:t.place[i]?=some (sq t.mask h k).j) (h4:hashAt i=h) (h5:∀k' i',n≤k'->k' < k->t.place[i']?=some (sq t.mask h k').j->hashAt i'≠h):
   Meets t hashAt h n ke (.candidate (sq t.mask h k).j i (sq t.mask h (k+1)))
 |free (h1:n≤ke) (h5:∀k' i',n≤k'->k' < ke->t.place[i']?=some (sq t.mask h k').j->hashAt i'≠h):Meets t hashAt h n ke (.empty (sq t.mask h ke).j none)
theorem JB{t:bI}{hashAt:Nat->Int}{h:Int}{ke:Nat}(hr:t.place.toList.Pairwise (· < ·))(hd:t.dummies = #[])(he:(sq t.mask h ke).j∉t.place.toList)(hl:∀k,k<ke->(sq t.mask h k).j∈t.place.toList):
  ∀(fuel n:Nat),n≤ke->ke-n<fuel->∃met,probe.go t hashAt h fuel (sq t.mask h n)=some met/\Meets t hashAt h n ke met
 |0,n,_,hf=>by lia
 |fuel+1,n,hn,hf=>by
  unfold probe.go;by_cases hlast:n=ke
  ·subst hlast;rw[SV hd he,JG];exact⟨_,rfl,.free (Ψ _) fun k' i' h1 h2=>by lia⟩
  ·have hmem:=hl n (by lia);obtain⟨i,hi⟩:=gB hmem;have hi':t.place[i]?=some (sq t.mask h n).j:=by rw[←aY];exact hi
   rw[JC hr hi'];dsimp only;by_cases hh:hashAt i=h
   ·rw[if_pos (by simpa using hh)];exact⟨_,rfl,.BO (Ψ _) (by lia) hi' hh fun k' i' h1 h2=>by lia⟩
   ·rw[if_neg (by simpa using hh)];obtain⟨met,e,m⟩:=JB (hashAt:=hashAt) hr hd he hl fuel (n+1) (by lia) (by lia);refine⟨met,e,?_⟩;have one:∀i',t.place[i']?=some (sq t.mask h n).j->hashAt i'≠h:=fun i' e'=>by
     have e1:=below_at hr hi';have e2:=below_at hr e';have:i'=i:=by lia
     rw[this];exact hh
    cases m with
    |BO h1 h2 h3 h4 h5=>
     refine .BO (by lia) h2 h3 h4 fun k' i' q1 q2 q3=>?_;by_cases hk:k'=n
     ·subst hk;exact one i' q3
     ·exact h5 k' i' (by lia) q2 q3
    |free h1 h5=>
     refine .free (by lia) fun k' i' q1 q2 q3=>?_;by_cases hk:k'=n
     ·subst hk;exact one i' q3
     ·exact h5 k' i' (by lia) q2 q3
theorem SR{t:bI}{hs:List Int}(T:Tab t hs){hashAt:Nat->Int}{h:Int}{ke n:Nat}(hk:ke≤10*t.mask+130)(he:(sq t.mask h ke).j∉t.place.toList)(hl:∀k,k<ke->(sq t.mask h k).j∈t.place.toList)(hn:n≤ke):
  ∃met,t.probe hashAt h (sq t.mask h n)=some met/\Meets t hashAt h n ke met:=by
 unfold probe;exact JB T.rise T.oF he hl _ n hn (by unfold turns;lia)
theorem vM{α:Type}(xs:Array α)(p:Nat)(x:α):(insertAt xs p x).toList=xs.toList.take p++x::xs.toList.drop p:=by
 unfold insertAt;have e:(xs.extract p xs.size).toList=xs.toList.drop p:=by
  rw[sT];simp[List.extract];exact kP (by simp)
 simp[sT,List.extract];exact kP (by simp)
theorem JA{α β:Type}:∀(p:Nat) (xs:List α) (ys:List β) (x:α) (y:β),xs.length=ys.length->((xs.take p++x::xs.drop p).zip (ys.take p++y::ys.drop p)).Perm ((x,y)::xs.zip ys)
 |0,xs,ys,x,y,_=>by simp
 |p+1,[],ys,x,y,h=>by
  have:ys=[]:=qb.mp (by simpa using h.symm);subst this;simp
 |p+1,a::xs,[],x,y,h=>by simp at h
 |p+1,a::xs,b::ys,x,y,h=>by
  have ih:=JA p xs ys x y (by simpa using h);simp only[List.take_succ_cons,List.drop_succ_cons,List.cons_append,jQ];exact (List.Perm.cons (a,b) ih).trans (List.Perm.swap _ _ _)
theorem xl{α:Type}(p:Nat)(xs:List α)(x:α):(xs.take p++x::xs.drop p).Perm (x::xs):=by
 have:=List.perm_middle (a:=x) (l₁:=xs.take p) (l₂:=xs.drop p);rw[rG] at this;exact this
theorem SQ{t:bI}{j:Nat}(hd:t.dummies = #[]):t.put j=({ t with place:=insertAt t.place (below t.place j) j,dummies:=#[]},below t.place j):=by
 unfold put;dsimp only;have h2:has t.dummies j=false:=by
  rw[hd];rfl
 rw[h2];simp[hd]
structure ui(t:bI)(hs:List Int):Prop where
 mask:j3 t.mask
 size:t.place.size=hs.length
 rise:t.place.toList.Pairwise (· < ·)
 bound:∀j∈t.place.toList,j≤t.mask
 oF:t.dummies = #[]
 Lh:hs.length≤t.mask
 reach:∀j h,(j,h)∈t.place.toList.zip hs->∃k,(sq t.mask h k).j=j/\∀k',k' < k->(sq t.mask h k').j∈t.place.toList
theorem Jz{m:Nat}(hm:j3 m)(h:Int):∀k,(sq m h k).j≤m/\(sq m h k).j+(sq m h k).more≤m:=by
 have hrun:∀i,i≤m->runEnd m i≤m:=fun i hi=>by
  unfold runEnd;split<;>lia
 have hrs:∀q:Nat×Nat,q.1≤m->(rs m q).j≤m/\(rs m q).j+(rs m q).more≤m:=fun q hq=>by
  have:=hrun q.1 hq;have h2:q.1≤runEnd m q.1:=by unfold runEnd;split<;>lia
  show q.1≤m/\q.1+(runEnd m q.1-q.1)≤m;lia
 intro k
 induction k with
 |zero=>exact hrs _ (by show bits h%(m+1)≤m;have:bits h%(m+1)<m+1:=fO (bits h) (pP m);lia)
 |succ k ih=>
  show (uh m (sq m h k)).j≤m/\(uh m (sq m h k)).j+(uh m (sq m h k)).more≤m;unfold uh;by_cases hc:(sq m h k).more > 0
  ·rw[if_pos hc];show (sq m h k).j+1≤m/\(sq m h k).j+1+((sq m h k).more-1)≤m;lia
  ·rw[if_neg hc];have hlt:(leap m (sq m h k).i (sq m h k).perturb).1≤m:=by
    show ((sq m h k).i*5+1+(sq m h k).perturb / 32)%(m+1)≤m;have:((sq m h k).i*5+1+(sq m h k).perturb / 32)%(m+1)<m+1:=fO _ (pP m);lia
   exact hrs (leap m (sq m h k).i (sq m h k).perturb) hlt
theorem Tab.put{t:bI}{hs:List Int}(T:Tab t hs){h:Int}{ke:Nat}(he:(sq t.mask h ke).j∉t.place.toList)(hl:∀k,k<ke->(sq t.mask h k).j∈t.place.toList):
  ui { t with place:=insertAt t.place (below t.place (sq t.mask h ke).j) (sq t.mask h ke).j,dummies:=#[]} (hs.take (below t.place (sq t.mask h ke).j)++h::hs.drop (below t.place (sq t.mask h ke).j)):=by
 obtain⟨b0,b1,b2⟩:=Ay (j:=(sq t.mask h ke).j) T.rise;have hlen:t.place.toList.length=hs.length:=by simpa using T.size
 have hmem:∀x,x∈(insertAt t.place (below t.place (sq t.mask h ke).j) (sq t.mask h ke).j).toList↔x=(sq t.mask h ke).j∨x∈t.place.toList:=fun x=>by
  rw[vM,(xl _ t.place.toList _).mem_iff,aa]
 refine⟨T.mask,?_,?_,fun j hj=>?_,rfl,?_,fun j h' hj=>?_⟩
 ·show (insertAt t.place (below t.place (sq t.mask h ke).j) (sq t.mask h ke).j).size=_;have e1:(insertAt t.place (below t.place (sq t.mask h ke).j) (sq t.mask h ke).j).size=(insertAt t.place (below t.place (sq t.mask h ke).j) (sq t.mask h ke).j).toList.length:=by simp
  rw[e1,vM,(xl _ t.place.toList _).length_eq,(xl _ hs _).length_eq];simp only[aB];lia
 ·show (insertAt t.place (below t.place (sq t.mask h ke).j) (sq t.mask h ke).j).toList.Pairwise (· < ·);rw[vM];refine List.pairwise_append.mpr ⟨T.rise.sublist (oB _ _),List.pairwise_cons.mpr ⟨fun x hx=>?_,T.rise.sublist (List.drop_sublist _ _)⟩,fun a ha b hb=>?_⟩
  ·obtain⟨i,hi⟩:=gB hx;rw[uA] at hi;have q:=b2 (below t.place (sq t.mask h ke).j+i) x (by lia) (by rw[←aY];exact hi);have ne:x≠(sq t.mask h ke).j:=fun e=>he (e▸bZ hi);lia
  ·obtain⟨i,hi⟩:=gB ha;have hil:i<below t.place (sq t.mask h ke).j:=by
    have:=(aM.mp hi).1;rw[eR] at this;lia
   rw[pX hil] at hi;have qa:=b1 i a hil (by rw[←aY];exact hi);rcases aa.mp hb with e|hb
   ·rw[e];exact qa
   ·obtain⟨i2,hi2⟩:=gB hb;rw[uA] at hi2;have q:=b2 (below t.place (sq t.mask h ke).j+i2) b (by lia) (by rw[←aY];exact hi2);lia
 ·rcases (hmem j).mp hj with e|e
  ·rw[e];exact (Jz T.mask h ke).1
  ·exact T.bound j e
 ·rw[(xl _ hs _).length_eq];have:=T.room;rcases T.mask with e|e|e<;>(simp only[aB];show _≤t.mask;lia)
 ·have hp:(j,h')∈(t.place.toList.take (below t.place (sq t.mask h ke).j)++(sq t.mask h ke).j::t.place.toList.drop (below t.place (sq t.mask h ke).j)).zip
    (hs.take (below t.place (sq t.mask h ke).j)++h::hs.drop (below t.place (sq t.mask h ke).j)):=by
   rw[←vM];exact hj
  rw[(JA _ _ _ _ _ hlen).mem_iff] at hp;rcases aa.mp hp with e|e
  ·cases e;exact⟨ke,rfl,fun k' hk'=>(hmem _).mpr (.inr (hl k' hk'))⟩
  ·obtain⟨k,e1,e2⟩:=T.reach j h' e;exact⟨k,e1,fun k' hk'=>(hmem _).mpr (.inr (e2 k' hk'))⟩
theorem ui.tab{t:bI}{hs:List Int}(T:ui t hs)(h:t.tooFull=false):Tab t hs:=by
 refine⟨T.mask,T.size,T.rise,T.bound,T.oF,?_,T.reach⟩;have h':¬(t.fill*5≥t.mask*3):=by simpa [tooFull] using h
 have e:t.fill=hs.length:=by
  unfold fill;rw[T.size,T.oF];rfl
 rw[e] at h';lia
end pE
namespace pE
open PySem PySem.SetTable
def Taken(ow:Array (Option Nat))(j:Nat):Prop:=∃k,ow[j]?=some (some k)
theorem DH{ow:Array (Option Nat)}{j:Nat}(hj:j<ow.size):(ow.getD j (some 0)).isNone=true↔¬Taken ow j:=by
 have e:ow.getD j (some 0)=ow[j]:=by simp[my,hj]
 rw[e];unfold Taken;rw[jD hj];cases ow[j] with
 |none=>simp
 |some k=>simp
theorem Jy{m:Nat}(hm:j3 m){h:Int}{ow:Array (Option Nat)}(hs:ow.size=m+1):∀(fuel r n:Nat),sq m h n=rs m (rn m h r)->(∀k,k<n->Taken ow (sq m h k).j) ->
  (∃r',r≤r'/\r' < r+fuel/\¬Taken ow (rn m h r').1)->∃ke,layClean.free m ow fuel (rn m h r).1 (rn m h r).2=some (sq m h ke).j/\¬Taken ow (sq m h ke).j/\∀k,k<ke->Taken ow (sq m h k).j
 |0,r,n,_,_,hx=>by
  obtain⟨r',h1,h2,_⟩:=hx;lia
 |fuel+1,r,n,hn,hk,hx=>by
  have hi:=DK m h r;have hre:runEnd m (rn m h r).1≤m:=by unfold runEnd;split<;>lia
  have hre2:(rn m h r).1≤runEnd m (rn m h r).1:=by unfold runEnd;split<;>lia
  have at_d:∀d,d≤runEnd m (rn m h r).1-(rn m h r).1->(sq m h (n+d)).j=(rn m h r).1+d:=fun d hd=>by
   rw[DM m h n _ hn d hd]
  unfold layClean.free;cases hf:(aA (runEnd m (rn m h r).1+1-(rn m h r).1)).find? (fun k=>(ow.getD ((rn m h r).1+k) (some 0)).isNone) with
  |some k=>
   obtain⟨p1,p2,p3⟩:=List.find?_range_eq_some.mp hf;have hkr:=b9.mp p2;refine⟨n+k,?_,?_,fun k' hk'=>?_⟩
   ·rw[at_d k (by lia)]
   ·rw[at_d k (by lia)];exact (DH (by lia)).mp p1
   ·by_cases hlt:k' < n
    ·exact hk k' hlt
    ·obtain⟨d,rfl⟩:∃d,k'=n+d:=⟨k' - n,by lia⟩;rw[at_d d (by lia)];have q:=p3 d (by lia);refine bf fun z=>?_;rw[(DH (by lia)).mpr z] at q;cases q
  |none=>
   have hnone:=jT.mp hf;have occ:∀d,d≤runEnd m (rn m h r).1-(rn m h r).1->Taken ow ((rn m h r).1+d):=fun d hd=>
    bf fun z=>hnone d (b9.mpr (by lia)) ((DH (by lia)).mpr z)
   refine Jy hm hs fuel (r+1) (n+(runEnd m (rn m h r).1-(rn m h r).1)+1) (JF m h n _ hn) (fun k hk'=>?_) ?_
   ·by_cases hlt:k<n
    ·exact hk k hlt
    ·obtain⟨d,rfl⟩:∃d,k=n+d:=⟨k-n,by lia⟩;rw[at_d d (by lia)];exact occ d (by lia)
   ·obtain⟨r',h1,h2,h3⟩:=hx;refine⟨r',?_,by lia,h3⟩;have:r'≠r:=fun e=>h3 (by
     rw[e];have:=occ 0 (bp _);simpa using this)
    lia
structure vk(m:Nat)(ow:Array (Option Nat))(l:List Int):Prop where
 size:ow.size=m+1
 all:∀(k:Nat),k<l.length->∃j:Nat,ow[j]?=some (some k)
 one:∀(j j' k:Nat),ow[j]?=some (some k)->ow[j']?=some (some k)->j=j'
 reach:∀(j k:Nat),ow[j]?=some (some k)->∃h,l[k]?=some h/\∃n,(sq m h n).j=j/\∀n',n' < n->Taken ow (sq m h n').j
theorem vk.nil(m:Nat):vk m (Array.replicate (m+1) none) []:=by
 have hno:∀(j k:Nat),¬(Array.replicate (m+1) (none:Option Nat))[j]?=some (some k):=fun j k e=>by
  rw[Array.getElem?_replicate] at e;split at e<;>simp at e
 exact⟨by simp,fun k hk=>by simp at hk,fun j j' k e=>absurd e (hno j k),fun j k e=>absurd e (hno j k)⟩
theorem vk.room{m:Nat}{ow:Array (Option Nat)}{l:List Int}(O:vk m ow l)(hl:l.length≤m):∃e,e≤m/\¬Taken ow e:=by
 refine bf fun hn=>?_;have hall:∀e,e≤m->Taken ow e:=fun e he=>bf fun q=>hn ⟨e,he,q⟩;obtain⟨g,hg⟩:∃g:Nat->Nat,∀k,k<l.length->ow[g k]?=some (some k):=by
  refine⟨fun k=>if q:k<l.length then (O.all k q).choose else 0,fun k hk=>?_⟩;dsimp only;rw[dif_pos hk];exact (O.all k hk).choose_spec
 have hlen:=DI (m+1) ((aA l.length).map g) fun e he=>by
  obtain⟨k,hk⟩:=hall e (by lia);obtain⟨h,e1,_⟩:=O.reach e k hk;have hkl:=(aM.mp e1).1;exact br.mpr ⟨k,b9.mpr hkl,O.one _ _ k (hg k hkl) hk⟩
 simp at hlen;lia
theorem vk.add{m:Nat}(hm:j3 m){ow:Array (Option Nat)}{l:List Int}{h:Int}(O:vk m ow l)(hl:l.length≤m):
  ∃j,layClean.free m ow (turns m) (bits h%(m+1)) (bits h)=some j/\vk m (ow.setIfInBounds j (some l.length)) (l++[h]):=by
 obtain⟨e,he,ne⟩:=O.room hl;obtain⟨n0,hn0,en0⟩:=Ci hm (DK m h 13) (show e<m+1 by lia);obtain⟨ke,h1,h2,h3⟩:=Jy hm (h:=h) O.size (turns m) 0 0 rfl (fun k hk=>by lia) ⟨13+n0,by lia,by unfold turns;lia,by rw[DL,en0];exact ne⟩;refine⟨(sq m h ke).j,h1,?_⟩;have hj:(sq m h ke).j<ow.size:=by
  have:=(Jz hm h ke).1;rw[O.size];lia
 have hget:∀j:Nat,(ow.setIfInBounds (sq m h ke).j (some l.length))[j]?=if (sq m h ke).j=j then some (some l.length) else ow[j]?:=fun j=>by
  rw[Array.getElem?_setIfInBounds];by_cases e:(sq m h ke).j=j
  ·rw[if_pos e,if_pos e,if_pos (by lia)]
  ·rw[if_neg e,if_neg e]
 have tk:∀j,Taken ow j->Taken (ow.setIfInBounds (sq m h ke).j (some l.length)) j:=fun j ⟨k,hk⟩=>by
  unfold Taken;rw[hget];by_cases e:(sq m h ke).j=j
  ·exact⟨_,if_pos e⟩
  ·exact⟨k,by rw[if_neg e];exact hk⟩
 have lt_of:∀j k:Nat,ow[j]?=some (some k)->k<l.length:=fun j k e=>by
  obtain⟨h',e1,_⟩:=O.reach j k e;exact (aM.mp e1).1
 refine⟨by rw[Array.size_setIfInBounds];exact O.size,fun k hk=>?_,fun j j' k q q'=>?_,fun j k q=>?_⟩
 ·rw[Ω,dY] at hk;by_cases hkl:k<l.length
  ·obtain⟨j,hj'⟩:=O.all k hkl;refine⟨j,?_⟩;rw[hget,if_neg (fun e=>h2 ⟨k,by rw[e];exact hj'⟩)];exact hj'
  ·have:k=l.length:=by lia
   exact⟨(sq m h ke).j,by rw[hget,if_pos rfl,this]⟩
 ·rw[hget] at q q';by_cases e:(sq m h ke).j=j
  ·rw[if_pos e] at q;by_cases e':(sq m h ke).j=j'
   ·lia
   ·rw[if_neg e'] at q';cases q;exact absurd (lt_of _ _ q') (cy _)
  ·rw[if_neg e] at q;by_cases e':(sq m h ke).j=j'
   ·rw[if_pos e'] at q';cases q';exact absurd (lt_of _ _ q) (cy _)
   ·rw[if_neg e'] at q';exact O.one j j' k q q'
 ·rw[hget] at q;by_cases e:(sq m h ke).j=j
  ·rw[if_pos e] at q;cases q;exact⟨h,by simp,ke,e,fun n' hn'=>tk _ (h3 n' hn')⟩
  ·rw[if_neg e] at q;obtain⟨h',e1,n,e2,e3⟩:=O.reach j k q;exact⟨h',by rw[e7 (lt_of j k q)];exact e1,n,e2,fun n' hn'=>tk _ (e3 n' hn')⟩
theorem Jx{m:Nat}(hm:j3 m):∀(l' l:List Int) (ow:Array (Option Nat)),vk m ow l->l.length+l'.length≤m+1 ->
  ∃ow',(l'.foldl (fun (acc:Option (Array (Option Nat)×Nat)) h=>do
   let (owner,k) ←acc
   let j ←layClean.free m owner (turns m) (bits h%(m+1)) (bits h)
   pure (owner.setIfInBounds j (some k),k+1)) (some (ow,l.length)))=some (ow',(l++l').length)/\vk m ow' (l++l')
 |[],l,ow,O,_=>⟨ow,by simp,by simpa using O⟩
 |h::l',l,ow,O,hl=>by
  rw[aB] at hl
  obtain⟨j,e,O'⟩:=O.add hm (h:=h) (by lia)
  obtain⟨ow',e2,O2⟩:=Jx hm l' (l++[h]) _ O' (by simp;lia)
  refine⟨ow',?_,by simpa using O2⟩
  rw[qr]
  have hs:(do
   let (owner,k) ←(some (ow,l.length):Option (Array (Option Nat)×Nat))
   let j ←layClean.free m owner (turns m) (bits h%(m+1)) (bits h)
   pure (owner.setIfInBounds j (some k),k+1))=some (ow.setIfInBounds j (some l.length),(l++[h]).length):=by
   show (do
    let j ←layClean.free m ow (turns m) (bits h%(m+1)) (bits h)
    pure (ow.setIfInBounds j (some l.length),l.length+1))=_
   rw[e]
   simp
  rw[hs,e2]
  simp
theorem DG{α:Type}:∀l:List α,((aA l.length).filterMap fun k=>l[k]?)=l
 |[]=>rfl
 |a::l=>by
  rw[aB,qT,pY (b:=a) (by simp),uB];have ih:=DG l;congr 1
theorem SO{α:Type}(xs:Array α):((aA xs.size).filterMap fun k=>xs[k]?)=xs.toList:=by
 have:=DG xs.toList;simpa using this
theorem SN{m finger moves:Nat}{led plain:Bool}(hm:j3 m)(hs:Array Int)(hl:hs.size*5<m*3):
  ∃t order,laid m finger moves led plain hs=some (t,order)/\t.mask=m/\t.led=led/\t.plain=plain/\t.finger=finger/\order.toList.Perm (aA hs.size)/\Tab t (order.toList.filterMap fun k=>hs[k]?):=by
 obtain⟨ow,e,O⟩:=Jx hm hs.toList [] _ (vk.nil m) (by simp;lia);rw[cX] at e O;have hlc:layClean m hs=some ow:=by
  unfold layClean;rw[←Array.foldl_toList];have e':=congrArg (sO fun x:Array (Option Nat)×Nat=>x.1) e;exact e'
 have hmem:∀j k,(j,k)∈((aA (m+1)).filterMap fun j=>(ow.getD j none).map (j,·))↔ow[j]?=some (some k):=fun j k=>by
  rw[nJ];constructor
  ·rintro⟨a,ha,q⟩;have ha':=b9.mp ha;cases ho:ow.getD a none with
   |none=>rw[ho] at q;cases q
   |some k'=>
    rw[ho] at q;cases q;have:ow.getD j none=ow[j]'(by rw[O.size];exact ha'):=by simp[my,O.size,ha']
    rw[this] at ho;rw[jD (by rw[O.size];exact ha'),ho]
  ·intro q;have hj:=(aG.mp q).1;rw[O.size] at hj;refine⟨j,b9.mpr hj,?_⟩;have:ow.getD j none=some k:=by
    rw[Array.getD_eq_getD_getElem?,q];rfl
   rw[this];rfl
 generalize hL:((aA (m+1)).filterMap fun j=>(ow.getD j none).map (j,·))=L at hmem;have rise:L.Pairwise fun a b=>a.1<b.1:=by
  rw[←hL];refine List.Pairwise.filterMap _ (fun a a' hlt b hb b' hb'=>?_) (List.pairwise_lt_range (n:=m+1));cases ho:ow.getD a none with
  |none=>rw[ho] at hb;cases hb
  |some k=>
   rw[ho] at hb;cases hb;cases ho':ow.getD a' none with
   |none=>rw[ho'] at hb';cases hb'
   |some k'=>
    rw[ho'] at hb';cases hb';exact hlt
 have nd:(L.map (·.2)).Nodup:=by
  refine u7 _ (R:=fun a b=>a.2≠b.2) (fun _ _ z=>z) ?_;refine List.Pairwise.imp_of_mem (fun {a b} ha hb hab=>?_) rise;intro q;obtain⟨j,k⟩:=a;obtain⟨j',k'⟩:=b;have ea:=(hmem j k).mp ha;have eb:=(hmem j' k').mp hb;have hab':j<j':=hab;have q':k=k':=q;subst q';have:=O.one j j' k ea eb;lia
 have hperm:(L.map (·.2)).Perm (aA hs.size):=by
  refine (List.perm_ext_iff_of_nodup nd List.nodup_range).mpr fun k=>?_;rw[br,b9];constructor
  ·rintro⟨⟨j,k'⟩,hjk,rfl⟩;obtain⟨h,e1,_⟩:=O.reach j k' ((hmem j k').mp hjk);have:=(aM.mp e1).1;simpa using this
  ·intro hk;obtain⟨j,ej⟩:=O.all k (by simpa using hk);exact⟨(j,k),(hmem j k).mpr ej,rfl⟩
 -- the hashes in the slots' order
 have hzip:∀j h,(j,h)∈(L.map (·.1)).zip ((L.map (·.2)).filterMap fun k=>hs[k]?)->∃k,(j,k)∈L/\hs[k]?=some h:=by
  have hall:∀p∈L,∃h,hs[p.2]?=some h:=fun p hp=>by
   obtain⟨h,e1,_⟩:=O.reach p.1 p.2 ((hmem p.1 p.2).mp hp);exact⟨h,by rw[←aY];exact e1⟩
  clear hmem rise nd hperm hL
  induction L with
  |nil=>intro j h q;cases q
  |cons p L ih=>
   intro j h q;obtain⟨h0,e0⟩:=hall p Γ;rw[ak,ak,pY e0,jQ] at q;rcases aa.mp q with q|q
   ·cases q;exact⟨p.2,Γ,e0⟩
   ·obtain⟨k,q1,q2⟩:=ih (fun p hp=>hall p (Δ _ hp)) j h q;exact⟨k,Δ _ q1,q2⟩
 have hlenL:((L.map (·.2)).filterMap fun k=>hs[k]?).length=L.length:=by
  have h1:=(hperm.filterMap fun k=>hs[k]?).length_eq;rw[SO] at h1;have h3:=hperm.length_eq;rw[π,cb] at h3;rw[h1,h3];simp
 refine⟨_,_,by unfold laid;rw[hlc];rfl,rfl,rfl,rfl,rfl,?_,?_⟩
 ·rw[hL];exact hperm
 ·rw[hL];have hlen:L.length=hs.size:=by
   have:=hperm.length_eq;simpa using this
  refine⟨hm,?_,?_,fun j hj=>?_,rfl,?_,fun j h hj=>?_⟩
  ·rw[hlenL];simp
  ·exact u7 _ (fun _ _ z=>z) rise
  ·obtain⟨⟨j',k⟩,hp,rfl⟩:=br.mp hj;have:=(aG.mp ((hmem j' k).mp hp)).1;rw[O.size] at this;show j'≤m;lia
  ·rw[hlenL,hlen];exact hl
  ·obtain⟨k,q1,q2⟩:=hzip j h hj;obtain⟨h',e1,n,e2,e3⟩:=O.reach j k ((hmem j k).mp q1);have eh:h'=h:=by
    rw[aY,q2] at e1;exact (aJ e1).symm
   subst eh;refine⟨n,e2,fun n' hn'=>?_⟩;obtain⟨k',hk'⟩:=e3 n' hn';exact br.mpr ⟨(_,k'),(hmem _ k').mpr hk',rfl⟩
end pE
namespace jK
open PySem pE
section
variable {prog:ah} {w:ax} {A:aL} {E:ε->θ->Prop} {s:θ}
abbrev hk(prog:ah)(w:ax)(ks:List Int):Int:=tupleKeyHash (intKind prog w) ks
abbrev i8(prog:ah)(w:ax)(h:Φ)(ks:List Int)(a:ζ):Prop:=IsTupleKey (intKind prog w) h ks a
def ent(prog:ah)(w:ax)(p:List Int×ζ):Int×ε:=(hk prog w p.1,.ref p.2)
structure m9(prog:ah)(w:ax)(h:Φ)(a:ζ)(o:aK)(es:Array (Int×ε))(ep:Nat)(t:bI)(xs:List (List Int×ζ)):Prop where
 at_:h.get? a=some o
 ex:o.ExactSet
 dat:o.data=.set es ep t
 ents:es.toList=xs.map (ent prog w)
 keys:∀p∈xs,i8 prog w h p.1 p.2
 nd:(xs.map (·.1)).Nodup
 plain:t.plain=true
 led:t.led = !(w.params.followText "set-order")
structure ma(w:ax)(h:Φ)(a:ζ)(o:aK)(es:Array (Int×ε))(ep:Nat)(t:bI):Prop where
 at_:h.get? a=some o
 ex:o.ExactSet
 dat:o.data=.set es ep t
 plain:t.plain=true
 led:t.led = !(w.params.followText "set-order")
theorem m9.wk{prog:ah}{w:ax}{h:Φ}{a:ζ}{o:aK}{es:Array (Int×ε)}{ep:Nat}{t:bI}{xs:List (List Int×ζ)}(S:m9 prog w h a o es ep t xs):ma w h a o es ep t:=⟨S.at_,S.ex,S.dat,S.plain,S.led⟩
theorem yz{es:Array (Int×ε)}:(es.toList.map (·.1)).length=es.size:=by simp
theorem vL{es:Array (Int×ε)}{t:bI}(T:ui t (es.toList.map (·.1))):t.fits es.size=true:=by
 unfold bI.fits;have h1:=T.size;rw[yz] at h1;have h2:=T.Lh;rw[yz] at h2;have h3:t.fill=es.size:=by
  unfold bI.fill;rw[h1,T.oF];rfl
 rw[h3,h1];simp;exact h2
theorem Tab.r{t:bI}{hs:List Int}(T:Tab t hs):ui t hs:=by
 refine⟨T.mask,T.size,T.rise,T.bound,T.oF,?_,T.reach⟩;have:=T.room;lia
theorem SM{t:bI}(h:j3 t.mask):t.gaveWay=false:=by
 unfold bI.gaveWay;rcases h with e|e|e<;>rw[e]<;>rfl
theorem SK(n:Nat){v:ε}(h:carriedByValue v=true):ofAClassStatement n v=pure false:=by
 cases v with
 |ref a=>simp[carriedByValue] at h
 |_=>first|rfl|(cases n<;>rfl)
theorem Jw{ks:List Int}{a:ζ}{Q:Bool->θ->Prop}(hx:i8 prog w s.heap ks a)(h:Q false s):ρ (model prog w) A (ofAClassStatement 8 (.ref a)) Q E s:=by
 have hT:=hx.typeIs;obtain⟨o,items,n,ho,hc,hd,hi⟩:=hx;unfold ofAClassStatement;refine δ (jL hT ?_);dsimp only;rw[if_pos (by decide)];refine δ (ι ?_);rw[if_neg (by decide)];refine δ (eE ho hd ?_);dsimp only;refine δ ?_;rw[←uF];refine lr _ (fun rest r s'=>r.1=none/\s'=s/\∀v∈rest,carriedByValue v=true) _ ?_ ?_ _ _ ⟨rfl,rfl,hi.byValue⟩
 ·rintro v rest r s' ⟨hr,rfl,hall⟩;rw[SK _ (hall v Γ)];refine δ (ι ?_);rw[if_neg az];exact ι ⟨rfl,rfl,fun u hu'=>hall u (Δ _ hu')⟩
 ·rintro⟨r1,r2⟩ s' ⟨hr,rfl,_⟩;simp only at hr;subst hr;exact ι h
theorem SJ{ks:List Int}{a:ζ}{Q:Bool->θ->Prop}(hx:i8 prog w s.heap ks a)(l:List ε)(hl:∀v∈l,∃k y,v=.ref y/\i8 prog w s.heap k y)(h:Q false s):
  ρ (model prog w) A (searchCouldBeSeen (.ref a) l) Q E s:=by
 unfold searchCouldBeSeen;refine δ ?_;refine lr _ (fun rest r s'=>r.1=none/\s'=s/\∀v∈rest,∃k y,v=.ref y/\i8 prog w s.heap k y) _ ?_ ?_ _ _ ⟨rfl,rfl,hl⟩
 ·rintro v rest r s' ⟨hr,rfl,hall⟩;obtain⟨k,y,rfl,hy⟩:=hall v Γ;have hrest:∀v∈rest,∃k y,v=aF y/\i8 prog w s'.heap k y:=fun v hv=>hall v (Δ _ hv);dsimp only;by_cases hc:((a==y)||(carriedByValue (.ref a)&&carriedByValue (.ref y)))=true
  ·rw[if_pos hc];exact ι ⟨rfl,rfl,hrest⟩
  ·rw[if_neg hc];refine δ (wpAny_eqIsQuiet_tuple hx ?_);rw[if_neg (by decide)];refine δ (wpAny_eqIsQuiet_tuple hy ?_);rw[if_neg (by decide)];refine δ (Jw hx ?_);rw[if_neg az];refine δ (Jw hy ?_);rw[if_neg az];exact ι ⟨rfl,rfl,hrest⟩
 ·rintro⟨r1,r2⟩ s' ⟨hr,rfl,_⟩;simp only at hr;subst hr;exact ι h
theorem SI{ks:List Int}{a:ζ}{Q:Bool->θ->Prop}(hx:i8 prog w s.heap ks a)(h:Q true s):ρ (model prog w) A (hashByValue 8 (.ref a)) Q E s:=by
 have hT:=hx.typeIs;obtain⟨o,items,n,ho,hc,hd,hi⟩:=hx;unfold hashByValue;refine δ (wpAny_specialOf hT F.slot_tuple_hash.lookup ?_);dsimp only;refine δ (eE ho hd ?_);refine δ ?_;show ρ _ _ (forIn items _ _) _ _ s;rw[←uF];refine lr _ (fun rest r s'=>r.1=none/\s'=s/\∃l,ItemsAre (intKind prog w) l rest) _ ?_ ?_ _ _ ⟨rfl,rfl,ks,hi⟩
 ·rintro v rest r s' ⟨hr,rfl,l,hl⟩;cases hl with
  |@cons k v' _ _ h1 h2=>
   obtain⟨tk,rfl⟩:=iw (k:=k) h1;have e:hashByValue 7 (.int k tk)=pure true:=by rfl
   rw[e];refine δ (ι ?_);rw[if_neg (by decide)];exact ι ⟨rfl,rfl,_,h2⟩
 ·rintro⟨r1,r2⟩ s' ⟨hr,rfl,_⟩;simp only at hr;subst hr;exact ι h
theorem SH{es:Array (Int×ε)}{xs:List (List Int×ζ)}(he:es.toList=xs.map (ent prog w)){i:Nat}(hi:i<es.size):∃p,xs[i]?=some p/\es[i]?=some (ent prog w p):=by
 have hl:xs.length=es.size:=by
  have:=congrArg fe he;simpa using this.symm
 obtain⟨p,hp⟩:∃p,xs[i]?=some p:=⟨xs[i]'(by lia),aw (by lia)⟩;refine⟨p,hp,?_⟩;rw[←aY,he,aE,hp];rfl
theorem Jv{a:ζ}{o:aK}{es:Array (Int×ε)}{ep:Nat}{t:bI}{xs:List (List Int×ζ)}(S:m9 prog w s.heap a o es ep t xs)(T:Tab t (es.toList.map (·.1)))(hu:A.units<cLine)
  {ks:List Int} {x:ζ} (hx:i8 prog w s.heap ks x) {ke:Nat} (hke:ke≤10*t.mask+130) (hemp:(sq t.mask (hk prog w ks) ke).j∉t.place.toList) (hliv:∀k,k<ke->(sq t.mask (hk prog w ks) k).j∈t.place.toList)
  {Q:SetFound->θ->Prop} (hin:ks∈xs.map (·.1)->Q (.there none) s) (hout:ks∉xs.map (·.1)->Q (.free (sq t.mask (hk prog w ks) ke).j false) s):
  ∀(fuel n:Nat) (stand:Option bI.Probe),stand.getD (t.probeStart (hk prog w ks))=sq t.mask (hk prog w ks) n->n≤ke->ke-n<fuel ->
   (∀(k' i':Nat) p,k' < n->t.place[i']?=some (sq t.mask (hk prog w ks) k').j->xs[i']?=some p->p.1≠ks) ->
   ρ (model prog w) A (setSearchFrom a (.ref x) (hk prog w ks) true fuel stand) Q E s
 |0,n,stand,_,_,hf,_=>by lia
 |fuel+1,n,stand,hst,hn,hf,hprev=>by
  have hsz:t.place.size=es.size:=by
   have:=T.size
   rw[yz] at this
   exact this
  have hfit:=vL (Tab.r T)
  have hal:∀(i:Nat) (p:List Int×ζ),xs[i]?=some p->((es[i]?).map fun z:Int×ε=>z.1).getD 0=hk prog w p.1:=fun i p hp=>by
   rw[←aY,S.ents,aE,hp]
   rfl
  unfold setSearchFrom
  refine δ (dt S.at_ S.dat hfit ?_)
  dsimp only
  rw[SM T.mask,if_neg az,hst]
  obtain⟨met,e,m⟩:=SR T (hashAt:=fun i=>((es[i]?).map fun z:Int×ε=>z.1).getD 0) hke hemp hliv hn
  erw [e]
  dsimp only
  cases m with
  |free h1 h5=>
   dsimp only
   refine ι (hout fun hmem=>?_)
   obtain⟨p,hp,rfl⟩:=br.mp hmem
   obtain⟨i,hi⟩:=gB hp
   have hil:i<es.size:=by
    have h1:=(aM.mp hi).1
    have h2:=congrArg fe S.ents
    simp at h2
    lia
   have hj:∃j,t.place[i]?=some j:=⟨t.place[i]'(by lia),by simp⟩
   obtain⟨j,hj⟩:=hj
   have hz:(j,hk prog w p.1)∈t.place.toList.zip (es.toList.map (·.1)):=by
    refine bZ (i:=i) ?_
    rw[oP]
    refine⟨by rw[aY];exact hj,?_⟩
    rw[S.ents,bV,aE,hi]
    rfl
   obtain⟨k,hk1,hk2⟩:=T.reach _ _ hz
   have hkke:k<ke:=by
    refine bf fun z=>hemp ?_
    by_cases q:k=ke
    ·rw[←q,hk1]
     exact bZ (by rw[aY];exact hj)
    ·exact hk2 ke (by lia)
   rw[←hk1] at hj
   by_cases hkn:k<n
   ·exact hprev k i p hkn hj hi rfl
   ·exact h5 k i (by lia) hkke hj (hal i p hi)
  |@BO k i h1 h2 h3 h4 h5=>
   dsimp only
   have hil:i<es.size:=by
    have:=(aG.mp h3).1
    lia
   obtain⟨p,hp,hesi⟩:=SH S.ents hil
   have hyk:=S.keys p (bZ hp)
   have hpk:p∈xs:=bZ hp
   have go:ρ (model prog w) A (do
     let some (_,y):=es[i]? | unsupported "internal:set-entry"
     let equal ←holding [y] (eqBool y (.ref x))
     let (es',_,t') ←setState a
     if true&&equal then return .there none
     let some same:=t'.sameMemory t.moves t.mask|unsupported "set.changed-during-lookup:is-the-new-block-at-the-old-address"
     let still ←match (if same then t'.slot (sq t.mask (hk prog w ks) k).j else .empty) with
      |.live i'=>match es'[i']? with
       |some (_,y')=>do pure (if ←isSame y' y then some i' else none)
       |none=>pure none
      |_=>pure none
     match still with
     |none=>rule "set.search.anew";setSearchFrom a (.ref x) (hk prog w ks) true fuel none
     | some i'=>if equal then return .there (some i') else setSearchFrom a (.ref x) (hk prog w ks) true fuel (some (sq t.mask (hk prog w ks) (k+1)))) Q E s:=by
    rw[hesi]
    dsimp only[ent]
    refine δ (bO (wpAny_eqBool_tuple hu hyk hx ?_))
    refine δ (dt S.at_ S.dat hfit ?_)
    dsimp only
    by_cases heq:p.1=ks
    ·rw[decide_eq_true heq,if_pos (by decide)]
     exact ι (hin (br.mpr ⟨p,hpk,heq⟩))
    ·rw[decide_eq_false heq,if_neg (by decide)]
     have hsm:t.sameMemory t.moves t.mask=some true:=by unfold bI.sameMemory;simp
     rw[hsm]
     dsimp only
     rw[if_pos rfl,JC T.rise h3]
     dsimp only
     rw[hesi]
     dsimp only[ent]
     refine δ (wpAny_isSame_ref_self ?_)
     rw[if_pos rfl]
     refine δ (ι ?_)
     dsimp only
     rw[if_neg az]
     refine Jv S T hu hx hke hemp hliv hin hout fuel (k+1) _ rfl (by lia) (by lia) fun k' i' p' hk' hpl hp'=>?_
     by_cases hkn:k' < n
     ·exact hprev k' i' p' hkn hpl hp'
     ·by_cases hkk:k'=k
      ·subst hkk
       have e1:=below_at T.rise h3
       have e2:=below_at T.rise hpl
       have:i'=i:=by lia
       subst this
       rw[hp] at hp'
       cases hp'
       exact heq
      ·intro he
       exact h5 k' i' (by lia) (by lia) hpl (by rw[hal i' p' hp',he])
   by_cases hled:t.led=true
   ·rw[hled]
    rw[if_neg (by decide)]
    exact go
   ·have hled':t.led=false:=by simpa using hled
    rw[hled']
    rw[if_pos (by decide)]
    refine δ (SJ hx _ (fun v hv=>?_) ?_)
    ·obtain⟨e0,he0,rfl⟩:=br.mp hv
     have he1:e0∈es.toList:=by
      have:=gD.mp he0
      exact gD.mpr (Array.mem_filter.mp this).1
     rw[S.ents] at he1
     obtain⟨p0,hp0,rfl⟩:=br.mp he1
     exact⟨p0.1,p0.2,rfl,S.keys p0 hp0⟩
    ·rw[if_neg az]
     exact go
end
end jK
namespace jK
open PySem pE
section
variable {prog:ah} {w:ax} {A:aL} {E:ε->θ->Prop} {s:θ}
def m8(prog:ah)(w:ax)(h:Φ)(a:ζ)(xs:List (List Int×ζ)):Prop:=
 ∃o es ep t,m9 prog w h a o es ep t xs/\Tab t (es.toList.map (·.1))
theorem Ax{h h':Φ}{a y:ζ}{ks:List Int}{o:aK}{es:Array (Int×ε)}{ep:Nat}{t:bI}(ho:h.get? a=some o)(hd:o.data=.set es ep t)(sb:cL a h h')(hy:i8 prog w h ks y):i8 prog w h' ks y:=by
 obtain⟨oy,items,n,hoy,hc,hdy,hi⟩:=hy;have ne:y≠a:=by
  intro e;subst e;rw[ho] at hoy;cases hoy;rw[hd] at hdy;cases hdy
 exact⟨oy,items,n,(sb.2 y ne).trans hoy,hc,hdy,hi⟩
theorem J6{h:Φ}{a:ζ}{o:aK}{es es':Array (Int×ε)}{ep:Nat}{t t':bI}(ho:h.get? a=some o)(hd:o.data=.set es ep t):
  (h.update a (oO es' t')).get? a=some { o with data:=.set es' (ep+1) t' }:=by
 have q:=cg (oO es' t') ho (by rw[putSet_of es' t' hd];rfl);rw[putSet_of es' t' hd] at q;exact q
theorem SG:∀n,n<8->5≤n->nF (iH n)=32:=by decide +kernel
theorem SE:∀n,n<32->19≤n->nF (iH n)=128:=by decide +kernel
theorem SD{t:bI}{hs:List Int}(T:ui t hs)(hf:t.tooFull=true)(h64:hs.length≤64):∃m,nF (iH hs.length)=m+1/\j3 m/\hs.length*5<m*3/\m+1≤128:=by
 have hfill:t.fill=hs.length:=by
  unfold bI.fill;rw[T.size,T.oF];rfl
 have h':hs.length*5≥t.mask*3:=by
  unfold bI.tooFull at hf;rw[hfill] at hf;simpa using hf
 have hfit:=T.Lh;rcases T.mask with e|e|e
 ·rw[e] at h' hfit;exact⟨31,SG _ (by lia) (by lia),.inr (.inl rfl),by lia,by lia⟩
 ·rw[e] at h' hfit;exact⟨127,SE _ (by lia) (by lia),.inr (.inr rfl),by lia,by lia⟩
 ·rw[e] at h';lia
theorem SA{α β:Type}(f:α->β)(l:List α)(o:List Nat):(o.filterMap fun k=>(l.map f)[k]?)=(o.filterMap fun k=>l[k]?).map f:=by
 rw[uy];congr 1;funext k;rw[aE]
theorem Sz{a:ζ}{o:aK}{es:Array (Int×ε)}{ep:Nat}{t:bI}{xs:List (List Int×ζ)}(S:m9 prog w s.heap a o es ep t xs)(T:ui t (es.toList.map (·.1)))(hf:t.tooFull=true)(h64:es.size≤64)
  {Q:Unit->θ->Prop} (h:∀h' xs',cL a s.heap h'->m8 prog w h' a xs'->xs'.Perm xs->Q () { s with heap:=h' }):
  ρ (model prog w) A (setRelay a (iH es.size)) Q E s:=by
 have hsz:(es.toList.map (·.1)).length=es.size:=yz
 obtain⟨m,hm1,hm2,hm3,hm4⟩:=SD T hf (by rw[hsz];exact h64)
 rw[hsz] at hm1 hm3
 unfold setRelay
 refine δ (dt S.at_ S.dat (vL T) ?_)
 dsimp only
 rw[hm1,if_neg (by rw[cq];lia)]
 obtain⟨t2,order,e2,em,el,ep2,ef,hperm,T2⟩:=SN (finger:=t.finger) (moves:=t.movedTo m) (led:=t.led) (plain:=t.plain) hm2 (es.map (·.1)) (by simpa using hm3)
 have erel:t.relaid (es.map (·.1)) (iH es.size)=some (t2,order):=by
  unfold bI.relaid
  rw[hm1,nI]
  exact e2
 have hosz:(es.map (·.1)).size=es.size:=by simp
 rw[hosz] at hperm
 have hes2:(order.filterMap (es[·]?)).toList=(order.toList.filterMap fun k=>xs[k]?).map (ent prog w):=by
  rw[qV,←SA,←S.ents]
  congr 1
  funext k
  rw[aY]
 have hxl:xs.length=es.size:=by
  have:=congrArg fe S.ents
  simpa using this.symm
 have hxp:(order.toList.filterMap fun k=>xs[k]?).Perm xs:=by
  have:=hperm.filterMap fun k=>xs[k]?
  rw[←hxl,DG] at this
  exact this
 have hsz2:(order.filterMap (es[·]?)).size=es.size:=by
  have:=congrArg fe hes2
  simp only[π] at this
  rw[hxp.length_eq,hxl] at this
  rw[←fH]
  exact this
 refine δ ?_
 show ρ _ _ (do
  let some (t,order):=t.relaid (es.map (·.1)) (iH es.size)|unsupported "internal:set-table-without-room"
  let es':=order.filterMap (es[·]?)
  if es'.size != es.size then unsupported "internal:set-table-lost-an-element"
  pure (es',t)) _ _ _
 rw[erel]
 dsimp only
 rw[hsz2,if_neg (by simp)]
 refine ι ?_
 dsimp only
 refine wpAny_storeSet_of S.at_ S.dat ?_ (by rw[hsz2,cq];lia)
 have sb:=dj s.heap a (oO (order.filterMap (es[·]?)) t2)
 refine h _ _ sb ⟨_,_,_,_,⟨J6 S.at_ S.dat,⟨S.ex.1,S.ex.2.1,S.ex.2.2⟩,rfl,hes2,fun p hp=>Ax S.at_ S.dat sb (S.keys p (hxp.mem_iff.mp hp)),?_,ep2.trans S.plain,el.trans S.led⟩,?_⟩ hxp
 ·exact (hxp.map _).nodup_iff.mpr S.nd
 ·have eT:(order.filterMap (es[·]?)).toList.map (·.1)=order.toList.filterMap fun k=>(es.map (·.1))[k]?:=by
   rw[qV,uy]
   congr 1
   funext k
   simp
  rw[eT]
  exact T2
theorem Sy{a:ζ}{xs:List (List Int×ζ)}(S:m8 prog w s.heap a xs)(h64:xs.length<64)(hu:A.units<cLine){ks:List Int}{x:ζ}(hx:i8 prog w s.heap ks x)
  {Q:Bool->θ->Prop} (h:∀b h' tk xs',s.toks≤tk->cL a s.heap h'->m8 prog w h' a xs'->(ks∈xs.map (·.1)->xs'.Perm xs)->(ks∉xs.map (·.1)->xs'.Perm ((ks,x)::xs))->Q b { s with heap:=h',toks:=tk }):
  ρ (model prog w) A (setAdd a (.ref x)) Q E s:=by
 obtain⟨o,es,ep,t,S,T⟩:=S;have hxl:xs.length=es.size:=by
  have:=congrArg fe S.ents;simpa using this.symm
 unfold setAdd;refine bO (δ (wpAny_pyHash_tuple hu hx ?_));unfold setAddHashed;refine bO ?_;have mS:∀b h' xs',cL a s.heap h'->m8 prog w h' a xs'->(ks∈xs.map (·.1)->xs'.Perm xs)->(ks∉xs.map (·.1)->xs'.Perm ((ks,x)::xs))->Q b { s with heap:=h',toks:=s.toks+(ks.length+1)}:=
  fun b h' xs' q1 q2 q3 q4=>h b h' _ xs' (gN _ _) q1 q2 q3 q4
 obtain⟨ke,hke,hemp,hliv⟩:=SU T (hk prog w ks);unfold setAddHashedIn;refine δ (dt (s:={ s with toks:=s.toks+(ks.length+1)}) S.at_ S.dat (vL (Tab.r T)) ?_);dsimp only;rw[show byScan (.ref x) es=false from rfl,if_neg az];refine δ ?_;unfold setSearch;refine Jv (s:={ s with toks:=s.toks+(ks.length+1)}) S T hu hx hke hemp hliv (fun hin=>?_) (fun hout=>?_) 100000 0 none rfl (bp _) (by rcases T.mask with e|e|e<;>rw[e] at hke<;>lia) fun k' i' p hk'=>absurd hk' (Nat.not_lt_zero _)
 ·dsimp only;exact ι (mS false s.heap xs (.refl _ _) ⟨o,es,ep,t,S,T⟩ (fun _=>.refl _) fun z=>absurd hin z)
 ·dsimp only;refine δ (dt (s:={ s with toks:=s.toks+(ks.length+1)}) S.at_ S.dat (vL (Tab.r T)) ?_);dsimp only;rw[SQ T.oF];dsimp only;rw[S.plain,if_pos rfl];refine δ (SI (s:={ s with toks:=s.toks+(ks.length+1)}) hx ?_);rw[if_pos rfl];have TR:=T.put hemp hliv;generalize hp:iI t.place (sq t.mask (hk prog w ks) ke).j=p at TR ⊢;have hes1:(bT es p (hk prog w ks,aF x)).toList=(xs.take p++(ks,x)::xs.drop p).map (ent prog w):=by
   rw[vM,S.ents,bM,ak,tm,tu];rfl
  have hhs:(bT es p (hk prog w ks,aF x)).toList.map (·.1)=(es.toList.map (·.1)).take p++hk prog w ks::(es.toList.map (·.1)).drop p:=by
   rw[vM,bM,ak,tm,tu]
  have hsz1:(bT es p (hk prog w ks,aF x)).size=es.size+1:=by
   rw[←fH,vM,(xl p es.toList _).length_eq,aB,fH]
  rw[←hhs] at TR;refine δ (wpAny_storeSet_of (s:={ s with toks:=s.toks+(ks.length+1)}) S.at_ S.dat ?_ (by rw[hsz1,cq];lia));have sb:=dj s.heap a (oO (bT es p (hk prog w ks,aF x)) { t with place:=bT t.place p (sq t.mask (hk prog w ks) ke).j,dummies:=#[],plain:=true });have hpx:(xs.take p++(ks,x)::xs.drop p).Perm ((ks,x)::xs):=xl p xs _;have S1:m9 prog w (s.heap.update a (oO (bT es p (hk prog w ks,aF x)) { t with place:=bT t.place p (sq t.mask (hk prog w ks) ke).j,dummies:=#[],plain:=true })) a { o with data:=.set (bT es p (hk prog w ks,aF x)) (ep+1) { t with place:=bT t.place p (sq t.mask (hk prog w ks) ke).j,dummies:=#[],plain:=true }} (bT es p (hk prog w ks,aF x)) (ep+1)
    { t with place:=bT t.place p (sq t.mask (hk prog w ks) ke).j,dummies:=#[],plain:=true } (xs.take p++(ks,x)::xs.drop p):=by
   refine⟨J6 S.at_ S.dat,⟨S.ex.1,S.ex.2.1,S.ex.2.2⟩,rfl,hes1,fun q hq=>?_,?_,rfl,S.led⟩
   ·rcases aa.mp (hpx.mem_iff.mp hq) with e|e
    ·rw[e];exact Ax S.at_ S.dat sb hx
    ·exact Ax S.at_ S.dat sb (S.keys q e)
   ·refine (hpx.map _).nodup_iff.mpr ?_;rw[ak,dU];exact⟨hout,S.nd⟩
  have TR':ui { t with place:=bT t.place p (sq t.mask (hk prog w ks) ke).j,dummies:=#[],plain:=true } ((bT es p (hk prog w ks,aF x)).toList.map (·.1)):=
   ⟨TR.mask,TR.size,TR.rise,TR.bound,TR.oF,TR.Lh,TR.reach⟩
  by_cases hfull:({ t with place:=bT t.place p (sq t.mask (hk prog w ks) ke).j,dummies:=#[],plain:=true }:bI).tooFull=true
  ·rw[hfull,if_pos (by decide)];refine δ ?_;rw[←hsz1];refine Sz (s:={ s with heap:=s.heap.update a _,toks:=s.toks+(ks.length+1)}) S1 TR' hfull (by rw[hsz1];lia) fun h' xs' sb' S2 pm=>?_;exact ι (mS true h' xs' (sb.trans sb') S2 (fun z=>absurd z hout) fun _=>pm.trans hpx)
  ·have hfull':({ t with place:=bT t.place p (sq t.mask (hk prog w ks) ke).j,dummies:=#[],plain:=true }:bI).tooFull=false:=by simpa using hfull
   rw[hfull',if_neg (by decide)];exact ι (mS true _ _ sb ⟨_,_,_,_,S1,TR'.tab hfull'⟩ (fun z=>absurd z hout) fun _=>hpx)
end
end jK
namespace jK
open PySem pE
theorem g6:Slot "set_iterator" "__next__" "set_iterator.__next__":=
 .of (owner:="set_iterator") (n:="__next__")
  (by rw[typeLookup_type,builtinLookup_eq_fast];kernel_rfl)
  (by decide +kernel) (by decide +kernel) (by decide +kernel)
  (by first|exact .inl (by decide +kernel)|exact .inr (by decide +kernel))
  (by rw[rl];kernel_rfl)
theorem J5:Slot "set_iterator" "__iter__" "set_iterator.__iter__":=
 .of (owner:="set_iterator") (n:="__iter__")
  (by rw[typeLookup_type,builtinLookup_eq_fast];kernel_rfl)
  (by decide +kernel) (by decide +kernel) (by decide +kernel)
  (by first|exact .inl (by decide +kernel)|exact .inr (by decide +kernel))
  (by rw[rl];kernel_rfl)
theorem J4:entryFor table "set_iterator.__next__" = some df.«set_iterator.__next__»:=entryFor_of_tree (by kernel_rfl)
theorem Sx:entryFor table "set.__iter__" = some df.«frozenset.__iter__»:=
 rp (id':="frozenset.__iter__") (by rw[fastTable_eq_tree];kernel_rfl) (by decide +kernel) (by decide +kernel) (by rw[fastTable_eq_tree];kernel_rfl)
theorem J3:Manifest.owners.lookup (String.ofList ['r','o','t','a','r','e','t','i','_','t','e','s'].reverse)=some Manifest.sig_set_iterator:=by kernel_rfl
theorem J0(a:ε):argsOk "set_iterator.__next__" ⟨[a],[]⟩:=by
 unfold argsOk;rw[signature?_of (id:="set_iterator.__next__") (n:=['_','_','t','x','e','n','_','_']) (o:=['r','o','t','a','r','e','t','i','_','t','e','s']) (by kernel_rfl) J3]
 kernel_rfl
theorem JZ{α:Type}(next:Nat->Nat):∀(fuel k:Nat) (left:List α) (out:Array α),left.length≤fuel->(pickOrder.go next fuel k left out).toList.Perm (out.toList++left)
 |0,k,left,out,h=>by
  have:left=[]:=qb.mp (by lia);subst this;show out.toList.Perm (out.toList++[]);rw[bB]
 |fuel+1,k,left,out,h=>by
  unfold pickOrder.go;cases hl:left[next k%left.length]? with
  |none=>
   have:left=[]:=by
    cases left with
    |nil=>rfl
    |cons a l=>
     have:=fO (next k) (show 0<(a::l).length by simp)
     rw[aw this] at hl;cases hl
   subst this;show out.toList.Perm (out.toList++[]);rw[bB]
  |some x=>
   have hlt:=(aM.mp hl).1;have ih:=JZ next fuel (k+1) (left.eraseIdx (next k%left.length)) (out.push x) (by rw[List.length_eraseIdx];split<;>lia)
   refine ih.trans ?_;rw[Array.toList_push,dO];refine List.Perm.append_left _ ?_;obtain⟨_,e⟩:=aM.mp hl;rw[←e,List.eraseIdx_eq_take_drop_succ];have q:=List.perm_middle (a:=left[next k%left.length]) (l₁:=left.take (next k%left.length)) (l₂:=left.drop (next k%left.length+1))
   rw[List.getElem_cons_drop,rG] at q;exact q.symm
theorem Sw{α:Type}(next:Nat->Nat)(xs:Array α):(pickOrder next xs).toList.Perm xs.toList:=by
 have:=JZ next xs.size 0 xs.toList #[] (by simp)
 unfold pickOrder;simpa using this
def kG(w:ax):Bool:=w.params.followText "set-order"
def iP(w:ax)(a:ζ)(ep:Nat)(es:Array (Int×ε)):List (Int×ε):=if kG w then (pickOrder (w.params.setOrder a ep) es).toList else es.toList
theorem oC(w:ax)(a:ζ)(ep:Nat)(es:Array (Int×ε)):(iP w a ep es).Perm es.toList:=by
 unfold iP;split
 ·exact Sw _ _
 ·exact .refl _
def nh(h:Φ)(it a:ζ)(slot i n ep:Nat):Prop:=h.get? it=some { cls:=.type "set_iterator",data:=.fields #[rawInt slot,rawInt i,.ref a,rawInt n,rawInt ep]}
def ra(w:ax)(t:bI)(slot i:Nat):Prop:=kG w=true∨iI t.place slot=i
section
variable {prog:ah} {w:ax} {A:aL} {E:ε->θ->Prop} {s:θ}
theorem DF{Q:Bool->θ->Prop}(h:Q (kG w) s):ρ (model prog w) A setsByText Q E s:=by
 unfold setsByText;exact δ (pJ (ι h))
theorem Tn{a:ζ}{o:aK}{es:Array (Int×ε)}{ep:Nat}{t:bI}(S:ma w s.heap a o es ep t)(T:Tab t (es.toList.map (·.1)))
  {Q:ε->θ->Prop} (h:Q (.ref s.heap.objs.size) { s with heap:=s.heap.push { cls:=.type "set_iterator",data:=.fields #[rawInt (0:Nat),rawInt (0:Nat),.ref a,rawInt es.size,rawInt ep]}}):
  ρ (model prog w) A (pyIter (.ref a)) Q E s:=by
 have hT:s.TypeIs (.ref a) "set":=⟨o,S.at_,S.ex.1⟩;have hfit:=vL (Tab.r T);refine kB hT F.slot_set_iter (bX F.slot_set_iter hT Sx ?_ (F.args_set_iter_1 _));unfold df.«frozenset.__iter__»;show ρ _ _ (qe "__iter__" ⟨[.ref a],[]⟩ >>= _) _ _ s;refine δ (m:=qe "__iter__" ⟨[.ref a],[]⟩) (kJ (a:=a) rfl ?_);unfold df.Frozenset.sizeOf setEntries;refine δ (δ (δ (dt S.at_ S.dat hfit (ι (ι ?_)))));unfold setDrawn;refine δ (δ (dt S.at_ S.dat hfit ?_));refine δ (DF (ι ?_));have hnd:(!kG w&&(!t.plain&&decide (es.size > 1)))=false:=by rw[S.plain];simp
 show ρ _ _ (if (!kG w&&(!t.plain&&decide (es.size > 1)))=true then _ else _) _ _ s;rw[hnd,if_neg az];refine δ (ι ?_);refine δ (wpAny_setEpoch_of S.at_ S.dat hfit ?_);refine δ ?_;unfold newFields;refine bC ?_;refine ι ⟨_,rfl,"set_iterator",_,⟨_,ag _ rfl,rfl⟩,g6.lookup,h⟩
theorem JY{a:ζ}{o:aK}{es:Array (Int×ε)}{ep:Nat}{t:bI}(S:ma w s.heap a o es ep t)(T:Tab t (es.toList.map (·.1))){slot i:Nat}(hsl:ra w t slot i)
  {Q:Option (ε×Nat)->θ->Prop} (h1:∀p slot',(iP w a ep es)[i]?=some p->ra w t slot' (i+1)->Q (some (p.2,slot')) s) (h2:(iP w a ep es)[i]?=none->Q none s):
  ρ (model prog w) A (setNext a slot i ep) Q E s:=by
 have hfit:=vL (Tab.r T);have hsz:t.place.size=es.size:=by
  have:=T.size;rw[yz] at this;exact this
 unfold setNext;refine δ (dt S.at_ S.dat hfit ?_);dsimp only;refine δ (DF ?_);unfold iP at h1 h2;cases hbt:kG w with
 |true=>
  rw[hbt] at h1 h2;rw[if_pos rfl];simp only[if_true,aY] at h1 h2;rw[if_neg (by simp)];unfold setWalk;refine δ (δ (dt S.at_ S.dat hfit ?_));dsimp only;refine δ (DF ?_);rw[hbt,if_pos rfl];refine δ (pJ (ι ?_));refine ι ?_;show Q (sO (fun e=>(e.snd,slot)) (pickOrder (w.params.setOrder a ep) es)[i]?) s;cases hp:(pickOrder (w.params.setOrder a ep) es)[i]? with
  |none=>exact h2 hp
  |some p=>exact h1 p slot hp (.inl hbt)
 |false=>
  rw[hbt] at h1 h2;rw[if_neg az];simp only[dD,if_false,aY] at h1 h2;have hled:t.led=true:=by
   rw[S.led];show (!kG w)=true;rw[hbt];rfl
  have hb:iI t.place slot=i:=by
   rcases hsl with z|z
   ·rw[hbt] at z;cases z
   ·exact z
  have hnd:(!t.plain&&decide (es.size > 1))=false:=by rw[S.plain];simp
  show ρ _ _ (if (!t.plain&&decide (es.size > 1))=true then _ else _) _ _ s;rw[hnd,if_neg az];refine δ ?_;show ρ _ _ (if (!t.led && !es.isEmpty)=true then _ else _) _ _ s;rw[hled,if_neg (by simp)];refine ι ?_;rw[hb];cases hp:es[i]? with
  |none=>
   refine ι ?_;have hpl:t.place[i]?=none:=by
    have:=je.mp hp;exact je.mpr (by lia)
   exact h2 hp
  |some p=>
   have hil:=(aG.mp hp).1;have hj:t.place[i]?=some (t.place[i]'(by lia)):=by simp[hsz,hil]
   rw[hj];obtain⟨ph,pv⟩:=p;refine ι (h1 (ph,pv) _ hp (.inr ?_))
   -- the next place
   obtain⟨b0,b1,b2⟩:=Ay (j:=t.place[i]'(by lia)+1) T.rise;refine bf fun cQ=>?_;by_cases hlt:iI t.place (t.place[i]'(by lia)+1)≤i
   ·have:=b2 i _ hlt hj;lia
   ·have hgt:i+1<iI t.place (t.place[i]'(by lia)+1):=by lia
    have hi1:i+1<t.place.size:=by lia
    have e1:t.place[i+1]?=some (t.place[i+1]):=by simp[hi1]
    have q:=b1 (i+1) _ hgt e1;have pw:=gA.mp T.rise i (i+1) (by simp;lia) (by simpa using hi1) (ls i);simp at pw;lia
theorem DE{it a:ζ}{slot i n ep:Nat}(hit:nh s.heap it a slot i n ep):s.TypeIs (.ref it) "set_iterator":=⟨_,hit,rfl⟩
theorem JX{a it:ζ}{o:aK}{es:Array (Int×ε)}{ep:Nat}{t:bI}(S:ma w s.heap a o es ep t)(T:Tab t (es.toList.map (·.1))){slot i:Nat}(hit:nh s.heap it a slot i es.size ep)
  {P:PySem.Fin->θ->Prop} (h:ρ (model prog w) A (do
   match ←setNext a slot i ep with
   |some (x,next)=>
    setField (.ref it) 0 (rawInt next)
    setField (.ref it) 1 (rawInt ((i:Int)+1))
    ret x
   | none=>setField (.ref it) 2 .none;raiseNew (←newExc (.type "StopIteration") [])) P E s):
  ρ (model prog w) A (df.«set_iterator.__next__» ⟨[.ref it],[]⟩) P E s:=by
 have hfit:=vL (Tab.r T);unfold df.«set_iterator.__next__»;refine δ (m:=slotArgs "__next__" 0 ⟨[.ref it],[]⟩) (kJ (a:=(.ref it,[])) rfl ?_);refine δ (rk hit rfl ?_);dsimp only[rawInt];unfold setEntries;refine δ (δ (dt S.at_ S.dat hfit (ι ?_)));rw[if_neg (by simp)];exact h
theorem Tj{a it:ζ}{o:aK}{es:Array (Int×ε)}{ep:Nat}{t:bI}(S:ma w s.heap a o es ep t)(T:Tab t (es.toList.map (·.1))){slot i:Nat}(hsl:ra w t slot i)(hit:nh s.heap it a slot i es.size ep)
  {p:Int×ε} (hp:(iP w a ep es)[i]?=some p) {Q:Option ε->θ->Prop}
  (h:∀h' slot',nh h' it a slot' (i+1) es.size ep->ra w t slot' (i+1)->cL it s.heap h'->Q (some p.2) { s with heap:=h' }):ρ (model prog w) A (pyNext (.ref it)) Q E s:=by
 have hT:=DE hit;unfold pyNext;refine δ (gr (ck (name:=fk "__next__") hT g6
  (bX g6 hT J4 (JX S T hit (δ (JY S T hsl (fun q slot' hq hs'=>?_) fun hn=>?_))) (J0 _))))
 ·rw[hp] at hq;cases hq;dsimp only;refine δ (bU hit (by simp) fun h1 e1 sb1=>?_);refine δ (bU (s:={ s with heap:=h1 }) e1 (by simp) fun h2 e2 sb2=>?_)
  refine ι ⟨_,rfl,ι (h h2 slot' ?_ hs' (sb1.trans sb2))⟩;unfold nh;rw[e2];rfl
 ·rw[hp] at hn;cases hn
theorem Th{a it:ζ}{o:aK}{es:Array (Int×ε)}{ep:Nat}{t:bI}(hh:A.handled=none)(S:ma w s.heap a o es ep t)(T:Tab t (es.toList.map (·.1))){slot i:Nat}(hsl:ra w t slot i)(hit:nh s.heap it a slot i es.size ep)
  (hp:(iP w a ep es)[i]?=none) {Q:Option ε->θ->Prop}
  (h:∀h',vz it s.heap h'->Q none { s with heap:=h' }):ρ (model prog w) A (pyNext (.ref it)) Q E s:=by
 have hT:=DE hit;unfold pyNext;refine δ (gr (ck (name:=fk "__next__") hT g6
  (bX g6 hT J4 (JX S T hit (δ (JY S T hsl (fun q slot' hq hs'=>?_) fun hn=>?_))) (J0 _))))
 ·rw[hp] at hq;cases hq
 ·dsimp only;refine δ (bU hit (by simp) fun h1 e1 sb1=>?_);refine δ ?_;simp only[newExc,newTuple];refine δ (bC ?_ (by size_fits));refine δ (m:=firstArgMember _ _) (kJ (a:=aU) (by first|rfl|(simp only[firstArgMember];rfl)) ?_)
  refine bC ?_ (by size_fits);simp only[raiseNew];refine δ (sZ ?_);rw[show A.in1.handled=none from hh];refine δ (ι (wpAny_throw ?_));refine δ (lp (T:="StopIteration") (b:=true) ⟨_,ag _ rfl,rfl⟩ rm ?_);refine ι (h _ fun b ob hb e=>?_);exact μ _ (μ _ ((sb1.2 b hb).trans e))
end
end jK
namespace jK
open PySem pE
section
variable {prog:ah} {w:ax} {A:aL} {E:ε->θ->Prop} {s:θ}
theorem m9.kept{h h':Φ}{a:ζ}{o:aK}{es:Array (Int×ε)}{ep:Nat}{t:bI}{xs:List (List Int×ζ)}(S:m9 prog w h a o es ep t xs)
  (k:∀b∈a::xs.map (·.2),∀ob,h.get? b=some ob->h'.get? b=some ob):m9 prog w h' a o es ep t xs:=by
 refine⟨k a Γ _ S.at_,S.ex,S.dat,S.ents,fun p hp=>?_,S.nd,S.plain,S.led⟩;obtain⟨oy,items,n,ho,r⟩:=S.keys p hp;exact⟨oy,items,n,k _ (Δ _ (br.mpr ⟨p,hp,rfl⟩)) _ ho,r⟩
theorem ma.kept{h h':Φ}{a:ζ}{o:aK}{es:Array (Int×ε)}{ep:Nat}{t:bI}(S:ma w h a o es ep t)
  (k:∀b∈[a],∀ob,h.get? b=some ob->h'.get? b=some ob):ma w h' a o es ep t:=⟨k a Γ _ S.at_,S.ex,S.dat,S.plain,S.led⟩
theorem ma.K0{h:Φ}{a it:ζ}{o:aK}{es:Array (Int×ε)}{ep ep':Nat}{t:bI}{slot i n:Nat}{b:ζ}(S:ma w h a o es ep t)(hit:nh h it b slot i n ep'):
  ∀c∈[a],c≠it:=fun c hc e=>by
 subst e;unfold nh at hit;rw[cF.mp hc,S.at_] at hit;cases hit;have:=S.dat;cases this
theorem Tg(hh:A.handled=none){a it:ζ}{o:aK}{es:Array (Int×ε)}{ep:Nat}{t:bI}(T:Tab t (es.toList.map (·.1))):
  Walks prog w A it ([it,a]) [it] es.size (fun i v=>∃p,(iP w a ep es)[i]?=some p/\v=p.2)
   (fun i h=>∃slot,nh h it a slot i es.size ep/\ra w t slot i/\ma w h a o es ep t) where
 sub:=fun b hb=>by
  have:b=it:=by simpa using hb
  simp[this]
 frame:=fun i h h' ⟨slot,h1,h2,h3⟩ k=>⟨slot,k it Γ _ h1,h2,h3.kept fun b hb ob e=>k b (Δ _ hb) ob e⟩
 item:=fun i s Q E hi ⟨slot,h1,h2,h3⟩ hQ=>by
  have hlen:(iP w a ep es).length=es.size:=by rw[(oC w a ep es).length_eq];simp
  have hp:(iP w a ep es)[i]?=some ((iP w a ep es)[i]'(by lia)):=aw (by lia);refine Tj h3 T h2 h1 hp fun h' slot' q1 q2 sb=>?_;refine hQ _ h' s.toks ⟨_,hp,rfl⟩ ⟨slot',q1,q2,h3.kept fun b hb ob e=>(sb.2 b (h3.K0 h1 b hb)).trans e⟩ fun b ob hb e=>?_;exact (sb.2 b (by simpa using hb)).trans e
 done:=fun s Q E ⟨slot,h1,h2,h3⟩ hQ=>by
  have hlen:(iP w a ep es).length=es.size:=by rw[(oC w a ep es).length_eq];simp
  refine Th hh h3 T h2 h1 (dW.mpr (by lia)) fun h' q=>?_;exact hQ h' s.toks fun b ob hb e=>q b ob (by simpa using hb) e
 self:=fun i s Q E ⟨slot,h1,h2,h3⟩ h=>by
  have hT:=DE h1;refine kB hT J5 (bX J5 hT (b:=df.«dict_keyiterator.__iter__») ?_ ?_ ?_)
  ·exact rp (id':="dict_keyiterator.__iter__") (by kernel_rfl) (by decide +kernel) (by decide +kernel) (by kernel_rfl)
  ·show ρ _ _ (ret (.ref it)) _ _ s;exact ι ⟨_,rfl,"set_iterator",_,hT,g6.lookup,h⟩
  ·unfold argsOk;rw[signature?_of (id:="set_iterator.__iter__") (n:=['_','_','r','e','t','i','_','_']) (o:=['r','o','t','a','r','e','t','i','_','t','e','s']) (by kernel_rfl) J3]
   kernel_rfl
theorem wQ(hh:A.handled=none){a:ζ}{o:aK}{es:Array (Int×ε)}{ep:Nat}{t:bI}(S:ma w s.heap a o es ep t)(T:Tab t (es.toList.map (·.1)))(h64:es.size≤64)
  {Q:List ε->θ->Prop} (h:∀s',Moved [] (fun x y=>y=x) s s'->Q ((iP w a ep es).map (·.2)) s'):ρ (model prog w) A (collect (.ref a)) Q E s:=by
 have hT:s.TypeIs (.ref a) "set":=⟨o,S.at_,S.ex.1⟩;have hal:a<s.heap.objs.size:=Θ S.at_;unfold collect;refine δ (wpAny_runValue (hZ F.entry_proto_collect ?_));rw[gE F.plain_proto_collect _];show ρ _ A.in1 (newList [] >>= fun q=>again (.builtin "list.__iadd__" ⟨[q,.ref a],[]⟩)) _ _ s;refine δ (bC ?_);refine ι ⟨nU F.plain_list_iadd _,hZ F.entry_list_iadd ?_⟩;rw[gE F.plain_list_iadd _];show ρ _ A.in1 (nN (.ref s.heap.objs.size) (.ref a) (.ref s.heap.objs.size)) _ _ _;unfold nN;have S1:ma w (s.heap.push { cls:=.type "list",data:=.seq ([]:List ε).toArray }) a o es ep t:=S.kept fun b _ ob e=>μ _ e;have hT1:kW { s with heap:=s.heap.push { cls:=.type "list",data:=.seq ([]:List ε).toArray }} (.ref a) "set":=⟨o,S1.at_,S.ex.1⟩;refine δ (jL hT1 ?_);have ne:s.heap.objs.size≠a:=eA hal;have e1:p6 (.ref s.heap.objs.size) (.ref a)=false:=by simp[p6,ne]
 rw[if_neg (by rw[e1];decide)];refine δ (Tn (s:={ s with heap:=s.heap.push { cls:=.type "list",data:=.seq ([]:List ε).toArray }}) S1 T ?_);have S2:=S1.kept (h':=(s.heap.push { cls:=.type "list",data:=.seq ([]:List ε).toArray }).push { cls:=.type "set_iterator",data:=.fields #[rawInt (0:Nat),rawInt (0:Nat),.ref a,rawInt es.size,rawInt ep]}) fun b _ ob e=>μ _ e;have hit:nh ((s.heap.push { cls:=.type "list",data:=.seq ([]:List ε).toArray }).push { cls:=.type "set_iterator",data:=.fields #[rawInt (0:Nat),rawInt (0:Nat),.ref a,rawInt es.size,rawInt ep]})
   (s.heap.push { cls:=.type "list",data:=.seq ([]:List ε).toArray }).objs.size a 0 0 es.size ep:=ag _ rfl
 have hS0:((s.heap.push { cls:=.type "list",data:=.seq ([]:List ε).toArray }).push { cls:=.type "set_iterator",data:=.fields #[rawInt (0:Nat),rawInt (0:Nat),.ref a,rawInt es.size,rawInt ep]}).get? s.heap.objs.size
   = some { cls:=.type "list",data:=.seq ([]:List ε).toArray }:=μ _ (ag _ rfl)
 have keep0:∀b ob,s.heap.get? b=some ob->((s.heap.push { cls:=.type "list",data:=.seq ([]:List ε).toArray }).push { cls:=.type "set_iterator",data:=.fields #[rawInt (0:Nat),rawInt (0:Nat),.ref a,rawInt es.size,rawInt ep]}).get? b=some ob:=
  fun b ob e=>μ _ (μ _ e)
 have hI:(s.heap.push { cls:=.type "list",data:=.seq ([]:List ε).toArray }).objs.size=s.heap.objs.size+1:=dN ..;generalize (s.heap.push { cls:=.type "list",data:=.seq ([]:List ε).toArray }).objs.size=it at hI hit ⊢;generalize ((s.heap.push { cls:=.type "list",data:=.seq ([]:List ε).toArray }).push { cls:=.type "set_iterator",data:=.fields #[rawInt (0:Nat),rawInt (0:Nat),.ref a,rawInt es.size,rawInt ep]})=hp at S2 hit hS0 keep0 ⊢;refine δ (bO ?_);have hT2:kW { s with heap:=hp } (.ref a) "set":=⟨o,S2.at_,S.ex.1⟩;unfold df.List.listLengthHint;refine δ (wpAny_specialOf hT2 F.slot_set_len.lookup ?_);generalize pq:("set.__len__":String)=id0;dsimp only;rw[show splitId id0=some ("set","__len__") from by subst pq;decide +kernel];subst pq;dsimp only;refine δ (lp (b:=true) hT2 (by rw[rl];kernel_rfl) ?_)
 rw[if_neg (by decide)];show ρ _ A.in1 (typeOf (.ref a) >>= _) _ _ _;refine δ (jL hT2 (ι ?_));show ρ _ A.in1 (rule "list.extend.makes-room" >>= fun _=>df.List.listTouch (.ref s.heap.objs.size) >>= fun _=>again (.builtin "list.extend.loop" ⟨[.ref s.heap.objs.size,.ref it,.ref s.heap.objs.size],[]⟩)) _ _ _;refine δ (mf (δ ?_));show ρ _ A.in1 (updateSeq s.heap.objs.size (·.push .none) >>= fun _=>updateSeq s.heap.objs.size (·.pop)) _ _ _;refine δ (wpAny_updateSeq (s:={ s with heap:=hp }) hS0 rfl ?_);have q1:=cg (bA (·.push aU)) hS0 rfl;refine wpAny_updateSeq (s:={ s with heap:=hp.update s.heap.objs.size (bA (·.push aU))}) q1 rfl ?_;have q2:=cg (bA (·.pop)) q1 rfl;have oth:∀b ob,b≠s.heap.objs.size->hp.get? b=some ob->((hp.update s.heap.objs.size (bA (·.push aU))).update s.heap.objs.size (bA (·.pop))).get? b=some ob:=
  fun b ob hb e=>(bH _ _ (de hb)).trans ((bH _ _ (de hb)).trans e)
 have q3:∃c,((hp.update s.heap.objs.size (bA (·.push aU))).update s.heap.objs.size (bA (·.pop))).get? s.heap.objs.size=some { cls:=.type "list",dict:=none,data:=.seq #[] c,slots:=#[]}:=⟨_,q2⟩;clear q2;generalize (hp.update s.heap.objs.size (bA (·.push aU))).update s.heap.objs.size (bA (·.pop))=hp2 at q3 oth ⊢;obtain⟨c0,q2⟩:=q3;have hfp:∀b∈[it,a],b≠s.heap.objs.size:=fun b hb e=>by
  rcases aa.mp hb with z|z
  ·lia
  ·have hlt:b<s.heap.objs.size:=by
    rw[cF.mp z];exact hal
   lia
 have W:=(Tg (prog:=prog) (w:=w) (A:=A.in1) (by simpa using hh) (it:=it) (a:=a) (o:=o) (ep:=ep) T).toS;refine ι ⟨nU F.plain_extend_loop _,codeAny_extend_loopS W (by rw[cq];lia) _ (fun hm=>hfp _ hm rfl) _ es.size 0 _ _ _ rfl (bp _) ?_ q2 (ItemsOf.nil _) fun s' acc' c' hm hS' hacc=>?_⟩
 ·refine⟨0,oth _ _ (hfp _ Γ) hit,?_,S2.kept fun b hb ob e=>oth b ob (hfp b (Δ _ hb)) e⟩;by_cases hb:kG w=true
  ·exact .inl hb
  ·refine .inr ?_;obtain⟨b0,b1,b2⟩:=Ay (j:=0) T.rise;refine bf fun cQ=>?_;have hpos:0<iI t.place 0:=by lia
   have h0:0<t.place.size:=by lia
   have:=b1 0 (t.place[0]) hpos (by simp[h0]);lia
 ·show ρ _ A (load s.heap.objs.size >>= _) _ _ s';refine δ (wpAny_load hS' ?_);refine ι ?_;have hlen:(iP w a ep es).length=es.size:=by rw[(oC w a ep es).length_eq];simp
  have eacc:acc'.toList=(iP w a ep es).map (·.2):=by
   refine iz fun i=>?_;rw[aE,aY];cases ha:acc'[i]? with
   |none=>
    have h1:=je.mp ha;rw[hacc.1] at h1;rw[dW.mpr (by lia)];rfl
   |some v=>
    obtain⟨p,e1,e2⟩:=hacc.2 i v ha;rw[e1,e2];rfl
  show Q acc'.toList s';rw[eacc];refine h s' ⟨fun b ob _ e=>?_,hm.gens,hm.drawn,hm.os,?_⟩
  ·have hlt:=Θ e;refine hm.heap b ob ?_ (oth b ob (bh hlt) (keep0 b ob e));intro z;rcases aa.mp z with z|z
   ·rw[z] at hlt;exact cy _ hlt
   ·have:b=it:=by simpa using z
    rw[this,hI] at hlt;exact cy _ (Nat.lt_of_succ_lt hlt)
  ·exact hm.toks
end
end jK
namespace jK
open PySem pE
section
variable {prog:ah} {w:ax} {A:aL} {E:ε->θ->Prop} {s:θ}
def gH(w:ax):aK:={ cls:=.type "set",dict:=none,data:=.set #[] 0 (.fresh 0 0 (!(kG w)))}
theorem Tf(a:ε){Q₁:ε->θ->Prop}(h:Q₁ (.ref s.heap.objs.size) { s with heap:=s.heap.push (gH w)}):
  iG (model prog w) A (.call (.builtin "set.__new__") ⟨[.type "set",a],[]⟩) (wants Q₁ E) s:=by
 refine qm ?_;show ρ _ A.in1 (checkBuiltinCall "set.__new__" ⟨[.type "set",a],[]⟩ >>= fun _=>again (.builtin "set.__new__" ⟨[.type "set",a],[]⟩)) _ _ s;refine δ (kJ (F.newCall_set_1 a) (ι ⟨nU F.plain_set_new _,hZ F.entry_set_new ?_⟩));rw[gE F.plain_set_new _];unfold df.«set.__new__» df.Frozenset.newClass;have hsub:=sub_set_self;obtain⟨hp,g,d,tk,os⟩:=s;dsimp only;wp_walk;refine pJ (ι ?_);dsimp only;simp only[newObj];refine δ (wpAny_alloc (ι ?_));exact ι h
theorem Te(led:Bool):Tab (bI.fresh 0 0 led) []:=
 ⟨.inl rfl,rfl,u6,(fun j hj=>(nomatch hj)),rfl,(by show 0*5<7*3;decide),(fun j h hj=>(nomatch hj))⟩
structure wI(ps xs:List (List Int×ζ)):Prop where
 sub:∀p∈xs,p∈ps
 all:∀p∈ps,p.1∈xs.map (·.1)
 len:xs.length≤ps.length
theorem wI.add{ps xs xs':List (List Int×ζ)}{p:List Int×ζ}(d:wI ps xs)(h1:p.1∈xs.map (·.1)->xs'.Perm xs)(h2:p.1∉xs.map (·.1)->xs'.Perm (p::xs)):wI (ps++[p]) xs':=by
 by_cases hm:p.1∈xs.map (·.1)
 ·have pm:=h1 hm;refine⟨fun q hq=>eG _ (d.sub q (pm.mem_iff.mp hq)),fun q hq=>?_,?_⟩
  ·rw[(pm.map _).mem_iff];rcases cI.mp hq with hq|hq
   ·exact d.all q hq
   ·have:q=p:=by simpa using hq
    rw[this];exact hm
  ·rw[pm.length_eq,Ω];have:=d.len;lia
 ·have pm:=h2 hm;refine⟨fun q hq=>?_,fun q hq=>?_,?_⟩
  ·rcases aa.mp (pm.mem_iff.mp hq) with e|e
   ·exact aV _ (by simp[e])
   ·exact eG _ (d.sub q e)
  ·rw[(pm.map _).mem_iff,ak];rcases cI.mp hq with hq|hq
   ·exact Δ _ (d.all q hq)
   ·have:q=p:=by simpa using hq
    rw[this];exact Γ
  ·rw[pm.length_eq,Ω,aB,dY];have:=d.len;lia
theorem Td{I:ζ}{fp:List ζ}{n:Nat}{P:Nat->ε->Prop}{St:Nat->Φ->Prop}(W:Walks prog w A.in1 I fp [I] n P St)(S:ζ)(hSf:S∉fp)(ps:List (List Int×ζ))(hps:ps.length=n)(hn:n≤60)
  (hu:A.in1.units<cLine) (hval:∀(i:Nat) v,P i v->∃p,ps[i]?=some p/\v=.ref p.2) (hpf:∀p∈ps,p.2≠I/\p.2≠S) {R:Result->θ->Prop}:
  ∀(k i:Nat) (s:θ) (xs:List (List Int×ζ)),n-i=k->i≤n->St i s.heap->m8 prog w s.heap S xs->wI (ps.take i) xs->(∀p∈ps,i8 prog w s.heap p.1 p.2) ->
   (∀h' tk xs',(∀b ob,b≠S->b≠I->s.heap.get? b=some ob->h'.get? b=some ob)->m8 prog w h' S xs'->wI ps xs'->R (.ok (.ret .none)) { s with heap:=h',toks:=tk }) ->
   iG (model prog w) A (.builtin "set.update.loop" ⟨[.ref S,.ref I],[]⟩) R s:=by
 have hSI:S≠I:=fun e=>hSf (W.sub _ (by rw[e];simp));have on_kept:∀{h h':Φ} {xs:List (List Int×ζ)},m8 prog w h S xs->(∀p∈xs,p∈ps)->(∀b ob,b≠I->h.get? b=some ob->h'.get? b=some ob)->m8 prog w h' S xs:=fun {h h' xs} ⟨o,es,ep,t,q,T⟩ sub kp=>
  ⟨o,es,ep,t,q.kept fun b hb ob e=>kp b ob (by
   rcases aa.mp hb with z|z
   ·rw[z];exact hSI
   ·obtain⟨p,hp,rfl⟩:=br.mp z;exact (hpf p (sub p hp)).1) e,T⟩
 intro k
 induction k with
 |zero=>
  intro i s xs hk hi hst hS hd hkeys hR;have hin:i=n:=by lia
  subst hin;refine hZ jN ?_;rw[gE fU _];show ρ _ A.in1 (pyNext (.ref I) >>= _) _ _ s;refine δ (W.done s _ _ hst fun h' tk kp=>?_);show ρ _ A.in1 (ret aU) _ _ _;have hd':wI ps xs:=by
   rw[←hps,pT] at hd;exact hd
  exact ι (hR h' tk xs (fun b ob _ hb e=>kp b ob (by simpa using hb) e) (on_kept hS hd'.sub fun b ob hb e=>kp b ob (by simpa using hb) e) hd')
 |succ k ih=>
  intro i s xs hk hi hst hS hd hkeys hR;have hlt:i<n:=by lia
  refine hZ jN ?_;rw[gE fU _];show ρ _ A.in1 (pyNext (.ref I) >>= _) _ _ s;refine δ (W.item i s _ _ hlt hst fun v h1 tk1 hP hst1 kp1=>?_);obtain⟨p,hp,rfl⟩:=hval i v hP;have hpm:p∈ps:=bZ hp;have kp1':∀b ob,b≠I->s.heap.get? b=some ob->h1.get? b=some ob:=fun b ob hb e=>kp1 b ob (by simpa using hb) e;have key1:∀q∈ps,i8 prog w h1 q.1 q.2:=fun q hq=>by
   obtain⟨oy,items,m,ho,r⟩:=hkeys q hq;exact⟨oy,items,m,kp1' _ _ (hpf q hq).1 ho,r⟩
  have sub0:∀q∈xs,q∈ps:=fun q hq=>mn (hd.sub q hq);have hS1:=on_kept hS sub0 kp1';show ρ _ A.in1 (holding [aF p.2] (setAdd S (.ref p.2)) >>= _) _ _ _;have hlen:xs.length<64:=by
   have h1:=hd.len;rw[eR] at h1;lia
  refine δ (bO (Sy (s:={ s with heap:=h1,toks:=tk1 }) hS1 hlen hu (key1 p hpm) fun b h2 tk2 xs2 _ sb hS2 q1 q2=>?_));have hd2:wI (ps.take (i+1)) xs2:=by
   rw[List.take_add_one,hp];exact hd.add q1 q2
  obtain⟨oS,_,_,_,SS,_⟩:=hS1;refine ι ⟨nU fU _,ih (i+1) _ xs2 (by lia) hlt (W.frame _ _ _ hst1 fun c hc ob e=>(sb.2 c (fun z=>hSf (z▸hc))).trans e) hS2 hd2 (fun q hq=>Ax SS.at_ SS.dat sb (key1 q hq)) fun h' tk xs' kp' a1 a2=>?_⟩;exact hR h' tk xs' (fun c ob c1 c2 e=>kp' c ob c1 c2 ((sb.2 c c1).trans (kp1' c ob c2 e))) a1 a2
set_option maxHeartbeats 6400000 in
theorem xH{l:ζ}{vs:List ε}{ps:List (List Int×ζ)}{Q:ε->θ->Prop}(hh:A.handled=none)(hl:s.heap.IsList l vs.toArray)(hv:vs=ps.map fun p=>aF p.2)(hk:∀p∈ps,i8 prog w s.heap p.1 p.2)(hn:ps.length≤60)
  (hu:A.units+4<cLine)
  (h:∀h' tk xs,(∀b ob,s.heap.get? b=some ob->h'.get? b=some ob)->m8 prog w h' s.heap.objs.size xs->wI ps xs->Q (.ref s.heap.objs.size) { s with heap:=h',toks:=tk }):
  ρ (model prog w) A (call (.type "set") [.ref l]) Q E s:=by
 obtain⟨c,tl,hmro⟩:=F.called_set.mro;have hmade:=F.called_set.made;have hsub:=F.called_set.sub;refine iT (qm ?_);show ρ _ _ (callAny (.type "set") _) _ _ _;refine ι ⟨nL _ (by decide +kernel),hZ F.entry_type_call ?_⟩;rw[aL.under_plain (weight_type_call_type "set" [.ref l] []) rfl];have h1:=F.called_set.notType;have h2:=F.called_set.canCreate;have hct:=F.typeCall_set_1 (.ref l)
 repeat (any_goals (first|assumption|wp_step))
 refine fS (Tf (.ref l) (E:=E) (Q₁:=fun obj s₁=>obj=.ref s.heap.objs.size/\s₁={ s with heap:=s.heap.push (gH w)}) ⟨rfl,rfl⟩) fun r s₁ hr=>?_;cases r with
 |error e=>exact hr
 |ok fl=>
  cases fl with
  |ret obj=>
   obtain⟨rfl,rfl⟩:=hr;have hS:(s.heap.push (gH w)).get? s.heap.objs.size=some (gH w):=ag _ rfl;have hT:kW { s with heap:=s.heap.push (gH w)} (.ref s.heap.objs.size) "set":=⟨_,hS,rfl⟩;have hli:=F.called_set.init.lookup;have hbi:=F.called_set.init.bind (.ref s.heap.objs.size)
   repeat (any_goals (first|assumption|wp_step))
   refine fS (mj (R:=wants (fun r s₂=>r=.none/\∃h' tk xs,s₂={ s with heap:=h',toks:=tk }/\(∀b ob,s.heap.get? b=some ob->h'.get? b=some ob)/\m8 prog w h' s.heap.objs.size xs/\wI ps xs) E)
    F.called_set.init.plain F.entry_set_init (check_set_init_1 hT ?_)) fun r₂ s₂ hr₂=>?_
   ·obtain⟨ol,hol,hcl,nl,hdl⟩:=hl;obtain⟨ocls,odict,odata,oslots⟩:=ol;simp only at hcl hdl;subst hcl;subst hdl;have hol':(s.heap.push (gH w)).get? l=some { cls:=.type "list",dict:=odict,data:=.seq vs.toArray nl,slots:=oslots }:=μ _ hol;have hsls:=F.sub_list_set;have hslf:=F.sub_list_frozenset;have cQ:(sM "list" == sM "dict")=false:=by decide
    have hl1:(s.heap.push (gH w)).IsList l vs.toArray:=⟨_,hol',rfl,nl,rfl⟩;have hS2:(s.heap.push (gH w)).get? s.heap.objs.size=some { cls:=.type "set",dict:=none,data:=.set #[] 0 (.fresh 0 0 (!(kG w)))}:=hS;unfold df.«set.__init__» noKeywords df.Frozenset.updateFrom;generalize hPI:pyIter=PI;wp_walk;subst hPI;refine fw hl1 ?_;refine δ (wpAny_runValue ?_);have hlS:l<s.heap.objs.size:=Θ hol;have hh3:A.in1.in1.in1.handled=none:=by simp[hh]
    have hu3:A.in1.in1.in1.units<cLine:=by
     show A.units+1+1+1<cLine;lia
    have hsz:(s.heap.push (gH w)).objs.size=s.heap.objs.size+1:=dN ..;have hneI:l≠(s.heap.push (gH w)).objs.size:=by
     rw[hsz];exact bh (ix hlS)
    have hSf:s.heap.objs.size∉[(s.heap.push (gH w)).objs.size,l]:=by
     rw[hsz];intro z;rcases aa.mp z with z|z
     ·exact absurd z (bh (ls _))
     ·have:s.heap.objs.size=l:=by simpa using z
      exact absurd this (eA hlS)
    have hlen:vs.toArray.size=ps.length:=by rw[hv];simp
    refine Td (Walks.list hh3 _ l hneI vs.toArray) s.heap.objs.size hSf ps hlen.symm (by rw[hlen];exact hn) hu3 (fun i v e=>?_) (fun p hp=>?_) (vs.toArray.size-0) 0 _ [] rfl (bp _)
     ⟨⟨_,ag _ rfl,rfl,rfl⟩,hl1.push _⟩ ?hS0 ⟨(fun p hp=>(nomatch hp)),(fun p hp=>by rw[List.take_zero] at hp;cases hp),bp _⟩ (fun p hp=>?_) ?hR
    case hS0=>
     refine⟨_,#[],0,_,⟨μ _ hS2,⟨rfl,rfl,rfl⟩,rfl,rfl,(fun p hp=>(nomatch hp)),j8,rfl,rfl⟩,Te _⟩
    case hR=>
     intro h' tk xs q1 q2 q3;refine ι ?_;show ρ _ _ (ret aU) _ _ _;refine ι ⟨rfl,h',tk,xs,rfl,fun b ob e=>?_,q2,q3⟩;have hb:=Θ e;refine q1 b ob (bh hb) ?_ (μ _ (μ _ e));rw[hsz];exact bh (ix hb)
    ·rw[hv,List.getElem?_toArray,aE] at e;cases hp:ps[i]? with
     |none=>rw[hp] at e;cases e
     |some p=>rw[hp] at e;exact⟨p,rfl,(aJ e).symm⟩
    ·obtain⟨oy,_,_,ho,_⟩:=hk p hp;have hb:=Θ ho;rw[hsz];exact⟨bh (ix hb),bh hb⟩
    ·obtain⟨oy,items,m,ho,r⟩:=hk p hp;exact⟨oy,items,m,μ _ (μ _ ho),r⟩
   ·cases r₂ with
    |error e=>exact hr₂
    |ok fl₂=>
     cases fl₂ with
     |ret r=>
      obtain⟨rfl,h',tk,xs,rfl,q1,q2,q3⟩:=hr₂
      repeat (any_goals (first|assumption|wp_step))
      exact h _ _ _ q1 q2 q3
     |_=>exact hr₂.elim
  |_=>exact hr.elim
end
end jK
namespace sD
open PySem PySem.W PyProof.Rows jK Lr
def lx:List Int->List Int->Bool
 |[],[]=>false
 |[],_::_=>true
 |_::_,[]=>false
 |x::xs,y::ys=>if x=y then lx xs ys else decide (x<y)
theorem JW:∀{x y:List Int},lx x y=true->lx y x=false
 |[],[],h=>by cases h
 |[],_::_,_=>rfl
 |_::_,[],h=>by cases h
 |x::xs,y::ys,h=>by
  unfold lx at h ⊢;by_cases e:x=y
  ·rw[if_pos e] at h;rw[if_pos e.symm];exact JW h
  ·rw[if_neg e] at h;rw[if_neg (de e)];have:=of_decide_eq_true h;exact decide_eq_false (by lia)
theorem JV:∀{a b c:List Int},lx b a=false->lx c b=false->lx c a=false
 |[],b,[],_,_=>rfl
 |[],[],c::cs,_,h=>h
 |[],b::bs,c::cs,h,_=>rfl
 |a::as,[],c,h,_=>by cases h
 |a::as,b::bs,[],_,h=>by cases h
 |a::as,b::bs,c::cs,h1,h2=>by
  unfold lx at h1 h2 ⊢;by_cases e1:b=a
  ·rw[if_pos e1] at h1;by_cases e2:c=b
   ·rw[if_pos e2] at h2;rw[if_pos (e2.trans e1)];exact JV h1 h2
   ·rw[if_neg e2] at h2;have:=of_decide_eq_false h2;by_cases e3:c=a
    ·lia
    ·rw[if_neg e3];exact decide_eq_false (by lia)
  ·rw[if_neg e1] at h1;have:=of_decide_eq_false h1;by_cases e2:c=b
   ·rw[if_neg (by lia)];exact decide_eq_false (by lia)
   ·rw[if_neg e2] at h2;have:=of_decide_eq_false h2;by_cases e3:c=a
    ·lia
    ·rw[if_neg e3];exact decide_eq_false (by lia)
section
variable {prog:ah} {w:ax} {A:aL} {E:ε->θ->Prop} {s:θ}
theorem Tc{Q:Bool->θ->Prop}:∀(xs ys:List Int) (us vs:List ε) (i:Nat) (fin:Bool),ItemsAre (intKind prog w) xs us->ItemsAre (intKind prog w) ys vs ->
  (fin=decide (us.length<vs.length)∨∃n m,fin=decide (n+us.length<n+vs.length)/\m=n)->Q (lx xs ys) s->KatLex prog w A true fin Q (us.zip vs) i s:=by
 intro xs
 induction xs with
 |nil=>
  intro ys us vs i fin h1 h2 hf h;cases h1;cases h2 with
  |nil=>
   have:fin=false:=by
    rcases hf with hf|⟨n,m,hf,_⟩<;>simp at hf<;>exact hf
   rw[this];exact kat_nil h
  |cons h3 h4=>
   have:fin=true:=by
    rcases hf with hf|⟨n,m,hf,_⟩<;>rw[hf]<;>simp
   rw[this];exact kat_nil h
 |cons x xs ih=>
  intro ys us vs i fin h1 h2 hf h;cases h1 with
  |cons h1 h1'=>
  cases h2 with
  |nil=>
   have:fin=false:=by
    rcases hf with hf|⟨n,m,hf,_⟩<;>rw[hf]<;>simp
   rw[this];exact kat_nil h
  |cons h3 h4=>
   obtain⟨t,rfl⟩:=iw h1;obtain⟨t',rfl⟩:=iw h3;refine kat_cons (wpAny_eqBool_int ?_);unfold lx at h;rename_i _ y ys _;by_cases e:x=y
   ·rw[if_pos e] at h;have:(x==y)=true:=by simpa using e
    rw[this];refine kat_yes (ih ys _ _ (i+1) fin h1' h4 (.inr ?_) h);rcases hf with hf|⟨n,m,hf,_⟩
    ·exact⟨1,1,by rw[hf];simp[Nat.add_comm],rfl⟩
    ·exact⟨n+1,n+1,by rw[hf];congr 1;simp only[aB];apply propext;lia,rfl⟩
   ·rw[if_neg e] at h;have:(x==y)=false:=by simpa using e
    rw[this];refine kat_no ?_;by_cases hi:i=0
    ·subst hi;exact oneLt_int h
    ·have hb:(true&&i==0)=false:=by simp[hi]
     rw[hb];exact kat_one _ _ (lt_int h)
theorem Tb{Q:Bool->θ->Prop}{x y:List Int}{a b:ζ}(hx:i8 prog w s.heap x a)(hy:i8 prog w s.heap y b)(h:Q (lx x y) s):ρ (model prog w) A (keyLt' (tuples' true) (.ref a) (.ref b)) Q E s:=by
 obtain⟨o,its,n,ho,_,hd,hi⟩:=hx;obtain⟨o',its',n',ho',_,hd',hi'⟩:=hy;exact kat_lt ho hd ho' hd' (Tc x y its.toList its'.toList 0 _ hi hi' (.inl (by simp)) h)
def wc{α:Type}(lt:α->α->Bool)(d:α)(ps:List α)(i j:Nat):Bool:=lt (ps.getD i d) (ps.getD j d)
structure BS{α:Type}(lt:α->α->Bool):Prop where
 zF:∀x y,lt x y=true->lt y x=false
 vf:∀x y z,lt y x=false->lt z y=false->lt z x=false
theorem Ta{α:Type}{lt:α->α->Bool}(O:BS lt)(d:α)(ps:List α)(n:Nat):Ord n (wc lt d ps):=⟨fun a b _ _ h=>O.zF _ _ h,fun a b c _ _ _ h1 h2=>O.vf _ _ _ h1 h2⟩
abbrev K8(x y:List Int×ζ):Bool:=lx x.1 y.1
abbrev fT(p:List Int×ζ):ε:=.ref p.2
theorem X1:BS K8:=⟨fun _ _ h=>JW h,fun _ _ _ h1 h2=>JV h1 h2⟩
def Yu(n:Nat)(lt:Nat->Nat->Bool)(i j:Nat)(C:Bool->θ->Prop)(s:θ):Prop:=i<n/\j<n/\C (lt i j) s
theorem conv{α:Type}{n:Nat}{lt:Nat->Nat->Bool}{κ:pM}{vs:List ε}{Q:α->θ->Prop}(ha:∀i j,i<n->j<n->∀C:Bool->θ->Prop,C (lt i j) s->mX prog w A κ vs i j C s):
  ∀t:KasT α,t.kasWp (Yu n lt) Q s->t.kasWp (mX prog w A κ vs) Q s
 |.ret a,h=>h
 |.ask i j k,h=>by
  obtain⟨h1,h2,h3⟩:=h;exact ha i j h1 h2 _ (conv ha (k (lt i j)) h3)
theorem DD{α:Type}{f:α->ε}{d:α}{ps:List α}{i:Nat}(hi:i<ps.length):(ps.map f).getD i aU=f (ps.getD i d):=by
 simp[jS,hi]
theorem getD_mem{ps:List (List Int×ζ)}{i:Nat}(hi:i<ps.length):ps.getD i ([],0)∈ps:=by
 simp[jS,hi]
theorem Sh{ps:List (List Int×ζ)}(hk:∀p∈ps,i8 prog w s.heap p.1 p.2):∀i j,i<ps.length->j<ps.length->∀C:Bool->θ->Prop,C (wc K8 ([],0) ps i j) s->mX prog w A (tuples' true) (ps.map fT) i j C s:=fun i j hi hj C h=>by
 unfold mX;rw[DD (d:=([],0)) hi,DD (d:=([],0)) hj];exact Tb (hk _ (getD_mem hi)) (hk _ (getD_mem hj)) h
theorem Jk{h:Φ}:∀{ps:List (List Int×ζ)},(∀p∈ps,i8 prog w h p.1 p.2/\p.1≠[])->∃fs,KatTups h (ps.map fun p=>aF p.2) fs/\fs.length=ps.length/\∀v∈fs,∃i t,v=.int i t
 |[],_=>⟨[],.nil,rfl,fun v hv=>nomatch hv⟩
 |p::ps,hk=>by
  obtain⟨fs,h1,h2,h3⟩:=Jk (ps:=ps) fun q hq=>hk q (Δ _ hq);obtain⟨⟨o,its,n,ho,hc,hd,hi⟩,cQ⟩:=hk p Γ;obtain⟨ks,a⟩:=p;cases ks with
  |nil=>exact absurd rfl cQ
  |cons k ks=>
   obtain⟨its⟩:=its;cases hi with
   |cons h4 h5=>
    rename_i v vs;obtain⟨t,e⟩:=iw h4;refine⟨v::fs,KatTups.cons ho hc hd (by simp) h1,by simp[h2],fun u hu=>?_⟩;rcases aa.mp hu with q|q
    ·exact⟨k,t,q.trans e⟩
    ·exact h3 u q
theorem Sg{ps:List (List Int×ζ)}(cQ:ps≠[])(hk:∀p∈ps,i8 prog w s.heap p.1 p.2/\p.1≠[]){Q:pM->θ->Prop}(h:Q (tuples' true) s):ρ (model prog w) A (keyKind' (ps.map fT).toArray) Q E s:=by
 obtain⟨fs,h1,h2,h3⟩:=Jk hk;have hl:0<fs.length:=by
  rw[h2];exact List.length_pos_iff.mpr cQ
 refine kat_kind (T:=.type "int") h1 hl (fun v hv=>?_) rfl h;obtain⟨i,t,rfl⟩:=h3 v hv;exact .now
structure xu{α:Type}(lt:α->α->Bool)(ps qs:List α):Prop where
 perm:qs.Perm ps
 rise:qs.Pairwise fun x y=>lt y x=false
abbrev ME(ps qs:List (List Int×ζ)):Prop:=xu K8 ps qs
theorem Sf{α:Type}{lt:α->α->Bool}{d:α}{ps:List α}{p:Array Nat}(v:Va ps.length p)(S:So (wc lt d ps) p ps.length):xu lt ps (p.toList.map fun i=>ps.getD i d):=by
 refine⟨?_,?_⟩
 ·refine (v.perm.map _).trans ?_;have:(aA ps.length).map (fun i=>ps.getD i d)=ps:=by
   refine iz fun i=>?_;by_cases hi:i<ps.length
   ·simp[aE,fF hi,jS,hi]
   ·rw[dW.mpr (by simpa using hi),dW.mpr (by lia)]
  rw[this]
 ·rw[iy,gA];intro i j hi hj hij;have hs:=v.size;have h1:i<ps.length:=by rw[←hs];simpa using hi
  have h2:j<ps.length:=by rw[←hs];simpa using hj
  have e1:p.toList[i]=g p i:=by
   have:=v.get h1;simp[g,my,hs,h1]
  have e2:p.toList[j]=g p j:=by simp[g,my,hs,h2]
  rw[e1,e2];exact S i j (pS hij) h2
theorem Se{α:Type}{f:α->ε}{d:α}{ps:List α}{p:Array Nat}(v:Va ps.length p):(p.toList.map fun i=>(ps.map f).getD i aU)=(p.toList.map fun i=>ps.getD i d).map f:=by
 rw[bV];refine eN fun i hi=>?_;have:i<ps.length:=by
  have:=v.perm.mem_iff.mp hi;simpa using this
 exact DD this
theorem Sd{α:Type}{lt:α->α->Bool}{f:α->ε}{d:α}{κ:pM}(O:BS lt){a:ζ}{n:Nat}{ps:List α}{P:PySem.Fin->θ->Prop}(ho:s.heap.get? a=some (seqObj "list" (ps.map f).toArray n))
  (hk:∀h',(∀b o,b≠a->s.heap.get? b=some o->h'.get? b=some o)->(∀(Q:pM->θ->Prop) (E':ε->θ->Prop),Q κ { s with heap:=h' }->ρ (model prog w) A (keyKind' (ps.map f).toArray) Q E' { s with heap:=h' }) ∧
   ∀i j,i<ps.length->j<ps.length->∀C:Bool->θ->Prop,C (wc lt d ps i j) { s with heap:=h' }->mX prog w A κ (ps.map f) i j C { s with heap:=h' }) (h2:2≤ps.length) (h64:ps.length<64)
  (h:∀qs h' c,xu lt ps qs->h'.get? a=some (seqObj "list" (qs.map f).toArray c)->(∀b o,b≠a->s.heap.get? b=some o->h'.get? b=some o)->P (.done (.ret .none)) { s with heap:=h' }):
  ρ (model prog w) A (df.«list.sort» ⟨[.ref a],[]⟩) P E s:=by
 have ha:a<s.heap.objs.size:=Θ ho;have s1:=dj s.heap a (bA fun _=>(#[]:Array ε));obtain⟨e1,ho1⟩:∃e1,(s.heap.update a (bA fun _=>(#[]:Array ε))).get? a=some (seqObj "list" #[] e1):=⟨_,mi ho fun _=>#[]⟩;generalize hvs:(ps.map f)=vs at ho;have hlen:vs.length=ps.length:=by rw[←hvs,π]
 have hu3:∀b o,b≠a->s.heap.get? b=some o->(((s.heap.update a (bA fun _=>(#[]:Array ε))).push (seqObj "tuple" vs.toArray 0)).push (seqObj "list" #[] 0)).get? b=some o:=fun b o hb e=>
  μ _ (μ _ ((s1.2 b hb).trans e))
 have ho3:(((s.heap.update a (bA fun _=>(#[]:Array ε))).push (seqObj "tuple" vs.toArray 0)).push (seqObj "list" #[] 0)).get? a=some (seqObj "list" #[] e1):=μ _ (μ _ ho1);rw[list_sort_plain];refine δ (listItems_at ho rfl ?_);refine δ (nV ho rfl ?_ (by rw[ψ,cq];lia) (bp _));refine δ (qN ho1 rfl ?_);refine δ (mW ?_ (by show vs.length≤_;rw[cq];lia));refine δ (sY ?_ (bp _));refine bO ?_;show ρ (model prog w) A _ P E { s with heap:=((s.heap.update a (bA fun _=>(#[]:Array ε))).push (seqObj "tuple" vs.toArray 0)).push (seqObj "list" #[] 0)};generalize ((s.heap.update a (bA fun _=>(#[]:Array ε))).push (seqObj "tuple" vs.toArray 0)).push (seqObj "list" #[] 0)=h3 at hu3 ho3 ⊢;obtain⟨hk1,hk2⟩:=hk h3 hu3;dsimp only;have hn2:¬vs.toArray.size<2:=by rw[ψ];lia
 rw[if_neg hn2,if_neg hn2];refine δ ?_;rw[←hvs];refine hk1 _ _ ?_;have hsort:(kas_sort vs.length).kasWp (mX prog w A κ (ps.map f)) (fun p s'=>s'={ s with heap:=h3 }/\Va ps.length p/\So (wc lt d ps) p ps.length) { s with heap:=h3 }:=by
  refine conv (lt:=wc lt d ps) (n:=ps.length) hk2 _ ?_
  rw[hlen];exact S6 (Ta O d ps ps.length) (fun i j hi hj C s' hC=>⟨hi,hj,hC⟩) (by lia) fun p v S=>⟨rfl,v,S⟩
 have hsort:(kas_sort (ps.map f).length).kasWp (mX prog w A κ (ps.map f)) (fun p s'=>s'={ s with heap:=h3 }/\Va ps.length p/\So (wc lt d ps) p ps.length) { s with heap:=h3 }:=by
  rw[hlen] at hsort;rw[π];exact hsort
 refine δ (cO (kat_run (Q:=fun st' s'=>∃p:Array Nat,p.size=(ps.map f).length/\arrOf st'=p.map (kas_item ((ps.map f).toArray.zip (ps.map f).toArray))/\failedOf st'=none/\s'={ s with heap:=h3 }/\Va ps.length p/\So (wc lt d ps) p ps.length)
  rfl (by rw[π];exact h2) (by rw[π];exact h64) (fun p' st' s' a1 a2 a3 a4=>⟨p',a1,a2,a3,a4⟩) hsort) ?_ fun _ _ e=>e)
 rintro⟨⟨⟩,st'⟩ s' ⟨p,hp,har,hf,rfl,va,so⟩;dsimp only;have hout:=kat_snds rfl har;rw[Se va] at hout;have hS:=Sf va so;generalize (p.toList.map fun i=>ps.getD i d)=qs at hout hS;have hsz:(jR (qs.map f)).size=ps.length:=by rw[ψ,π,hS.perm.length_eq]
 rw[hout];have s2:=dj h3 a (bA fun _=>jR (qs.map f));obtain⟨c2,hc2⟩:∃c2,(h3.update a (bA fun _=>jR (qs.map f))).get? a=some (seqObj "list" (jR (qs.map f)) c2):=⟨_,mi ho3 fun _=>jR (qs.map f)⟩;refine δ (qN ho3 rfl ?_);refine δ (nV ho3 rfl ?_ (bp _) (av (Nat.le_of_eq hsz) (by rw[cq];lia)));rw[hf];simp only[bne_self_eq_false,dD,if_false];exact ι (h qs _ c2 hS hc2 fun b o hb e=>(s2.2 b hb).trans (hu3 b o hb e))
theorem Sb{a:ζ}{n:Nat}{vs:List ε}{P:PySem.Fin->θ->Prop}(ho:s.heap.get? a=some (seqObj "list" vs.toArray n))(h2:vs.length<2)
  (h:∀h' c,h'.get? a=some (seqObj "list" vs.toArray c)->(∀b o,b≠a->s.heap.get? b=some o->h'.get? b=some o)->P (.done (.ret .none)) { s with heap:=h' }):
  ρ (model prog w) A (df.«list.sort» ⟨[.ref a],[]⟩) P E s:=by
 have s1:=dj s.heap a (bA fun _=>(#[]:Array ε));obtain⟨e1,ho1⟩:∃e1,(s.heap.update a (bA fun _=>(#[]:Array ε))).get? a=some (seqObj "list" #[] e1):=⟨_,mi ho fun _=>#[]⟩;have hu3:∀b o,b≠a->s.heap.get? b=some o->(((s.heap.update a (bA fun _=>(#[]:Array ε))).push (seqObj "tuple" vs.toArray 0)).push (seqObj "list" #[] 0)).get? b=some o:=fun b o hb e=>
  μ _ (μ _ ((s1.2 b hb).trans e))
 have ho3:(((s.heap.update a (bA fun _=>(#[]:Array ε))).push (seqObj "tuple" vs.toArray 0)).push (seqObj "list" #[] 0)).get? a=some (seqObj "list" #[] e1):=μ _ (μ _ ho1);rw[list_sort_plain];refine δ (listItems_at ho rfl ?_);refine δ (nV ho rfl ?_ (by rw[ψ,cq];lia) (bp _));refine δ (qN ho1 rfl ?_);refine δ (mW ?_ (by show vs.length≤_;rw[cq];lia));refine δ (sY ?_ (bp _));refine bO ?_;show ρ (model prog w) A _ P E { s with heap:=((s.heap.update a (bA fun _=>(#[]:Array ε))).push (seqObj "tuple" vs.toArray 0)).push (seqObj "list" #[] 0)};generalize ((s.heap.update a (bA fun _=>(#[]:Array ε))).push (seqObj "tuple" vs.toArray 0)).push (seqObj "list" #[] 0)=h3 at hu3 ho3 ⊢;dsimp only;have hn2:vs.toArray.size<2:=by rw[ψ];lia
 rw[if_pos hn2,if_pos hn2];refine δ (ι ?_);rw[StateT.run_pure];refine δ (ι ?_);dsimp only;have hout:(arrOf (SortSt.mk' general' (vs.toArray.zip vs.toArray) #[] 7 none)).map (·.2)=vs.toArray:=by
  show (vs.toArray.zip vs.toArray).map (·.2)=vs.toArray;refine Array.ext (by simp) fun i h1 h2=>?_;simp
 rw[hout];have s2:=dj h3 a (bA fun _=>vs.toArray);obtain⟨c2,hc2⟩:∃c2,(h3.update a (bA fun _=>vs.toArray)).get? a=some (seqObj "list" vs.toArray c2):=⟨_,mi ho3 fun _=>vs.toArray⟩;refine δ (qN ho3 rfl ?_);refine δ (nV ho3 rfl ?_ (bp _) (by rw[ψ,cq];lia));simp only[bne_self_eq_false,dD,if_false];exact ι (h _ c2 hc2 fun b o hb e=>(s2.2 b hb).trans (hu3 b o hb e))
theorem Sa{h h':Φ}{ks:List Int}{a:ζ}(keep:∀c o,h.get? c=some o->h'.get? c=some o)(hk:i8 prog w h ks a):i8 prog w h' ks a:=by
 obtain⟨o,it,m,ho,r⟩:=hk;exact⟨o,it,m,keep a o ho,r⟩
theorem R9{α:Type}{lt:α->α->Bool}{f:α->ε}{d:α}{κ:pM}(O:BS lt){l:ζ}{ps:List α}{Q:ε->θ->Prop}
  (hk:∀s':θ,2≤ps.length->(∀b o,s.heap.get? b=some o->s'.heap.get? b=some o)->(∀(Q:pM->θ->Prop) (E':ε->θ->Prop),Q κ s'->ρ (model prog w) A.in1.in1 (keyKind' (ps.map f).toArray) Q E' s') ∧
   ∀i j,i<ps.length->j<ps.length->∀C:Bool->θ->Prop,C (wc lt d ps i j) s'->mX prog w A.in1.in1 κ (ps.map f) i j C s') (h64:ps.length<64)
  (Es:∀(R:List ε->θ->Prop),(∀s',Moved [] (fun x y=>y=x) s s'->R (ps.map f) s')->ρ (model prog w) A.in1 (collect (.ref l)) R E s)
  (h:∀qs s' c D,xu lt ps qs->s.heap.get? D=none->s'.heap.get? D=some (seqObj "list" (qs.map f).toArray c)->Moved [] (fun x y=>y=x) s s'->Q (.ref D) s'):
  ρ (model prog w) A (call (.builtin "sorted") [.ref l]) Q E s:=by
 refine Calls.call_function_entry kind_sorted plain_sorted entry_sorted (args_sorted1 _) ?_;unfold df.«sorted»;refine δ (m:=checkCount "sorted" 1 1 _) (ι ?_);refine δ (Es _ fun s1 hm=>?_);refine δ (sY ?_ (by rw[π,cq];lia));have hoL:(s1.heap.push (seqObj "list" (ps.map f).toArray 0)).get? s1.heap.objs.size=some (seqObj "list" (ps.map f).toArray 0):=ag _ rfl;have keep0:∀b o,s.heap.get? b=some o->s1.heap.get? b=some o:=fun b o e=>hm.heap b o (fun z=>nomatch z) e;have lV:s.heap.get? s1.heap.objs.size=none:=by
  cases hz:s.heap.get? s1.heap.objs.size with
  |none=>rfl
  |some o=>exact absurd (Θ (keep0 _ _ hz)) (cy _)
 have keep:∀b o,s.heap.get? b=some o->(s1.heap.push (seqObj "list" (ps.map f).toArray 0)).get? b=some o:=fun b o e=>μ _ (keep0 b o e);show ρ _ _ _ _ _ { s1 with heap:=s1.heap.push (seqObj "list" (ps.map f).toArray 0)};refine δ (bO (bX slot_list_sort ⟨_,hoL,rfl⟩ entry_list_sort ?body (args_list_sort _)));have fin:∀qs h' c,xu lt ps qs->h'.get? s1.heap.objs.size=some (seqObj "list" (qs.map f).toArray c)->(∀b o,b≠s1.heap.objs.size->(s1.heap.push (seqObj "list" (ps.map f).toArray 0)).get? b=some o->h'.get? b=some o)->Q (.ref s1.heap.objs.size) { s1 with heap:=h' }:=fun qs h' c hS e kk=>
  h qs _ c _ hS lV e ⟨fun b o _ e1=>kk b o (bh (Θ (keep0 b o e1))) (keep b o e1),hm.gens,hm.drawn,hm.os,hm.toks⟩
 case body=>
  by_cases h2:2≤ps.length
  ·refine Sd O (s:={ s1 with heap:=s1.heap.push (seqObj "list" (ps.map f).toArray 0)}) hoL (fun h' kk=>hk { s1 with heap:=h' } h2 fun b o e=>kk b o (bh (Θ (keep0 b o e))) (keep b o e)) h2 h64 fun qs h' c hS e kk=>?_;exact⟨_,rfl,ι ⟨_,rfl,fin qs h' c hS e kk⟩⟩
  ·refine Sb (s:={ s1 with heap:=s1.heap.push (seqObj "list" (ps.map f).toArray 0)}) hoL (by rw[π];lia) fun h' c e kk=>?_;have hS:xu lt ps ps:=⟨.refl _,by
    rcases ps with _|⟨x,_|⟨y,r⟩⟩
    ·exact .nil
    ·exact List.pairwise_singleton _ _
    ·simp at h2⟩
   exact⟨_,rfl,ι ⟨_,rfl,fin ps h' c hS e kk⟩⟩
theorem xA{l:ζ}{ps:List (List Int×ζ)}{Q:ε->θ->Prop}(hk:∀p∈ps,i8 prog w s.heap p.1 p.2/\p.1≠[])(h64:ps.length<64)
  (Es:∀(R:List ε->θ->Prop),(∀s',Moved [] (fun x y=>y=x) s s'->R (ps.map fT) s')->ρ (model prog w) A.in1 (collect (.ref l)) R E s)
  (h:∀qs s' c D,ME ps qs->s.heap.get? D=none->s'.heap.get? D=some (seqObj "list" (qs.map fT).toArray c)->Moved [] (fun x y=>y=x) s s'->Q (.ref D) s'):
  ρ (model prog w) A (call (.builtin "sorted") [.ref l]) Q E s:=by
 refine R9 (κ:=tuples' true) (d:=([],0)) X1 (fun s' h2 kk=>?_) h64 Es h;have hk':∀p∈ps,i8 prog w s'.heap p.1 p.2/\p.1≠[]:=fun p hp=>⟨Sa kk (hk p hp).1,(hk p hp).2⟩;exact⟨fun Q E q=>Sg (fun z=>by rw[z] at h2;simp at h2) hk' q,Sh fun p hp=>(hk' p hp).1⟩
end
end sD
namespace L3
open PySem PySem.Spec PyProof.Rows L2
structure zJ(T:String):Prop where
 aC:∀K,ar K (.type "NoneType") (.type T)=some false
 bl:∀K,ar K (.type "bool") (.type T)=some (T=="bool" || T=="int")
 int:∀K,ar K (.type "int") (.type T)=some (T=="int")
 str:∀K,ar K (.type "str") (.type T)=some (T=="str")
 tup:∀K,ar K (.type "tuple") (.type T)=some (T=="tuple")
 lst:∀K,ar K (.type "list") (.type T)=some (T=="list")
 i7:∀K,ar K (.type "dict") (.type T)=some (T=="dict")
theorem R8:zJ "int":=⟨fun _=>rfl,fun _=>rfl,fun _=>rfl,fun _=>rfl,fun _=>rfl,fun _=>rfl,fun _=>rfl⟩
theorem R7:zJ "bool":=⟨fun _=>rfl,fun _=>rfl,fun _=>rfl,fun _=>rfl,fun _=>rfl,fun _=>rfl,fun _=>rfl⟩
theorem R6:zJ "list":=⟨fun _=>rfl,fun _=>rfl,fun _=>rfl,fun _=>rfl,fun _=>rfl,fun _=>rfl,fun _=>rfl⟩
section
variable {X:Cx} {a e:υ} {es:List υ} {ta:aP} {t:dF} {pos p p2:aQ}
theorem R4{T:String}(k:zJ T):jy X (.builtin "isinstance") (fun vs H Q=>∃d v G b,vs=[v,.ty T]/\Hv X.K H d v/\aT X.K G H/\lU T G d=some b/\Q (.bl b) H):=by
 intro pins s σ H vs us Q I r h;obtain⟨d,v,G,b,rfl,hd,RG,hb,q⟩:=h;obtain⟨u,c,rfl,ru,rc⟩:=vals2 r;cases (show c=sM T from rc);have fin:∀tk,EP X pins σ Q (.bool b) { s with toks:=tk }:=fun tk=>⟨.bl b,H,I.tok tk,rfl,q⟩
 cases d with
 |aC=>
  unfold Hv at hd;subst hd;cases (show u=aU from ru);cases hb;exact dA PySem.W.kitx_none I.ir ml (k.aC _) (fun z=>nomatch z) fin
 |bl y=>
  rw[vO hd] at ru;cases (show u=eF y from ru);cases hb;exact dA PySem.W.kitx_bool I.ir ml (k.bl _) (fun z=>nomatch z) fin
 |int y=>
  rw[i6 hd] at ru;obtain⟨t,rfl⟩:=(show ∃t,u=nE y t from ru);cases hb;exact dA PySem.W.kitx_int I.ir ml (k.int _) (fun z=>nomatch z) fin
 |str y=>
  unfold Hv at hd;subst hd;obtain⟨t,rfl⟩:=(show ∃t,u=ε.str y t from ru);cases hb;exact dA PySem.W.kitx_str I.ir ml (k.str _) (fun z=>nomatch z) fin
 |tup ds=>
  obtain⟨x,xs,rfl,e1,_⟩:=kZ hd;cases (show u=aF x from ru);cases hb;obtain⟨its,_,⟨o,h1,h2,_⟩,_⟩:=I.tuple e1;exact dA PySem.W.kitx_tuple I.ir ⟨o,h1,h2⟩ (k.tup _) (fun z=>nomatch z) fin
 |eS ds=>
  obtain⟨x,xs,rfl,e1,_⟩:=t5 hd;cases (show u=aF x from ru);cases hb;obtain⟨its,_,p1,_⟩:=I.list e1.l;obtain⟨o,h1,h2,_⟩:=p1.isList;exact dA oz I.ir ⟨o,h1,h2⟩ (k.lst _) (fun z=>nomatch z) fin
 |dc x=>
  unfold Hv at hd;obtain⟨rfl,ob,φ,e1,c⟩:=hd;cases (show u=aF x from ru);cases hb;obtain⟨h1,_⟩:=I.bR x _ e1;exact dA uY I.ir ⟨ob,h1,c⟩ (k.i7 _) (fun z=>nomatch z) fin
 |obj x=>
  rw[iq hd] at ru;cases (show u=aF x from ru);unfold lU at hb;cases hG:G x with
  |none=>simp[hG] at hb
  |some o=>
   have hl:∀xs,H x=some (.lst xs)->∃o,s.heap.get? x=some o/\o.cls=.type "list":=fun xs e=>by
    obtain⟨_,_,n,_,h1⟩:=(show cH X.prog X.w H s.heap x (.lst xs) from I.bR x _ e);exact⟨_,h1,rfl⟩
   cases o with
   |lst ds=>
    simp only[hG] at hb;cases hb;obtain⟨vs,e1,_⟩:=RG x _ hG;obtain⟨o,h1,h2⟩:=hl _ e1;exact dA oz I.ir ⟨o,h1,h2⟩ (k.lst _) (fun z=>nomatch z) fin
   |mG=>
    simp only[hG] at hb;cases hb;obtain⟨_,_,_,e1,_⟩:=RG x _ hG;obtain⟨o,h1,h2⟩:=hl _ e1;exact dA oz I.ir ⟨o,h1,h2⟩ (k.lst _) (fun z=>nomatch z) fin
   |gen R=>simp[hG] at hb
   |i7=>
    simp only[hG] at hb;cases hb;have e1:H x=some (.ext fun h=>∃o,h.get? x=some o/\o.cls=.type "dict"):=RG x _ hG;obtain⟨⟨o,h1,h2⟩,_⟩:=(show cH X.prog X.w H s.heap x _ from I.bR x _ e1);exact dA uY I.ir ⟨o,h1,h2⟩ (k.i7 _) (fun z=>nomatch z) fin
theorem RZ{T:String}{TS:ξ}(k:zJ T)(hv:gK TS=some (.type T))(ha:bS X a ta)(hm:X.mg "isinstance" = none)(hm2:X.mg TS=none)(hgT:Gl X TS)(hnT:TS≠"__name__")(hdT:(TS==("__debug__":ξ))=false)(hg:Gl X "isinstance":=by rfl)
  (he:notStar a=true:=by rfl):
  bS X (.Call (.Name "isinstance" p) [a,.Name TS p2] [] pos) (wt T ta):=
 jG (qJ (R4 k) hg hm rfl (r0 ha (r0 (Ku (v:=.ty T) hgT hm2 hv rfl hnT hdT) w6 (gu rfl)) (gu he)) (he:=gu he) (hpl:=lC rfl)) fun σ H Q ⟨τ,G,Q3,RS,RG,h,k⟩=>by
  refine⟨τ,G,_,RS,RG,h,fun v H1 d G1 h1 S1 R1 q1=>?_⟩;cases hb:lU T G1 d with
  |none=>rw[hb] at q1;exact q1.elim
  |some b=>
   rw[hb] at q1;exact⟨d,v,G1,b,rfl,h1,R1,hb,k _ H1 (.bl b) G1 nR S1 R1 q1⟩
end
def tupI(ns:List Int):D:=.tup (ns.map D.int)
section
variable {P:ah} {w:ax} {H:Hp} {h:Φ} {a:ζ} {o:HO}
theorem RY(x:cH P w H h a o):∃o,h.get? a=some o:=by
 cases o with
 |lst xs=>obtain⟨_,_,_,_,e⟩:=x;exact⟨_,e⟩
 |tup xs=>obtain⟨_,_,_,o,e,_⟩:=x;exact⟨_,e⟩
 |dK kvs=>obtain⟨_,_,_,_,o,_,_,e,_⟩:=x;exact⟨_,e⟩
 |dT kvs=>obtain⟨_,_,_,_,o,_,_,e,_⟩:=x;exact⟨_,e⟩
 |set S n=>obtain⟨o,_,_,_,e,_⟩:=x;exact⟨_,e⟩
 |ins C dx fs=>obtain⟨_,_,_,e,_⟩:=x;exact⟨_,e⟩
 |own y=>obtain⟨_,e⟩:=x;exact⟨_,e⟩
 |xd fs=>obtain⟨_,⟨_,_,_,e,_⟩,_⟩:=x;exact⟨_,e⟩
 |Cd lo hi=>obtain⟨_,_,_,e⟩:=x;exact⟨_,e⟩
 |eI ob u=>obtain⟨e,_⟩:=x;exact⟨_,e⟩
 |wb ps=>exact⟨_,(show h.get? a=some _ from x)⟩
 |met f y=>exact⟨_,(show h.get? a=some _ from x)⟩
 |ext φ=>obtain⟨_,⟨_,e⟩,_⟩:=x;exact⟨_,e⟩
end
section
variable {X:Cx} {pins:List (ζ×aK)} {σ:L2.St} {H:Hp} {s:θ}
theorem Inv.Fn(I:Inv X pins σ H s){a:ζ}(hn:s.heap.get? a=none):H a=none:=by
 cases e:H a with
 |none=>rfl
 |some o=>
  obtain⟨ob,h⟩:=RY (I.bR a o e);rw[hn] at h;cases h
theorem Inv.Md{a:ζ}{o:HO}{t':Nat}{h':Φ}(I:Inv X pins σ H s)(k:∀b u,s.heap.get? b=some u->h'.get? b=some u)(hn:s.heap.get? a=none)(new:cH X.prog X.w (upd H a o) h' a o):
  Inv X pins σ (upd H a o) { s with heap:=h',toks:=t' }:=by
 have hH:=Inv.Fn I hn;have ne:∀b u,s.heap.get? b=some u->b≠a:=fun b u e z=>by rw[z,hn] at e;cases e
 refine I.un ⟨fun b u q _ _ _=>k b u q,fun b u q _ _ _=>⟨u.slots,k b u q⟩,fun b u q n _=>by rw[dz (ne b u q)];exact n,fun b u q _=>⟨u,k b u q⟩,fun b xs q=>by rw[dz (mR q hH)];exact q,
  fun b u xs q=>by rw[dz (mR q hH)];exact q,fun b ps q=>⟨#[],by rw[dz (mR q hH),q];simp⟩⟩ fun b u e=>?_
 by_cases hb:b=a
 ·subst hb;rw[gW] at e;cases e;exact new
 ·rw[dz hb] at e;exact (I.bR b u e).mK (fun c v _ q=>k c v q) (fun c q=>by rw[dz (mR q hH)];exact q) fun c xs q=>by rw[dz (mR q hH)];exact q
theorem DC{ns:List Int}:∀{us:List ε},bj (ns.map V.int) us->ItemsAre (intKind X.prog X.w) ns us:=by
 induction ns with
 |nil=>intro us r;cases r;exact .nil
 |cons n ns ih=>
  intro us r;cases r with
  |cons r1 r2=>
   obtain⟨t,rfl⟩:=(show ∃t,_=nE n t from r1);exact .cons (by show vn n (.int n t)=true;simp[vn]) (ih r2)
theorem DB(I:Inv X pins σ H s):∀{nss:List (List Int)} {vs:List V} {us:List ε},aO X.K H (nss.map tupI) vs->bj vs us ->
  ∃ps:List (List Int×ζ),ps.map (·.1)=nss/\vs=ps.map (fun p=>.ref p.2)/\us=ps.map (fun p=>aF p.2)/\∀p∈ps,cG X.K H p.2 (p.1.map V.int)/\jK.i8 X.prog X.w s.heap p.1 p.2
 |[],vs,us,h,r=>by
  cases h.jk;cases r;exact⟨[],rfl,rfl,rfl,fun p hp=>nomatch hp⟩
 |ns::nss,vs,us,h,r=>by
  obtain⟨v,vr,rfl,q1,q2⟩:=h.inv;cases r with
  |cons r1 r2=>
   obtain⟨ps,e1,e2,e3,e4⟩:=DB I q2 r2;obtain⟨a,ws,rfl,z1,z2⟩:=kZ q1;have hw:ws=ns.map V.int:=by
    refine tZ z2 ?_;clear z2 z1 q1 h e1 e2 e3 e4 q2 r2 r1
    induction ns with
    |nil=>rfl
    |cons n ns ih=>simp[intsOf,ih]
   subst hw;cases (show _=aF a from r1);obtain⟨its,rv,⟨o,h1,h2,n,h3⟩,_⟩:=I.tuple z1;refine⟨(ns,a)::ps,by simp[e1],by simp[e2],by simp[e3],fun p hp=>?_⟩;rcases aa.mp hp with rfl|hp
   ·exact⟨z1,o,its.toArray,n,h1,h2,h3,DC rv⟩
   ·exact e4 p hp
theorem DA{K:η}{H:Hp}:∀{qs:List (List Int×ζ)},(∀p∈qs,cG K H p.2 (p.1.map V.int))->aO K H ((qs.map (·.1)).map tupI) (qs.map fun p=>.ref p.2)
 |[],_=>.nil
 |q::qs,h=>.cons (rY (h q Γ) (aO.ints _)) (DA fun p hp=>h p (Δ _ hp))
theorem Jj:∀(qs:List (List Int×ζ)),bj (qs.map fun p=>V.ref p.2) (qs.map fun p=>aF p.2)
 |[]=>.nil
 |q::qs=>.cons rfl (Jj qs)
def sE(nss:List (List Int)):Prop:=nss.Pairwise fun x y=>sD.lx y x=false
theorem Ji{Q:VK}(I:Inv X pins σ H s){ps qs:List (List Int×ζ)}{s':θ}{c:Nat}{D':ζ}(hz:ps.length<64)(hS:sD.ME ps qs)(hn:s.heap.get? D'=none)(hD:s'.heap.get? D'=some (seqObj "list" (qs.map fun p=>aF p.2).toArray c))
  (hm:Moved [] (fun x y=>y=x) s s') (q:H D'=none->Q (.ref D') (upd H D' (.lst (qs.map fun p=>.ref p.2)))):EP X pins σ Q (.ref D') s':=by
 have e:s'={ s with heap:=s'.heap,toks:=s'.toks }:=by
  cases s';cases s;have h1:=hm.gens;have h2:=hm.drawn;have h3:=hm.os;simp only at h1 h2 h3;subst h1 h2 h3;rfl
 rw[e];refine⟨.ref D',_,Inv.Md I (o:=.lst (qs.map fun p=>.ref p.2)) (fun b u z=>hm.heap b u (fun y=>nomatch y) z) hn ?_,rfl,q (Inv.Fn I hn)⟩;refine⟨?_,_,c,Jj qs,hD⟩;rw[π,hS.perm.length_eq,cq];lia
theorem RX(hc:X.calm=true)(hu:X.A.units+64<cLine):jy X (.builtin "sorted") (fun vs H Q=>∃(a:ζ) (xs:List V) (nss:List (List Int)),vs=[.ref a]/\eU X.K H a xs/\aO X.K H (nss.map tupI) xs/\nss.length<64/\(∀ns∈nss,ns≠[]) ∧
  ∀(p:ζ) (mss:List (List Int)) (ys:List V),H p=none->mss.Perm nss->sE mss->aO X.K H (mss.map tupI) ys->Q (.ref p) (upd H p (.lst ys))):=by
 intro pins s σ H vs us Q I r h;obtain⟨a,xs,nss,rfl,hl,hv,hz,cQ,q⟩:=h;obtain⟨u,rfl,ru⟩:=vals1 r;cases ru;obtain⟨its,rv,pl,_⟩:=I.list hl;obtain⟨ps,e1,e2,e3,e4⟩:=DB I hv rv;subst e3;have hlen:ps.length=nss.length:=by rw[←e1,π]
 refine sD.xA (ps:=ps) (fun p hp=>⟨(e4 p hp).2,cQ _ (by rw[←e1];exact br.mpr ⟨p,hp,rfl⟩)⟩) (by lia) (fun R hR=>?_) fun qs s' c D' hS hn hD hm=>?_
 ·refine collect_list pl.isList (hR _ ⟨fun b o _ e=>?_,rfl,rfl,rfl,Ψ _⟩) (by rw[π,cq];lia);have hlt:=Θ e;show ((s.heap.push (seqObj "list" #[] 0)).update s.heap.objs.size _).get? b=some o;rw[bH _ _ (eA hlt)];exact μ _ e
 ·refine Ji I (by lia) hS hn hD hm fun hf=>?_;refine q _ (qs.map (·.1)) _ hf (by rw[←e1];exact hS.perm.map _) ?_ (DA fun p hp=>(e4 p (hS.perm.mem_iff.mp hp)).1);exact iy.mpr hS.rise
end
end L3
namespace L3
open PySem PySem.Spec PyProof.Rows L2
def yd(P:ah)(w:ax)(b:ζ)(zs:List (List Int×ζ)):Φ->Prop:=fun h=>∃o es ep t,h.get? b=some o/\o.ExactSet/\o.data=.set es ep t/\es.toList=zs.map (jK.ent P w)/\(zs.map (·.1)).Nodup/\t.plain=true ∧
 t.led=(!(w.params.followText "set-order"))/\pE.Tab t (es.toList.map (·.1))
theorem RW{α β:Type}{f:α->β}{l l':List β}(h:l.Perm l'):∀{zs:List α},l'=zs.map f->∃zs':List α,zs'.Perm zs/\l=zs'.map f:=by
 induction h with
 |nil=>
  intro zs e;have:zs=[]:=by simpa using e.symm
  subst this;exact⟨[],.nil,rfl⟩
 |cons x _ ih=>
  intro zs e;cases zs with
  |nil=>cases e
  |cons z zs=>
   simp only[ak,wO] at e;obtain⟨zs',h1,h2⟩:=ih e.2;exact⟨z::zs',h1.cons z,by simp[e.1,h2]⟩
 |swap x y l=>
  intro zs e;rcases zs with _|⟨z,_|⟨z2,zs⟩⟩
  ·cases e
  ·simp at e
  ·simp only[ak,wO] at e;exact⟨z2::z::zs,.swap _ _ _,by simp[e.1,e.2.1,e.2.2]⟩
 |trans _ _ ih1 ih2=>
  intro zs e;obtain⟨z2,h1,h2⟩:=ih2 e;obtain⟨z1,h3,h4⟩:=ih1 h2;exact⟨z1,h3.trans h1,h4⟩
section
variable {X:Cx}
theorem RV(hc:X.calm=true)(hu:X.A.units+64<cLine):jy X (.type "set") (fun vs H Q=>∃(a:ζ) (xs:List V) (nss:List (List Int)),vs=[.ref a]/\eU X.K H a xs/\aO X.K H (nss.map tupI) xs/\nss.length≤60 ∧
  ∀(b:ζ) (zs:List (List Int×ζ)),H b=none->(∀p∈zs,cG X.K H p.2 (p.1.map V.int))->(∀ns,ns∈zs.map (·.1)↔ns∈nss)->(zs.map (·.1)).Nodup->zs.length≤nss.length->Q (.ref b) (upd H b (.ext (yd X.prog X.w b zs)))):=by
 intro pins s σ H vs us Q I r h;obtain⟨a,xs,nss,rfl,hl,hv,hz,q⟩:=h;obtain⟨u,rfl,ru⟩:=vals1 r;cases ru;obtain⟨its,rv,pl,_⟩:=I.list hl;obtain⟨ps,e1,e2,e3,e4⟩:=DB I hv rv;subst e3;have hlen:ps.length=nss.length:=by rw[←e1,π]
 refine jK.xH (ps:=ps) (I.ok.hd hc) pl.isList rfl (fun p hp=>(e4 p hp).2) (by lia) (by lia) fun h' tk zs kk hS hD=>?_;obtain⟨o,es,ep,t,S,T⟩:=hS;refine⟨.ref s.heap.objs.size,_,I.laid (o:=.ext (yd X.prog X.w s.heap.objs.size zs)) kk (Ψ _) ?_,rfl,q _ zs (I.bR.fresh (Ψ _)) (fun p hp=>(e4 p (hD.sub p hp)).1) (fun ns=>?_) S.nd ?_⟩
 ·refine⟨⟨o,es,ep,t,S.at_,S.ex,S.dat,S.ents,S.nd,S.plain,S.led,T⟩,⟨o,S.at_⟩,fun h1 h2 ⟨o',es',ep',t',y1,y⟩ kk2=>⟨o',es',ep',t',kk2 _ y1,y⟩⟩
 ·rw[←e1];constructor
  ·intro hm;obtain⟨p,hp,rfl⟩:=br.mp hm;exact br.mpr ⟨p,hD.sub p hp,rfl⟩
  ·intro hm;obtain⟨p,hp,rfl⟩:=br.mp hm;exact hD.all p hp
 ·rw[←hlen];exact hD.len
theorem RU(hc:X.calm=true)(hu:X.A.units+64<cLine):jy X (.builtin "sorted") (fun vs H Q=>∃(b:ζ) (zs:List (List Int×ζ)),vs=[.ref b]/\H b=some (.ext (yd X.prog X.w b zs))/\(∀p∈zs,cG X.K H p.2 (p.1.map V.int))/\zs.length≤60/\(∀p∈zs,p.1≠[]) ∧
  ∀(p:ζ) (mss:List (List Int)) (ys:List V),H p=none->mss.Perm (zs.map (·.1))->sE mss->aO X.K H (mss.map tupI) ys->Q (.ref p) (upd H p (.lst ys))):=by
 intro pins s σ H vs us Q I r h;obtain⟨b,zs,rfl,hb,hk,hz,cQ,q⟩:=h;obtain⟨u,rfl,ru⟩:=vals1 r;cases ru;obtain⟨⟨o,es,ep,t,y1,y2,y3,y4,y5,y6,y7,T⟩,_⟩:=(show cH X.prog X.w H s.heap b _ from I.bR b _ hb);have hK:∀p∈zs,jK.i8 X.prog X.w s.heap p.1 p.2:=fun p hp=>by
  obtain⟨its,rv,⟨o,h1,h2,n,h3⟩,_⟩:=I.tuple (hk p hp);exact⟨o,its.toArray,n,h1,h2,h3,DC rv⟩
 have S:jK.m9 X.prog X.w s.heap b o es ep t zs:=⟨y1,y2,y3,y4,hK,y5,y6,y7⟩;obtain⟨zs',p1,p2⟩:=RW (jK.oC X.w b ep es) y4;have hsz:es.size=zs.length:=by
  have:es.toList.length=zs.length:=by rw[y4,π]
  simpa using this
 refine sD.xA (ps:=zs') (fun p hp=>⟨hK p (p1.mem_iff.mp hp),cQ p (p1.mem_iff.mp hp)⟩) (by rw[p1.length_eq];lia) (fun R hR=>?_) fun qs s' c D' hS hn hD hm=>?_
 ·refine jK.wQ (by have:=I.ok.hd hc;simpa using this) S.wk T (by lia) fun s' hm=>?_;have:=hR s' hm;rw[p2,bV];exact this
 ·refine Ji I (by rw[p1.length_eq];lia) hS hn hD hm fun hf=>?_;refine q _ (qs.map (·.1)) _ hf ((hS.perm.map _).trans (p1.map _)) ?_ (DA fun p hp=>hk p (p1.mem_iff.mp (hS.perm.mem_iff.mp hp)));exact iy.mpr hS.rise
end
section
variable {X:Cx} {K:η} {e:υ} {es:List υ} {t:dF} {ta:aP} {pos p p' pos':aQ}
def yy:C3:=fun ds G Q=>match ds with
 |[.obj a]=>∃nss:List (List Int),G a=some (.lst (nss.map tupI))/\nss.length<64/\(∀ns∈nss,ns≠[])/\∀(p:ζ) (mss:List (List Int)) (G':Gp),cw G p (.lst (mss.map tupI)) G'->mss.Perm nss->sE mss->Q (.obj p) G'
 |_=>False
theorem RT:sI K yy (fun vs H Q=>∃(a:ζ) (xs:List V) (nss:List (List Int)),vs=[.ref a]/\eU K H a xs/\aO K H (nss.map tupI) xs/\nss.length<64/\(∀ns∈nss,ns≠[]) ∧
  ∀(p:ζ) (mss:List (List Int)) (ys:List V),H p=none->mss.Perm nss->sE mss->aO K H (mss.map tupI) ys->Q (.ref p) (upd H p (.lst ys))):=fun ds vs G H Q3 Q h RG q k=>by
 rcases ds with _|⟨d,_|⟨d2,ds⟩⟩
 ·exact q.elim
 ·obtain⟨v,rfl,hv⟩:=su h;cases d with
  |obj a=>
   obtain⟨nss,e1,hz,cQ,q⟩:=q;obtain⟨xs,e2,e3⟩:=RG a _ e1;rw[iq hv];exact⟨a,xs,nss,rfl,.of e2,e3,hz,cQ,fun p mss ys hp h1 h2 h3=>k _ _ (.obj p) _ rZ (.hJ hp) (RG.vT hp h3) (q p mss _ (.mk' (RG.free hp)) h1 h2)⟩
  |_=>exact q.elim
 ·cases d<;>exact q.elim
theorem RQ(hu:X.A.units+64<cLine)(hm:X.mg "sorted" = none)(ha:ki X (e::es) t)(hc:X.calm=true:=by rfl)(hg:Gl X "sorted":=by rfl)(he:notStar e=true:=by rfl)(hpl:es.all notStar=true:=by rfl):
  bS X (.Call (.Name "sorted" p) (e::es) [] pos) (eL yy t):=ue RT (qJ (RX hc hu) hg hm rfl ha (he:=gu he) (hpl:=lC hpl))
def sx(ta:aP):aP:=fun τ G Q=>ta τ G fun x G1=>match x with
 |.obj a=>∃nss:List (List Int),G1 a=some (.lst (nss.map tupI))/\nss.length≤60/\(∀ns∈nss,ns≠[])/\∀(p:ζ) (mss:List (List Int)) (G':Gp),cw G1 p (.lst (mss.map tupI)) G'->(∀ns,ns∈mss↔ns∈nss)->mss.Nodup->sE mss->mss.length≤nss.length->Q (.obj p) G'
 |_=>False
theorem RP(hu:X.A.units+64<cLine)(ha:bS X e ta)(hm:X.mg "sorted" = none)(hm2:X.mg "set" = none)(hc:X.calm=true:=by rfl)(hg:Gl X "sorted":=by rfl)(hg2:Gl X "set":=by rfl)(he2:notStar e=true:=by rfl):
  bS X (.Call (.Name "sorted" p) [.Call (.Name "set" p') [e] [] pos'] [] pos) (sx ta):=
 jG (qJ (RU hc hu) hg hm rfl (r0 (D7 (RV hc hu) hg2 hm2 rfl (r0 ha w6 (gu he2)) (he:=gu he2) (hpl:=lC rfl)) w6 (gu rfl)) (he:=gu rfl) (hpl:=lC rfl)) fun σ H Q ⟨τ,G,Q3,RS,RG,h,k⟩=>by
  refine⟨τ,G,_,RS,RG,h,fun v H1 d G1 h1 S1 R1 q1=>?_⟩;cases d with
  |obj a=>
   obtain⟨nss,e1,hz,cQ,q⟩:=q1;obtain⟨xs,e2,e3⟩:=R1 a _ e1;rw[iq h1];refine⟨a,xs,nss,rfl,.of e2,e3,hz,fun b zs hb hk hmem hnd hlen=>?_⟩;have E2:Ext H1 (upd H1 b (.ext (yd X.prog X.w b zs))):=.laid hb;refine⟨b,zs,rfl,gW,fun p hp=>cG.ext E2 (hk p hp),by lia,fun p hp=>cQ _ ((hmem _).mp (br.mpr ⟨p,hp,rfl⟩)),fun p mss ys hp hpm hr hv=>?_⟩;have R2:aT X.K G1 (upd H1 b (.ext (yd X.prog X.w b zs))):=R1.laid hb;refine k _ _ (.obj p) _ rZ ((S1.trans (.laid hb)).trans (.hJ hp)) (R2.vT hp hv) (q p mss _ (.mk' (R2.free hp)) (fun ns=>?_) ?_ hr ?_)
   ·rw[hpm.mem_iff];exact hmem ns
   ·exact hpm.nodup_iff.mpr hnd
   ·rw[hpm.length_eq,π];exact hlen
  |_=>exact q1.elim
def oK:List D->Option (List Bool)
 |[]=>some []
 |.bl b::r=>(oK r).map (b::·)
 |_::_=>none
theorem Aw{H:Hp}:∀{ds:List D} {vs:List V} {bs:List Bool},aO K H ds vs->oK ds=some bs->vs=bs.map V.bl
 |[],vs,ns,h,e=>by
  cases e;exact h.jk
 |d::ds,vs,ns,h,e=>by
  cases d with
  |bl i=>
   obtain⟨v,r,rfl,z1,z2⟩:=h.inv;unfold oK at e;cases hm:oK ds with
   |none=>rw[hm] at e;cases e
   |some ms=>
    rw[hm] at e;cases e;rw[vO z1,Aw z2 hm];rfl
  |_=>cases e
theorem Jh:∀{bs:List Bool} {us:List ε},bj (bs.map V.bl) us->us=bs.map eF
 |[],_,.nil=>rfl
 |b::bs,_,.cons r rr=>by
  rw[(show _=eF b from r),Jh rr];rfl
theorem range_all(bs:List Bool):(aA bs.length).all (fun i=>bs.getD i false)=bs.all id:=by
 rw[qw];simp only[iX,b9,id_eq];constructor
 ·intro h b hb;obtain⟨i,hi,rfl⟩:=List.mem_iff_getElem.mp hb;have:=h i hi;simpa [jS,hi] using this
 ·intro h i hi;have:=h bs[i] (List.getElem_mem hi);simpa [jS,hi] using this
theorem Jg(hc:X.calm=true){pins:List (ζ×aK)}{s:θ}{σ:L2.St}{H:Hp}{a:ζ}{xs:List V}{E:ε->θ->Prop}(I:Inv X pins σ H s)(hl:eU X.K H a xs){Q:ε->θ->Prop}
  (q:∀(its:List ε) (I':ζ),bj xs its->WalksS X.prog X.w X.A.in1 I' [I',a] [I'] (fun x y=>y=x) its.length (fun i v=>its[i]?=some v) (fun i s=>s.heap.IsListIter I' a i/\s.heap.IsList a its.toArray) ->
   (s.heap.push { cls:=.type "list_iterator",data:=.fields #[.ref a,.int 0 0]}).IsListIter I' a 0->(s.heap.push { cls:=.type "list_iterator",data:=.fields #[.ref a,.int 0 0]}).IsList a its.toArray ->
   (∀b∈[I',a],b<(s.heap.push { cls:=.type "list_iterator",data:=.fields #[.ref a,.int 0 0]}).objs.size) ->
   (∀s',Moved [I'] (fun x y=>y=x) { s with heap:=s.heap.push { cls:=.type "list_iterator",data:=.fields #[.ref a,.int 0 0]}} s'->Inv X pins σ H s')->Q (.ref I') { s with heap:=s.heap.push { cls:=.type "list_iterator",data:=.fields #[.ref a,.int 0 0]}}):
  ρ (model X.prog X.w) X.A.in1 (pyIter (.ref a)) Q E s:=by
 obtain⟨its,rv,pl,_⟩:=I.list hl;have hla:a<s.heap.objs.size:=by
  obtain⟨o,h1,_⟩:=pl.isList;exact Θ h1
 refine fw pl.isList ?_;have hW:=(Walks.list (prog:=X.prog) (w:=X.w) (A:=X.A.in1) (by have:=I.ok.hd hc;simpa using this) s.heap.objs.size a (bh hla) its.toArray).toS;refine q its s.heap.objs.size rv (by simpa using hW) ⟨_,ag _ rfl,rfl,rfl⟩ ?_ ?_ fun s' hm=>?_
 ·obtain⟨o,h1,h2⟩:=pl.isList;exact⟨o,μ _ h1,h2⟩
 ·intro b hb;rw[size_push'];rcases aa.mp hb with e|e
  ·rw[e];exact ls _
  ·have:b=a:=by simpa using e
   rw[this];exact ix hla
 ·have e:s'={ s with heap:=s'.heap,toks:=s'.toks }:=by
   cases s';cases s;have h1:=hm.gens;have h2:=hm.drawn;have h3:=hm.os;simp only at h1 h2 h3;subst h1 h2 h3;rfl
  rw[e];exact I.kept fun b u z=>hm.heap b u (fun y=>by
   have:b=s.heap.objs.size:=by simpa using y
   exact absurd (this▸Θ z) (cy _)) (μ _ z)
theorem RO(hc:X.calm=true):jy X (.builtin "all") (fun vs H Q=>∃(a:ζ) (bs:List Bool),vs=[.ref a]/\eU X.K H a (bs.map V.bl)/\Q (.bl (bs.all id)) H):=by
 intro pins s σ H vs us Q I r h;obtain⟨a,bs,rfl,hl,q⟩:=h;obtain⟨u,rfl,ru⟩:=vals1 r;cases ru;refine call_all_walkS (Jg hc I hl fun its I' rv W h1 h2 h3 back=>⟨I',_,_,_,_,_,_,fun i=>bs.getD i false,rfl,W,⟨h1,h2⟩,?_,fun s' hm=>?_⟩)
 ·intro i v s' Q' E' hv hq;have hx:=Jh rv;subst hx;rw[aE] at hv;cases hb:bs[i]? with
  |none=>rw[hb] at hv;cases hv
  |some b=>
   rw[hb] at hv;cases hv;have:bs.getD i false=b:=by simp[jS,hb]
   dsimp only at hq;rw[this] at hq;exact iu hq
 ·have:its.length=bs.length:=by rw[←rv.length,π]
  rw[this,range_all];exact⟨.bl (bs.all id),H,back s' hm,rfl,q⟩
theorem Jf(ns:List Int):∀k,k≤ns.length->preSum (fun i=>ns.getD i 0) k=(ns.take k).sum
 |0,_=>by simp[preSum]
 |k+1,hk=>by
  rw[preSum,Jf ns k (by lia),List.take_succ,jz];have:k<ns.length:=by lia
  simp[jS,this]
theorem RN(hc:X.calm=true):jy X (.builtin "sum") (fun vs H Q=>∃(a:ζ) (ns:List Int),vs=[.ref a]/\eU X.K H a (ns.map V.int)/\Q (.int ns.sum) H):=by
 intro pins s σ H vs us Q I r h;obtain⟨a,ns,rfl,hl,q⟩:=h;obtain⟨u,rfl,ru⟩:=vals1 r;cases ru;refine call_sum_walkAnyS (Jg hc I hl fun its I' rv W h1 h2 h3 back=>⟨I',_,_,_,_,_,_,fun i=>ns.getD i 0,rfl,W,⟨h1,h2⟩,h3,?_,fun s' t' hm=>?_⟩)
 ·intro i v hv;have hi:i<ns.length:=by
   have h4:its.length=ns.length:=by rw[←rv.length,π]
   have:=(aM.mp hv).1;lia
  obtain⟨u',e1,e2⟩:=rv.get (i:=i) (x:=.int ns[i]) (by rw[aE,aw hi];rfl);rw[hv] at e1;cases e1;obtain⟨t,rfl⟩:=(show ∃t,v=nE ns[i] t from e2);exact⟨t,by simp[jS,hi]⟩
 ·have h4:its.length=ns.length:=by rw[←rv.length,π]
  rw[h4,Jf ns ns.length (Ψ _),pT];exact⟨.int ns.sum,H,back s' hm,⟨t',rfl⟩,q⟩
def Av:C3:=fun ds G Q=>match ds with
 |[.obj a]=>∃xs bs,G a=some (.lst xs)/\oK xs=some bs/\Q (.bl (bs.all id)) G
 |_=>False
def Au:C3:=fun ds G Q=>match ds with
 |[.obj a]=>∃xs ns,G a=some (.lst xs)/\intsOf xs=some ns/\Q (.int ns.sum) G
 |_=>False
theorem RM:sI K Av (fun vs H Q=>∃(a:ζ) (bs:List Bool),vs=[.ref a]/\eU K H a (bs.map V.bl)/\Q (.bl (bs.all id)) H):=fun ds vs G H Q3 Q h RG q k=>by
 rcases ds with _|⟨d,_|⟨d2,ds⟩⟩
 ·exact q.elim
 ·obtain⟨v,rfl,hv⟩:=su h;cases d with
  |obj a=>
   obtain⟨xs,bs,e1,e2,q⟩:=q;obtain⟨ys,e3,e4⟩:=RG a _ e1;rw[iq hv];rw[Aw e4 e2] at e3;exact⟨a,bs,rfl,.of e3,k _ H _ G nR (.refl H G) RG q⟩
  |_=>exact q.elim
 ·cases d<;>exact q.elim
theorem RL:sI K Au (fun vs H Q=>∃(a:ζ) (ns:List Int),vs=[.ref a]/\eU K H a (ns.map V.int)/\Q (.int ns.sum) H):=fun ds vs G H Q3 Q h RG q k=>by
 rcases ds with _|⟨d,_|⟨d2,ds⟩⟩
 ·exact q.elim
 ·obtain⟨v,rfl,hv⟩:=su h;cases d with
  |obj a=>
   obtain⟨xs,bs,e1,e2,q⟩:=q;obtain⟨ys,e3,e4⟩:=RG a _ e1;rw[iq hv];rw[tZ e4 e2] at e3;exact⟨a,bs,rfl,.of e3,k _ H _ G nv (.refl H G) RG q⟩
  |_=>exact q.elim
 ·cases d<;>exact q.elim
theorem RK(hu:X.A.units+64<cLine)(hm:X.mg "all" = none)(ha:ki X (e::es) t)(hc:X.calm=true:=by rfl)(hg:Gl X "all":=by rfl)(he:notStar e=true:=by rfl)(hpl:es.all notStar=true:=by rfl):
  bS X (.Call (.Name "all" p) (e::es) [] pos) (eL Av t):=ue RM (qJ (RO hc) hg hm rfl ha (he:=gu he) (hpl:=lC hpl))
theorem Sv(hu:X.A.units+64<cLine)(hm:X.mg "sum" = none)(ha:ki X (e::es) t)(hc:X.calm=true:=by rfl)(hg:Gl X "sum":=by rfl)(he:notStar e=true:=by rfl)(hpl:es.all notStar=true:=by rfl):
  bS X (.Call (.Name "sum" p) (e::es) [] pos) (eL Au t):=ue RL (qJ (RN hc) hg hm rfl ha (he:=gu he) (hpl:=lC hpl))
end
end L3
namespace L3
open PySem PySem.Spec PyProof.Rows L2
open Sem (wp)
def Ik(k:Bool)(h:Φ)(jt a:ζ)(i:Nat):Prop:=match k with
 |true=>h.IsListIter jt a i
 |false=>h.IsTupleIter jt a i
def Sk(k:Bool)(h:Φ)(a:ζ)(xs:Array ε):Prop:=match k with
 |true=>h.IsList a xs
 |false=>h.IsTuple a xs
theorem Ik.of{k:Bool}{h h':Φ}{jt a:ζ}{i:Nat}(x:Ik k h jt a i)(f:∀o,h.get? jt=some o->h'.get? jt=some o):Ik k h' jt a i:=by
 cases k<;>(obtain⟨o,e,r⟩:=x;exact⟨o,f o e,r⟩)
theorem Sk.of{k:Bool}{h h':Φ}{a:ζ}{xs:Array ε}(x:Sk k h a xs)(f:∀o,h.get? a=some o->h'.get? a=some o):Sk k h' a xs:=by
 cases k<;>(obtain⟨o,e,r⟩:=x;exact⟨o,f o e,r⟩)
theorem Ik.obj{k:Bool}{h:Φ}{jt a:ζ}{i:Nat}(x:Ik k h jt a i):∃o,h.get? jt=some o/\∀v,o.data≠.cell v:=by
 cases k<;>(obtain⟨o,e,c,d⟩:=x;exact⟨o,e,fun v z=>by rw[d] at z;cases z⟩)
section
variable {P:ah} {w:ax} {A:aL} {E:ε->θ->Prop} {s:θ}
theorem nextK{k:Bool}{jt a:ζ}{i:Nat}{xs:Array ε}{u:ε}{Q:ε->θ->Prop}(hi:Ik k s.heap jt a i)(ha:Sk k s.heap a xs)(hx:xs[i]?=some u)
  (q:∀h',Ik k h' jt a (i+1)->cL jt s.heap h'->Q u { s with heap:=h' }):ρ (model P w) A (cE (.ref jt)) Q E s:=by
 cases k with
 |true=>exact wpAny_nextOf_list_item hi ha hx q
 |false=>
  have hi:s.heap.IsTupleIter jt a i:=hi;obtain⟨o,e1,c1,d1⟩:=id hi;obtain⟨oa,e2,c2,n2,d2⟩:=(show s.heap.IsTuple a xs from ha);unfold cE;refine δ (ck (name:=fk "__next__") hi.typeIs F.slot_tuple_iterator_next (bX F.slot_tuple_iterator_next hi.typeIs F.entry_tuple_iterator_next ?_ (F.args_tuple_iterator_next_1 _)));show ρ _ _ (field (.ref jt) 0 >>= _) _ _ s;refine δ (bG e1 d1 (x:=.ref a) rfl ?_);show ρ _ _ (if (aF a==aU)=true then _ else _) _ _ s;rw[if_neg (show ¬((aF a==aU)=true) from az)];show ρ _ _ (field (.ref jt) 1 >>= _) _ _ s;refine δ (bG e1 d1 (x:=.int i 0) rfl ?_);show ρ _ _ (seqItems? (.ref a) >>= _) _ _ s;refine δ (eE e2 d2 ?_);simp only[hx,cB];refine δ (fI e1 d1 (by simp) (ι ⟨u,rfl,ι (q _ ?_ (dj ..))⟩));exact⟨_,cg _ e1 (eW (dC d1 _)),(aK.cls_mapFields ..).trans c1,by rw[dC d1];simp[rawInt]⟩
theorem Je{k:Bool}{jt a:ζ}{i:Nat}{xs:Array ε}{Q:ε->θ->Prop}(hh:A.handled=none)(hi:Ik k s.heap jt a i)(ha:Sk k s.heap a xs)(hx:xs[i]?=none)
  (q:∀h' e,vz jt s.heap h'->(∃o,h'.get? e=some o/\o.cls=.type "StopIteration")->E (.ref e) { s with heap:=h' }):ρ (model P w) A (cE (.ref jt)) Q E s:=by
 cases k with
 |true=>exact wpAny_nextOf_list_end hh hi ha hx q
 |false=>
  have hi:s.heap.IsTupleIter jt a i:=hi;obtain⟨o,e1,c1,d1⟩:=id hi;obtain⟨oa,e2,c2,n2,d2⟩:=(show s.heap.IsTuple a xs from ha);unfold cE;refine δ (ck (name:=fk "__next__") hi.typeIs F.slot_tuple_iterator_next (bX F.slot_tuple_iterator_next hi.typeIs F.entry_tuple_iterator_next ?_ (F.args_tuple_iterator_next_1 _)));show ρ _ _ (field (.ref jt) 0 >>= _) _ _ s;refine δ (bG e1 d1 (x:=.ref a) rfl ?_);show ρ _ _ (if (aF a==aU)=true then _ else _) _ _ s;rw[if_neg (show ¬((aF a==aU)=true) from az)];show ρ _ _ (field (.ref jt) 1 >>= _) _ _ s;refine δ (bG e1 d1 (x:=.int i 0) rfl ?_);show ρ _ _ (seqItems? (.ref a) >>= _) _ _ s;refine δ (eE e2 d2 ?_);simp only[hx,cB];refine δ (mf (δ (fI e1 d1 (by simp) ?_)));show ρ _ _ (newExc (.type "StopIteration") [] >>= _) _ _ ({ s with heap:=_ }:θ);refine δ ?_;simp only[newTuple,newExc];refine δ (bC ?_ (by size_fits));refine δ (m:=firstArgMember _ _) (kJ (a:=aU) (by first|(simp only[firstArgMember];rfl)|rfl) ?_)
  refine bC ?_ (by size_fits);simp only[raiseNew];refine δ (sZ ?_)
  first|rw[hh]|rw[show A.in1.handled=none from hh]
  refine δ (ι (wpAny_throw ?_));exact q _ _ (((dj ..).extBut.push _).push _) ⟨_,ag _ rfl,rfl⟩
theorem ML{k1 k2:Bool}{zz ti ot j1 j2 a1 a2:ζ}{m n:Nat}{xs ys:Array ε}{u v c d:ε}{Q:ε->θ->Prop}(D:ZipApart zz ti ot j1 j2 a1 a2)
  (Z:kX s.heap zz ti ot .none) (Ti:gP s.heap ti (.ref j1) (.ref j2)) (To:gP s.heap ot c d) (g1:Ik k1 s.heap j1 a1 m) (g2:Ik k2 s.heap j2 a2 n) (s1:Sk k1 s.heap a1 xs) (s2:Sk k2 s.heap a2 ys) (hu:xs[m]?=some u) (hv:ys[n]?=some v)
  (q:∀h',kX h' zz ti ot (rawInt s.heap.objs.size)->gP h' ot u v->Ik k1 h' j1 a1 (m+1)->Ik k2 h' j2 a2 (n+1)->gP h' s.heap.objs.size u v ->
   (∀b o,b≠zz->b≠ot->b≠j1->b≠j2->s.heap.get? b=some o->h'.get? b=some o)->Q (.ref s.heap.objs.size) { s with heap:=h' }):
  ρ (model P w) A (df.«zip.__next__» ⟨[.ref zz],[]⟩) (fun fin s'=>∃r,fin=.done (.ret r)/\Q r s') E s:=by
 show ρ _ _ (field (.ref zz) 2 >>= _) _ _ _;refine δ (bG Z rfl (x:=.bool false) rfl ?_);show ρ _ _ (field (.ref zz) 3 >>= _) _ _ _;refine δ (bG Z rfl (x:=.ref ti) rfl ?_);refine δ (eE Ti rfl ?_);show ρ _ _ (eH (.ref zz) >>= _) _ _ _;refine δ ?_;unfold eH;refine δ (bG Z rfl (x:=.none) rfl (ι ?_));simp only[if_true];refine δ (mf ?_);refine δ (bG Z rfl (x:=.ref ot) rfl ?_);refine δ (bU Z (by simp) fun w1 Z1 b1=>?_)
 replace Z1:kX w1 zz ti ot .ellipsis:=Z1
 refine δ ?_
 (simp only[List.zipIdx_nil,List.zipIdx_cons,rH,mr])
 have k1_:∀b o,b≠zz->s.heap.get? b=some o->w1.get? b=some o:=fun b o h e=>b1.extBut b o h e;refine δ (δ (nT ?_));show ρ _ _ (cE (.ref j1) >>= _) _ _ _;refine δ (nextK (g1.of fun o e=>k1_ _ o D.i1z e) (s1.of fun o e=>k1_ _ o D.l1z e) hu fun w2 J1 b2=>ι ?_);have k2_:∀b o,b≠zz->b≠j1->s.heap.get? b=some o->w2.get? b=some o:=fun b o h h2 e=>b2.extBut b o h2 (k1_ b o h e);have To2:gP w2 ot c d:=k2_ _ _ D.TOz D.TOi1 To;refine δ (eE To2 rfl ?_);refine δ (me To2 fun w3 To3 b3=>?_)
 replace To3:gP w3 ot u d:=To3
 have k3_:∀b o,b≠zz->b≠j1->b≠ot->s.heap.get? b=some o->w3.get? b=some o:=fun b o h h2 h3 e=>b3.extBut b o h3 (k2_ b o h h2 e);refine δ (qL (ι ?_));refine δ (δ (nT ?_));show ρ _ _ (cE (.ref j2) >>= _) _ _ _;refine δ (nextK (g2.of fun o e=>k3_ _ o D.i2z D.i12.symm D.TOi2.symm e) (s2.of fun o e=>k3_ _ o D.l2z D.l2i1 D.l2TO e) hv fun w4 J2 b4=>ι ?_);have To4:gP w4 ot u d:=b4.extBut _ _ D.TOi2 To3;refine δ (eE To4 rfl ?_);refine δ (me To4 fun w5 To5 b5=>?_)
 replace To5:gP w5 ot u v:=To5
 refine δ (qL (ι (ι ?_)));refine δ (eE To5 rfl ?_);refine δ (mW ?_);have sz:w5.objs.size=s.heap.objs.size:=by rw[b5.1,b4.1,b3.1,b2.1,b1.1]
 have Z5:kX w5 zz ti ot .ellipsis:=b5.extBut _ _ D.TOz.symm (b4.extBut _ _ D.i2z.symm (b3.extBut _ _ D.TOz.symm (b2.extBut _ _ D.i1z.symm Z1)));have k5_:∀b o,b≠zz->b≠ot->b≠j1->b≠j2->s.heap.get? b=some o->w5.get? b=some o:=fun b o c1 c2 c3 c4 e=>b5.extBut _ _ c2 (b4.extBut _ _ c4 (k3_ b o c1 c3 c2 e));have L1:Ik k1 w5 j1 a1 (m+1):=J1.of fun o e=>b5.extBut _ _ D.TOi1.symm (b4.extBut _ _ D.i12 (b3.extBut _ _ D.TOi1.symm e));have L2:Ik k2 w5 j2 a2 (n+1):=J2.of fun o e=>b5.extBut _ _ D.TOi2.symm e;have lz:zz<w5.objs.size:=Θ Z5;show ρ _ _ (jX (.ref zz) (.ref w5.objs.size) >>= _) _ _ _;refine δ ?_;unfold jX;have Z6:kX (w5.push { cls:=.type "tuple",data:=.seq #[u,v]}) zz ti ot .ellipsis:=μ _ Z5;refine δ (bU Z6 (by simp) fun w7 Z7 b7=>?_)
 replace Z7:kX w7 zz ti ot (rawInt w5.objs.size):=Z7
 refine bU Z7 (by simp) fun w8 Z8 b8=>?_
 replace Z8:kX w8 zz ti ot (rawInt w5.objs.size):=Z8
 have up:∀b o,b≠zz->w5.get? b=some o->w8.get? b=some o:=fun b o c1 e=>b8.extBut _ _ c1 (b7.extBut _ _ c1 (μ _ e));have T8:gP w8 w5.objs.size u v:=b8.extBut _ _ (eA lz) (b7.extBut _ _ (eA lz) (ag _ rfl));rw[sz] at Z8 T8;refine ι ⟨_,rfl,?_⟩;show Q (.ref w5.objs.size) _;rw[sz];exact q w8 Z8 (up _ _ D.TOz To5) (L1.of fun o e=>up _ o D.i1z e) (L2.of fun o e=>up _ o D.i2z e) T8 fun b o c1 c2 c3 c4 e=>up b o c1 (k5_ b o c1 c2 c3 c4 e)
theorem Su{k1 k2:Bool}{zz ti ot j1 j2 a1 a2:ζ}{m n:Nat}{xs ys:Array ε}{c d:ε}{Q:Fin->θ->Prop}(hh:A.handled=none)(D:ZipApart zz ti ot j1 j2 a1 a2)
  (Z:kX s.heap zz ti ot .none) (Ti:gP s.heap ti (.ref j1) (.ref j2)) (To:gP s.heap ot c d) (g1:Ik k1 s.heap j1 a1 m) (g2:Ik k2 s.heap j2 a2 n) (s1:Sk k1 s.heap a1 xs) (s2:Sk k2 s.heap a2 ys) (he:xs[m]?=none∨ys[n]?=none)
  (q:∀h' e,(∀b o,b≠zz->b≠ot->b≠j1->b≠j2->s.heap.get? b=some o->h'.get? b=some o)->(∃o,h'.get? e=some o/\o.cls=.type "StopIteration")->E (.ref e) { s with heap:=h' }):
  ρ (model P w) A (df.«zip.__next__» ⟨[.ref zz],[]⟩) Q E s:=by
 show ρ _ _ (field (.ref zz) 2 >>= _) _ _ _;refine δ (bG Z rfl (x:=.bool false) rfl ?_);show ρ _ _ (field (.ref zz) 3 >>= _) _ _ _;refine δ (bG Z rfl (x:=.ref ti) rfl ?_);refine δ (eE Ti rfl ?_);show ρ _ _ (eH (.ref zz) >>= _) _ _ _;refine δ ?_;unfold eH;refine δ (bG Z rfl (x:=.none) rfl (ι ?_));simp only[if_true];refine δ (mf ?_);refine δ (bG Z rfl (x:=.ref ot) rfl ?_);refine δ (bU Z (by simp) fun w1 Z1 b1=>?_)
 replace Z1:kX w1 zz ti ot .ellipsis:=Z1
 refine δ ?_
 (simp only[List.zipIdx_nil,List.zipIdx_cons,rH,mr])
 have k1_:∀b o,b≠zz->s.heap.get? b=some o->w1.get? b=some o:=fun b o h e=>b1.extBut b o h e;refine δ (δ (nT ?_));show ρ _ _ (cE (.ref j1) >>= _) _ _ _;cases hx:xs[m]? with
 |none=>
  refine δ (Je hh (g1.of fun o e=>k1_ _ o D.i1z e) (s1.of fun o e=>k1_ _ o D.l1z e) hx fun w2 e b2 hs=>?_);obtain⟨oe,e1,e2⟩:=hs;have Z2:kX w2 zz ti ot .ellipsis:=b2 _ _ D.i1z.symm Z1;have ez:e≠zz:=fun x=>by
   subst x;rw[Z2] at e1;cases e1;simp at e2
  exact bU Z2 (by simp) fun w3 _ b3=>q w3 e (fun b o c1 _ c3 _ x=>b3.extBut _ _ c1 (b2 _ _ c3 (k1_ b o c1 x))) ⟨oe,b3.extBut _ _ ez e1,e2⟩
 |some u=>
  have hy:ys[n]?=none:=by
   rcases he with h|h
   ·rw[hx] at h;cases h
   ·exact h
  refine δ (nextK (g1.of fun o e=>k1_ _ o D.i1z e) (s1.of fun o e=>k1_ _ o D.l1z e) hx fun w2 J1 b2=>ι ?_);have k2_:∀b o,b≠zz->b≠j1->s.heap.get? b=some o->w2.get? b=some o:=fun b o h h2 e=>b2.extBut b o h2 (k1_ b o h e);have To2:gP w2 ot c d:=k2_ _ _ D.TOz D.TOi1 To;refine δ (eE To2 rfl ?_);refine δ (me To2 fun w3 To3 b3=>?_);have k3_:∀b o,b≠zz->b≠j1->b≠ot->s.heap.get? b=some o->w3.get? b=some o:=fun b o h h2 h3 e=>b3.extBut b o h3 (k2_ b o h h2 e);refine δ (qL (ι ?_));refine δ (δ (nT ?_));show ρ _ _ (cE (.ref j2) >>= _) _ _ _;refine δ (Je hh (g2.of fun o e=>k3_ _ o D.i2z D.i12.symm D.TOi2.symm e) (s2.of fun o e=>k3_ _ o D.l2z D.l2i1 D.l2TO e) hy fun w4 e b4 hs=>?_);obtain⟨oe,e1,e2⟩:=hs;have Z4:kX w4 zz ti ot .ellipsis:=b4 _ _ D.i2z.symm (b3.extBut _ _ D.TOz.symm (b2.extBut _ _ D.i1z.symm Z1));have ez:e≠zz:=fun x=>by
   subst x;rw[Z4] at e1;cases e1;simp at e2
  exact bU Z4 (by simp) fun w5 _ b5=>q w5 e (fun b o c1 c2 c3 c4 x=>b5.extBut _ _ c1 (b4 _ _ c4 (k3_ b o c1 c3 c2 x))) ⟨oe,b5.extBut _ _ ez e1,e2⟩
end
end L3
namespace L3
open PySem PySem.Spec PyProof.Rows L2
open Sem (wp)
section
variable {X:Cx} {pins:List (ζ×aK)} {σ:L2.St} {H:Hp} {s:θ}
theorem uG{h':Φ}{t':Nat}{fp:List ζ}(I:L2.Inv X pins σ H s)(k:∀b o,b∉fp->s.heap.get? b=some o->h'.get? b=some o)(hf:∀b∈fp,kz X pins H b):L2.Inv X pins σ H { s with heap:=h',toks:=t' }:=by
 have nit:∀b u,H b=some u->b∉fp:=fun b u e z=>by rw[(hf b z).1] at e;cases e
 refine I.step (g':=s.gens) (d':=s.drawn) (ch:=fp) (fun b hb=>?_) (fun b o _ _ hc e _=>k b o hc e) (fun b o _ _ hc e _=>⟨o.slots,k b o hc e⟩) (fun _ _ _ _ n=>n) (fun b o hc e=>⟨o,k b o hc e⟩) (fun _ _ e=>e) (fun _ _ _ e=>e) (fun b ps e=>⟨#[],by rw[e];simp⟩) (fun m hm=>?_) (fun b u e=>?_) I.bare
 ·obtain⟨f0,f1,f2,f3,f4,f5⟩:=hf b hb;exact⟨f3,f1,f4,f5⟩
 ·obtain⟨o,es,ep,ho,r⟩:=hm;exact⟨o,es,ep,k _ o (fun z=>(hf _ z).2.1 rfl) ho,r⟩
 ·refine (I.bR b u e).mK (fun c v hc q=>k c v ?_ q) (fun _ q=>q) fun _ _ q=>q;rcases hc with z|z
  ·rw[z];exact nit b u e
  ·exact nit c _ z
def om(K:η)(k:Bool)(H:Hp)(a:ζ)(xs:List V):Prop:=match k with
 |true=>eU K H a xs
 |false=>cG K H a xs
theorem om.heap{k:Bool}{a:ζ}{xs:List V}(I:L2.Inv X pins σ H s)(h:om X.K k H a xs):∃its,bj xs its/\Sk k s.heap a its.toArray:=by
 cases k with
 |true=>
  obtain⟨its,rv,p,hz⟩:=I.list (show eU X.K H a xs from h);exact⟨its,rv,p.isList⟩
 |false=>
  obtain⟨its,rv,p,hz⟩:=I.tuple (show cG X.K H a xs from h);exact⟨its,rv,p⟩
theorem om.inj{k:Bool}{a:ζ}{xs ys:List V}(I:L2.Inv X pins σ H s)(h:om X.K k H a xs)(h':om X.K k H a ys):xs=ys:=by
 cases k with
 |true=>exact I.yT (show eU X.K H a xs from h) (show eU X.K H a ys from h')
 |false=>exact I.xy (show cG X.K H a xs from h) (show cG X.K H a ys from h')
theorem om.apart{k:Bool}{a b:ζ}{xs:List V}(I:L2.Inv X pins σ H s)(h:om X.K k H a xs)(f:kz X pins H b):a≠b:=by
 intro z;subst z;have hb:(∃u,H a=some u)∨∃o,X.K.lookup a=some o:=by
  cases k <;>
  ·rcases h with (h|⟨o,h⟩)|⟨o,_,_,h,_⟩
   ·exact .inl ⟨_,h⟩
   ·exact .inl ⟨_,h⟩
   ·exact .inr ⟨_,h⟩
 rcases hb with⟨u,e⟩|⟨o,e⟩
 ·rw[f.1] at e;cases e
 ·have e2:=I.mod.t9 a o e;rcases f.2.2.2.1 with q|q
  ·exact I.ok.vS a o e2 q
  ·exact absurd (bE (Θ (I.ok.bs a o e2).1) q) (cy _)
end
def MH(K:η)(k1 k2:Bool)(a1 a2:ζ):It:=
 ⟨fun i H=>∃xs ys x y,(om K k1 H a1 xs/\xs[i]?=some x)/\om K k2 H a2 ys/\ys[i]?=some y,
  fun i H x H'=>∃T u v,x=.ref T/\H T=none/\H'=upd H T (.tup [u,v])/\(∀xs,om K k1 H a1 xs->xs[i]?=some u)/\∀ys,om K k2 H a2 ys->ys[i]?=some v,
  fun i H=>∃xs ys,om K k1 H a1 xs/\om K k2 H a2 ys/\(xs.length≤i∨ys.length≤i)⟩
theorem Mv{zz ti ot j1 j2 a1 a2:ζ}(h:[zz,ti,ot,j1,j2].Nodup)(h1:∀b∈[zz,ti,ot,j1,j2],a1≠b)(h2:∀b∈[zz,ti,ot,j1,j2],a2≠b):ZipApart zz ti ot j1 j2 a1 a2:=by
 simp only[dU,aa,not_or,aZ,not_false_eq_true,j8,and_true] at h;obtain⟨⟨n1,n2,n3,n4⟩,⟨n5,n6,n7⟩,⟨n8,n9⟩,n10⟩:=h;exact⟨de n1,de n2,de n3,de n4,n5,n6,n7,n8,n9,n10,h1 _ (by simp),h1 _ (by simp),h1 _ (by simp),h1 _ (by simp),h2 _ (by simp),h2 _ (by simp),h2 _ (by simp),h2 _ (by simp)⟩
theorem Ss{P:ah}{w:ax}{K:η}{es:List υ}{n0:Nat}{ps:aQ}(k1 k2:Bool)(a1 a2 zz ti ot j1 j2:ζ)(hd:[zz,ti,ot,j1,j2].Nodup):
  Turn P w K (.Tuple es n0 ps) (MH K k1 k2 a1 a2) [zz,ti,ot,j1,j2] zz (fun i h=>kX h zz ti ot .none/\gP h ti (.ref j1) (.ref j2)/\(∃c d,gP h ot c d)/\Ik k1 h j1 a1 i/\Ik k2 h j2 a2 i) where
 mem:=by simp
 obj:=fun i h st b hb=>by
  obtain⟨Z,Ti,⟨c,d,To⟩,g1,g2⟩:=st;simp only[aa,aZ,or_false] at hb;rcases hb with rfl|rfl|rfl|rfl|rfl
  ·exact⟨_,Z,fun v z=>by cases (show vA _=qu v from z)⟩
  ·exact⟨_,Ti,fun v z=>by cases (show Data.seq _ _=qu v from z)⟩
  ·exact⟨_,To,fun v z=>by cases (show Data.seq _ _=qu v from z)⟩
  ·exact g1.obj
  ·exact g2.obj
 keep:=fun i h h' st k=>by
  obtain⟨Z,Ti,⟨c,d,To⟩,g1,g2⟩:=st;exact⟨k _ (by simp) _ Z,k _ (by simp) _ Ti,⟨c,d,k _ (by simp) _ To⟩,g1.of fun o e=>k _ (by simp) _ e,g2.of fun o e=>k _ (by simp) _ e⟩
 item:=by
  intro X hP hw hK hc i pins s σ H E I hf st hg;subst hP hw hK;obtain⟨Z,Ti,⟨c,d,To⟩,g1,g2⟩:=st;obtain⟨xs,ys,x,y,⟨q1,hx⟩,q2,hy⟩:=hg;obtain⟨its1,rv1,p1⟩:=q1.heap I;obtain⟨its2,rv2,p2⟩:=q2.heap I;obtain⟨u,hu,ru⟩:=rv1.get hx;obtain⟨v,hv,rv⟩:=rv2.get hy;have D:=Mv hd (fun b hb=>q1.apart I (hf b hb)) (fun b hb=>q2.apart I (hf b hb));have hT:s.TypeIs (.ref zz) "zip":=⟨_,Z,rfl⟩;unfold pyNext;refine δ (gr (ck (name:=fk "__next__") hT F.slot_zip_next (bX F.slot_zip_next hT F.entry_zip_next (ML D Z Ti To g1 g2 p1 p2 (u:=u) (v:=v) (by simpa using hu) (by simpa using hv) fun h' Z' To' g1' g2' T' kp=>?_) (F.args_zip_next_1 _))));refine ι ⟨_,rfl,?_⟩;refine wpAny_letOwnedTupleGo_zip Z' fun h2 Z2 b2=>?_;have hn:H s.heap.objs.size=none:=I.bR.fresh (Ψ _);have I1:L2.Inv X pins σ (upd H s.heap.objs.size (.tup [x,y])) { s with heap:=s.heap.push { cls:=.type "tuple",data:=.seq #[u,v]}}:=I.laid (t':=s.toks) (fun b o e=>μ _ e) (Ψ _) ⟨by show 2≤au;decide,[u,v],.cons ru (.cons rv .nil),⟨_,ag _ rfl,rfl,⟨_,rfl⟩,rfl⟩⟩;have lt:∀b∈[zz,ti,ot,j1,j2],b<s.heap.objs.size:=fun b hb=>by
   simp only[aa,aZ,or_false] at hb;rcases hb with rfl|rfl|rfl|rfl|rfl
   ·exact Θ Z
   ·exact Θ Ti
   ·exact Θ To
   ·obtain⟨o,e,_⟩:=g1.obj;exact Θ e
   ·obtain⟨o,e,_⟩:=g2.obj;exact Θ e
  have hf':∀b∈[zz,ti,ot,j1,j2],kz X pins (upd H s.heap.objs.size (.tup [x,y])) b:=fun b hb=>⟨by rw[dz (bh (lt b hb))];exact (hf b hb).1,(hf b hb).2⟩;have I2:L2.Inv X pins σ (upd H s.heap.objs.size (.tup [x,y])) { s with heap:=h2 }:=uG (s:={ s with heap:=s.heap.push { cls:=.type "tuple",data:=.seq #[u,v]}}) (t':=s.toks) I1 (fun b o hb e=>by
   simp only[aa,aZ,or_false,not_or] at hb;refine b2.extBut b o hb.1 ?_;rcases sR e with⟨rfl,rfl⟩|e
   ·exact T'
   ·exact kp b o hb.1 hb.2.2.1 hb.2.2.2.1 hb.2.2.2.2 e) hf'
  refine⟨.ref s.heap.objs.size,_,I2,rfl,⟨_,x,y,rfl,hn,rfl,fun zs hz=>by rw[hz.inj I q1];exact hx,fun zs hz=>by rw[hz.inj I q2];exact hy⟩,⟨Z2,?_,⟨u,v,?_⟩,g1'.of fun o e=>b2.extBut _ _ D.i1z e,g2'.of fun o e=>b2.extBut _ _ D.i2z e⟩,fun b hb=>(hf' b hb).1⟩
  ·exact b2.extBut _ _ D.TIz (kp _ _ D.TIz D.TITO D.TIi1 D.TIi2 Ti)
  ·exact b2.extBut _ _ D.TOz To'
 done:=by
  intro X hP hw hK hc i pins s σ H E I hf st hg;subst hP hw hK;obtain⟨Z,Ti,⟨c,d,To⟩,g1,g2⟩:=st;obtain⟨xs,ys,q1,q2,hl⟩:=hg;obtain⟨its1,rv1,p1⟩:=q1.heap I;obtain⟨its2,rv2,p2⟩:=q2.heap I;have D:=Mv hd (fun b hb=>q1.apart I (hf b hb)) (fun b hb=>q2.apart I (hf b hb));have hT:s.TypeIs (.ref zz) "zip":=⟨_,Z,rfl⟩;have l1:=rv1.length;have l2:=rv2.length;unfold pyNext;refine δ (gr (ck (name:=fk "__next__") hT F.slot_zip_next (bX F.slot_zip_next hT F.entry_zip_next (Su (I.ok.hd hc) D Z Ti To g1 g2 p1 p2 (by
   rcases hl with h|h
   ·exact .inl (by simp;lia)
   ·exact .inr (by simp;lia)) fun h' e kp hs=>?_) (F.args_zip_next_1 _))))
  obtain⟨o,ho,hcl⟩:=hs;refine δ (lp (T:="StopIteration") (b:=true) ⟨o,ho,hcl⟩ rm ?_);refine ι ⟨rfl,uG (t':=s.toks) I (fun b o hb e=>?_) hf⟩;simp only[aa,aZ,or_false,not_or] at hb;exact kp b o hb.1 hb.2.2.1 hb.2.2.2.1 hb.2.2.2.2 e
 self:=fun _ _ _ _ _ st h=>wpAny_pyIter_zip st.1 h
def zC(k:Bool)(a:ζ):aK:=match k with
 |true=>{ cls:=.type "list_iterator",data:=.fields #[.ref a,.int 0 0]}
 |false=>{ cls:=.type "tuple_iterator",data:=.fields #[.ref a,.int 0 0]}
def B3(k1:Bool)(h:Φ)(a1:ζ):Φ:=h.push (zC k1 a1)
def B2(k1 k2:Bool)(h:Φ)(a1 a2:ζ):Φ:=(B3 k1 h a1).push (zC k2 a2)
def B1(k1 k2:Bool)(h:Φ)(a1 a2:ζ):Φ:=(B2 k1 k2 h a1 a2).push { cls:=.type "tuple",data:=.seq #[.ref h.objs.size,.ref (B3 k1 h a1).objs.size]}
def zr(k1 k2:Bool)(h:Φ)(a1 a2:ζ):Φ:=(B1 k1 k2 h a1 a2).push { cls:=.type "tuple",data:=.seq #[.none,.none]}
def lK(k1 k2:Bool)(h:Φ)(a1 a2:ζ):Φ:=(zr k1 k2 h a1 a2).push { cls:=.type "zip",data:=.fields #[.none,.bool false,.bool false,.ref (B2 k1 k2 h a1 a2).objs.size,.ref (B1 k1 k2 h a1 a2).objs.size]}
theorem MA{k:Bool}{h:Φ}{jt a:ζ}(e:h.get? jt=some (zC k a)):Ik k h jt a 0:=by
 cases k<;>exact⟨_,e,rfl,rfl⟩
theorem Jd{k:Bool}{a:ζ}:(zC k a).isFreed=false:=by cases k<;>rfl
theorem Sr(k1 k2:Bool)(a1 a2:ζ)(xs ys:Array ε):Meets (df.«zip.__new__» ⟨[.type "zip",.ref a1,.ref a2],[]⟩) (fun _ R s=>Sk k1 s.heap a1 xs/\Sk k2 s.heap a2 ys ∧
   R (.ok (.ret (.ref (zr k1 k2 s.heap a1 a2).objs.size))) { s with heap:=lK k1 k2 s.heap a1 a2 }):=
 .of_wp fun prog w A R s h=>by
  obtain⟨hp,g,d,tk,os⟩:=s;obtain⟨h1,h2,h⟩:=h;have hsub:=sub_zip;cases k1<;>cases k2
  ·have q1:pZ (ij ⟨hp,g,d,tk,os⟩) a1 xs:=h1;have q2:pZ (ij ⟨hp.push { cls:=.type "tuple_iterator",data:=.fields #[.ref a1,.int 0 0]},g,d,tk,os⟩) a2 ys:=u9 h2 _;wp_walk using hX q1,hX q2;exact⟨_,rfl,h⟩
  ·have q1:pZ (ij ⟨hp,g,d,tk,os⟩) a1 xs:=h1;have q2:qU (ij ⟨hp.push { cls:=.type "tuple_iterator",data:=.fields #[.ref a1,.int 0 0]},g,d,tk,os⟩) a2 ys:=wa h2 _;wp_walk using hX q1,fw q2;exact⟨_,rfl,h⟩
  ·have q1:qU (ij ⟨hp,g,d,tk,os⟩) a1 xs:=h1;have q2:pZ (ij ⟨hp.push { cls:=.type "list_iterator",data:=.fields #[.ref a1,.int 0 0]},g,d,tk,os⟩) a2 ys:=u9 h2 _;wp_walk using fw q1,hX q2;exact⟨_,rfl,h⟩
  ·have q1:qU (ij ⟨hp,g,d,tk,os⟩) a1 xs:=h1;have q2:qU (ij ⟨hp.push { cls:=.type "list_iterator",data:=.fields #[.ref a1,.int 0 0]},g,d,tk,os⟩) a2 ys:=wa h2 _;wp_walk using fw q1,fw q2;exact⟨_,rfl,h⟩
theorem Jc{k1 k2:Bool}{h:Φ}{a1 a2:ζ}:kX (lK k1 k2 h a1 a2) (h.objs.size+4) (h.objs.size+2) (h.objs.size+3) .none/\gP (lK k1 k2 h a1 a2) (h.objs.size+2) (.ref h.objs.size) (.ref (h.objs.size+1))/\gP (lK k1 k2 h a1 a2) (h.objs.size+3) .none .none ∧
  Ik k1 (lK k1 k2 h a1 a2) h.objs.size a1 0/\Ik k2 (lK k1 k2 h a1 a2) (h.objs.size+1) a2 0/\(zr k1 k2 h a1 a2).objs.size=h.objs.size+4/\∀c o,h.get? c=some o->(lK k1 k2 h a1 a2).get? c=some o:=by
 have e1:(B3 k1 h a1).objs.size=h.objs.size+1:=dN ..;have e2:(B2 k1 k2 h a1 a2).objs.size=h.objs.size+2:=(dN ..).trans (by rw[e1]);have e3:(B1 k1 k2 h a1 a2).objs.size=h.objs.size+3:=(dN ..).trans (by rw[e2]);have e4:(zr k1 k2 h a1 a2).objs.size=h.objs.size+4:=(dN ..).trans (by rw[e3]);have u5:∀c o,(zr k1 k2 h a1 a2).get? c=some o->(lK k1 k2 h a1 a2).get? c=some o:=fun c o e=>μ _ e;have u4:∀c o,(B1 k1 k2 h a1 a2).get? c=some o->(lK k1 k2 h a1 a2).get? c=some o:=fun c o e=>u5 c o (μ _ e);have u3:∀c o,(B2 k1 k2 h a1 a2).get? c=some o->(lK k1 k2 h a1 a2).get? c=some o:=fun c o e=>u4 c o (μ _ e);have u2:∀c o,(B3 k1 h a1).get? c=some o->(lK k1 k2 h a1 a2).get? c=some o:=fun c o e=>u3 c o (μ _ e);have u1:∀c o,h.get? c=some o->(lK k1 k2 h a1 a2).get? c=some o:=fun c o e=>u2 c o (μ _ e);have g5:(lK k1 k2 h a1 a2).get? (zr k1 k2 h a1 a2).objs.size=some _:=ag _ rfl;have g4:(lK k1 k2 h a1 a2).get? (B1 k1 k2 h a1 a2).objs.size=some _:=u5 _ _ (ag _ rfl);have g3:(lK k1 k2 h a1 a2).get? (B2 k1 k2 h a1 a2).objs.size=some _:=u4 _ _ (ag _ rfl);have g2:(lK k1 k2 h a1 a2).get? (B3 k1 h a1).objs.size=some (zC k2 a2):=u3 _ _ (ag _ Jd);have g1:(lK k1 k2 h a1 a2).get? h.objs.size=some (zC k1 a1):=u2 _ _ (ag _ Jd);rw[e2,e3,e4] at g5;rw[e1,e2] at g3;rw[e3] at g4;rw[e1] at g2;exact⟨g5,g3,g4,MA g1,MA g2,e4,u1⟩
theorem Sq{P:ah}{w:ax}{A:aL}{E:ε->θ->Prop}{s:θ}{k1 k2:Bool}{a1 a2:ζ}{xs ys:Array ε}{Q:ε->θ->Prop}(h1:Sk k1 s.heap a1 xs)(h2:Sk k2 s.heap a2 ys)
  (q:Q (.ref (s.heap.objs.size+4)) { s with heap:=lK k1 k2 s.heap a1 a2 }):ρ (model P w) A (call (.type "zip") [.ref a1,.ref a2]) Q E s:=by
 refine callType_new F.called_zip (by decide) (F.typeCall_zip_2 _ _) (F.newCall_zip_2 _ _) (fun obj=>F.args_object_init_3 obj _ _) F.entry_zip_new (Sr k1 k2 a1 a2 xs ys) ⟨h1,h2,?_⟩;obtain⟨z1,_,_,_,_,z2,_⟩:=Jc (k1:=k1) (k2:=k2) (h:=s.heap) (a1:=a1) (a2:=a2);show _/\_;rw[z2];exact⟨⟨_,z1,rfl⟩,q⟩
section
variable {X:Cx} {es:List υ} {n0:Nat} {ps p pos:aQ}
def Yj(K:η)(ta:TA):TI:=fun σ H R=>ta σ H fun vs H1=>∃k1 k2 a1 a2,vs=[.ref a1,.ref a2]/\(∃xs,om K k1 H1 a1 xs)/\(∃ys,om K k2 H1 a2 ys)/\R (MH K k1 k2 a1 a2) H1
theorem Sn{a b:υ}{ta:TA}(hg:Gl X "zip")(hm:X.mg "zip" = none)(ha:PA X [a,b] ta)(hs:bW [a,b] X.env=[(false,eval a X.env),(false,eval b X.env)]:=by rfl)(hs2:bW [b] X.env=[(false,eval b X.env)]:=by rfl):
  PI X (.Tuple es n0 ps) (.Call (.Name "zip" p) [a,b] [] pos) (Yj X.K ta):=by
 intro pins s σ H R I h;refine Call_ (yF I hg hm boot_zip (iO (bN (ha pos pins s σ H _ I h) fun us s1 ⟨vs,H1,I1,r1,q1⟩=>?_) (by rw[hs,hs2]) (by rw[hs2];rfl)));obtain⟨k1,k2,a1,a2,e,⟨xs,q1⟩,⟨ys,q2⟩,q⟩:=q1;subst e;cases r1 with
 |cons r rr=>
  cases rr with
  |cons r' rr=>
   cases rr;cases r;cases r';obtain⟨its1,rv1,p1⟩:=q1.heap I1;obtain⟨its2,rv2,p2⟩:=q2.heap I1;refine Sq p1 p2 ?_;obtain⟨z1,z2,z3,z4,z5,z6,z7⟩:=Jc (k1:=k1) (k2:=k2) (h:=s1.heap) (a1:=a1) (a2:=a2);refine wpAny_pyIter_zip (s:={ s1 with heap:=lK k1 k2 s1.heap a1 a2 }) z1 ?_
   refine⟨s1.heap.objs.size+4,[s1.heap.objs.size+4,s1.heap.objs.size+2,s1.heap.objs.size+3,s1.heap.objs.size,s1.heap.objs.size+1],_,_,H1,rfl,I1.kept (t':=s1.toks) z7,Ss k1 k2 a1 a2 _ _ _ _ _ (by simp),⟨z1,z2,⟨_,_,z3⟩,z4,z5⟩,fun b hb=>?_,q⟩;have hb:s1.heap.objs.size≤b:=by
    simp only[aa,aZ,or_false] at hb;rcases hb with rfl|rfl|rfl|rfl|rfl
    ·exact gN _ _
    ·exact gN _ _
    ·exact gN _ _
    ·exact Ψ _
    ·exact gN _ _
   exact I1.ud hb (I1.bR.fresh hb)
def lM(G:Gp):D->List D->Prop
 |.obj p,ds=>G p=some (.lst ds)
 |.tup es,ds=>ds=es
 |.eS es,ds=>ds=es
 |_,_=>False
def qx(xs ys:List D):List D:=uw (fun x y=>.tup [x,y]) xs ys
def vV(ta:dF):pC:=fun τ G R=>ta τ G fun ds G1=>match ds with
 |[x,y]=>∃xs ys,lM G1 x xs/\lM G1 y ys/\R ⟨qx xs ys,fun G=>lM G x xs/\lM G y ys⟩ G1
 |_=>False
theorem Jb{K:η}{H:Hp}{x:D}{v:V}(hv:Hv K H x v):∃k,∀H' G' xs,Ext H H'->aT K G' H'->lM G' x xs->∃a vs,v=.ref a/\om K k H' a vs/\aO K H' xs vs:=by
 cases x with
 |obj p=>
  unfold Hv at hv;subst hv;refine⟨true,fun H' G' xs E RG h=>?_⟩;obtain⟨vs,e2,e3⟩:=RG p _ h;exact⟨p,vs,rfl,eU.of e2,e3⟩
 |tup es=>
  unfold Hv at hv;obtain⟨a,vs,rfl,e2,e3⟩:=hv;refine⟨false,fun H' G' xs E RG h=>?_⟩;cases (show xs=es from h);exact⟨a,vs,rfl,cG.ext E e2,e3.ext E⟩
 |eS es=>
  unfold Hv at hv;obtain⟨a,vs,rfl,e2,e3⟩:=hv;refine⟨true,fun H' G' xs E RG h=>?_⟩;cases (show xs=es from h);exact⟨a,vs,rfl,(oo.ext E e2).l,e3.ext E⟩
 |aC=>exact⟨true,fun _ _ _ _ _ h=>h.elim⟩
 |bl _=>exact⟨true,fun _ _ _ _ _ h=>h.elim⟩
 |int _=>exact⟨true,fun _ _ _ _ _ h=>h.elim⟩
 |str _=>exact⟨true,fun _ _ _ _ _ h=>h.elim⟩
 |dc _=>exact⟨true,fun _ _ _ _ _ h=>h.elim⟩
theorem Sm{xs ys:List D}{i:Nat}{d:D}(h:(qx xs ys)[i]?=some d):∃x y,xs[i]?=some x/\ys[i]?=some y/\d=.tup [x,y]:=by
 unfold qx at h;rw[lI] at h;cases hx:xs[i]? with
 |none=>rw[hx] at h;cases h
 |some x=>
  cases hy:ys[i]? with
  |none=>rw[hx,hy] at h;cases h
  |some y=>
   rw[hx,hy] at h;cases h;exact⟨x,y,rfl,rfl,rfl⟩
theorem Sl{a b:υ}{ta:dF}(hm:X.mg "zip" = none)(ha:ki X [a,b] ta)(hg:Gl X "zip":=by rfl)(hs:notStar a=true:=by rfl)(hs2:notStar b=true:=by rfl):
  xG X (.Tuple es n0 ps) (.Call (.Name "zip" p) [a,b] [] pos) (vV ta):=
 Eh (Sn hg hm ha (by rw[gu hs,gu hs2];rfl) (gu hs2)) fun σ H R ⟨τ,G,R3,RS,RG,h,k⟩=>⟨τ,G,_,RS,RG,h,fun vs H1 ds G1 h1 S1 R1 q1=>by
  rcases ds with _|⟨d,_|⟨d2,_|⟨d3,ds⟩⟩⟩
  ·exact q1.elim
  ·exact q1.elim
  ·obtain⟨xs,ys,s1,s2,q⟩:=q1;obtain⟨v,r,rfl,z1,z2⟩:=h1.inv;obtain⟨v',r',rfl,z3,z4⟩:=z2.inv;cases z4.jk;obtain⟨k1,f1⟩:=Jb z1;obtain⟨k2,f2⟩:=Jb z3;obtain⟨a1,vs1,rfl,y1,w1⟩:=f1 _ _ _ (Ext.refl _) R1 s1;obtain⟨a2,vs2,rfl,y2,w2⟩:=f2 _ _ _ (Ext.refl _) R1 s2;refine⟨k1,k2,a1,a2,rfl,⟨_,y1⟩,⟨_,y2⟩,k _ _ _ _ ⟨?_,?_⟩ S1 R1 q⟩
   ·intro i d H' G' E' RG' hg hi;obtain⟨x,y,e1,e2,rfl⟩:=Sm hi;obtain⟨b1,us1,c1,m1,n1⟩:=f1 _ _ _ E' RG' hg.1;obtain⟨b2,us2,c2,m2,n2⟩:=f2 _ _ _ E' RG' hg.2;cases c1;cases c2;obtain⟨u1,o1,o2⟩:=n1.get e1;obtain⟨u2,o3,o4⟩:=n2.get e2;refine⟨⟨_,_,_,_,⟨m1,o1⟩,m2,o3⟩,fun x' H'' hy=>?_⟩;obtain⟨T,u,v,rfl,hn,rfl,t1,t2⟩:=hy;have:=t1 _ m1;rw[o1] at this;cases this;have:=t2 _ m2;rw[o3] at this;cases this;refine⟨?_,.laid hn,RG'.laid hn⟩;unfold Hv;exact⟨T,_,rfl,.of gW,.cons (o2.ext (.laid hn)) (.cons (o4.ext (.laid hn)) .nil)⟩
   ·intro i H' G' E' RG' hg hi;obtain⟨b1,us1,c1,m1,n1⟩:=f1 _ _ _ E' RG' hg.1;obtain⟨b2,us2,c2,m2,n2⟩:=f2 _ _ _ E' RG' hg.2;cases c1;cases c2;refine⟨_,_,m1,m2,?_⟩;have hi:(qx xs ys).length≤i:=hi;unfold qx at hi;rw[mI] at hi;rw[←n1.length,←n2.length];lia
  ·exact q1.elim⟩
end
end L3
namespace L2
open PySem PySem.Spec PyProof.Rows
section
variable {X:Cx}
theorem Sj:Ln X (CI X.K):=by
 intro pins s σ H x y v u Q I rx ry h;obtain⟨p,xs,i,z,rfl,rfl,hq,he,q⟩:=h;cases rx;obtain⟨t,rfl⟩:=ry;obtain⟨its,r,pl,hz⟩:=I.list hq;obtain⟨j,h1,h2,h3,h4,h5⟩:=AK he;obtain⟨w,ew,rw'⟩:=r.get h2;have hl:=r.length;have hn:=pk;have fin:EP X pins σ Q w s:=⟨z,H,I,rw',q⟩;by_cases h0:0≤i
 ·have hj:i.toNat=j:=by
   rw[qM h0 h5] at h1;exact aJ h1
  exact wpAny_getItem_list pl.isList h0 (by lia) (by rw[hj];simpa using ew) fin
 ·have hj:(i+(its.toArray.size:Int)).toNat=j:=by
   rw[seqIndex_neg (by lia) h4] at h1;rw[ψ,←hl];exact aJ h1
  exact wpAny_getItem_list_neg pl.isList (by lia) (by rw[ψ]<;>lia) (by lia) (by rw[hj];simpa using ew) fin
end
end L2
namespace L3
open PySem PySem.Spec PyProof.Rows L2
section
variable {X:Cx} {tg:υ} {p pos:aQ}
theorem Si{o i e:υ}{to ti te:aP}{tpos:aQ}(ho:bS X o to)(hi:bS X i ti)(he:bS X e te)
  (ha:∀ov iv new,augStore i ov iv new=(do holding [new,ov,iv] (setItem ov iv new);release [new,ov,iv] [];pure .next):=by intros;rfl):
  pF X (.AugAssign (.Subscript o i tpos) .Add e pos) (zR to ti te (· + ·)):=
 pj (VF ho hi Sj he VE set_list ha) fun D σ H ⟨τ,G,D3,RS,RG,h,k⟩=>by
  refine⟨τ,G,_,RS,RG,h,fun v1 H1 d1 G1 h1 S1 R1 q1=>⟨τ,G1,_,RS.ext (S1.ext RG),R1,q1,fun v2 H2 d2 G2 h2 S2 R2 q2=>?_⟩⟩;cases d1 with
  |obj p=>
   cases d2 with
   |int j=>
    obtain⟨ds,x,e1,e2,q⟩:=q2;obtain⟨vs,z1,z2⟩:=R2 p _ e1;obtain⟨v,z3,z4⟩:=yC z2 e2;have hv1:v1=.ref p:=iq h1;have hv2:v2=.int j:=i6 h2;refine⟨p,vs,j,v,hv1,hv2,.of z1,z3,⟨τ,G2,_,(RS.ext (S1.ext RG)).ext (S2.ext R1),R2,q,fun v5 H5 d5 G5 h5 S5 R5 q5=>?_⟩⟩;cases d5 with
    |int y=>
     have hx:v=.int x:=i6 z4;have hy:v5=.int y:=i6 h5;refine⟨x,y,hx,hy,?_⟩;exact Ky (((h1.ext (S2.ext R1)).ext (S5.ext R2))) ((h2.ext (S5.ext R2))) nv R5 q5 fun H' G' y1 y2 y3=>k.nx _ _ G' H' ((((RS.ext (S1.ext RG)).ext (S2.ext R1)).ext (S5.ext R2)).ext (y1.ext R5)) (((S1.trans S2).trans S5).trans y1) y2 y3
    |_=>exact q5.elim
   |_=>exact q2.elim
  |_=>cases d2<;>exact q2.elim
end
end L3
namespace L3
open PySem PySem.Spec PyProof.Rows L2
structure QE(X:Cx)(e:υ)(t:aP):Prop where
 of:bS X e t
structure QT(X:Cx)(e:υ)(t:cS):Prop where
 of:rf X e t
structure QW(X:Cx)(e:υ)(t:cS):Prop where
 of:xF X e t
structure QA(X:Cx)(es:List υ)(t:dF):Prop where
 of:ki X es t
structure QS(X:Cx)(st:aR)(t:ao):Prop where
 of:pF X st t
structure qj(X:Cx)(st:List aR)(t:ao):Prop where
 of:jm X st t
structure QG(X:Cx)(tg:υ)(t:iM):Prop where
 of:wA X tg t
structure Fx(X:Cx)(tgs:List υ)(t:pD):Prop where
 of:zi X tgs t
structure QI(X:Cx)(tg iter:υ)(t:pC):Prop where
 of:xG X tg iter t
structure QO(X:Cx)(e:Option υ)(t:xD):Prop where
 of:Cu X e t
structure QC(X:Cx)(ifs:List υ)(t:cS):Prop where
 of:vj X ifs (sh X.K t)
section
variable {X:Cx} {a b e c:υ} {ta tb te:aP} {tA tB:cS} {pos:aQ} {es rest:List υ}
theorem χ{i:Nat}{x:ξ}(h:PE X (.Name x pos) (zM i)):QE X (.Name x pos) (ο i):=⟨UD (h:=h)⟩
end
section
variable {X:Cx} {a b e c:υ} {ta tb te:aP} {tA tB:cS} {pos:aQ} {es rest:List υ}
theorem aH{i:Int}{j}:QE X (.Constant (.int i) j pos) (eC (.int i)):=⟨UC ⟩
end
section
variable {X:Cx} {a b e c:υ} {ta tb te:aP} {tA tB:cS} {pos:aQ} {es rest:List υ}
theorem qG{i:Bool}{j}:QE X (.Constant (.bool i) j pos) (eC (.bl i)):=⟨Ys ⟩
end
section
variable {X:Cx} {a b e c:υ} {ta tb te:aP} {tA tB:cS} {pos:aQ} {es rest:List υ}
theorem As{j}:QE X (.Constant .none j pos) (eC .aC):=⟨UB ⟩
end
section
variable {X:Cx} {a b e c:υ} {ta tb te:aP} {tA tB:cS} {pos:aQ} {es rest:List υ}
theorem rW{x:ξ}{j}:QE X (.Constant (.str x) j pos) (eC (.str x)):=⟨UA ⟩
end
section
variable {X:Cx} {a b e c:υ} {ta tb te:aP} {tA tB:cS} {pos:aQ} {es rest:List υ}
theorem Rx{x:ξ}{i:Int}{u:Tok}(hm:X.mg x=some (.int i u))(hg:Gl X x:=by rfl)(hd:(x==("__debug__":ξ))=false:=by decide):QE X (.Name x pos) (eC (.int i)):=⟨Uz (hm:=hm) (hg:=hg) (hd:=hd)⟩
end
section
variable {X:Cx} {a b e c:υ} {ta tb te:aP} {tA tB:cS} {pos:aQ} {es rest:List υ}
theorem bu{op:sP}{r:R3}{r2:R2}(L:gq X.K r r2)(ho:fi X (binaryOp op) r2)(ha:QE X a ta)(hb:QE X b tb):QE X (.BinOp a op b pos) (aq r ta tb):=⟨Yq (L:=L) (ho:=ho) (ha:=ha.of) (hb:=hb.of)⟩
end
section
variable {X:Cx} {a b e c:υ} {ta tb te:aP} {tA tB:cS} {pos:aQ} {es rest:List υ}
theorem yx{op:CmpOp}{r:R3}{r2:R2}(L:gq X.K r r2)(ho:fi X (compareOp op) r2)(ha:QE X a ta)(hb:QE X b tb)(hm:behindInMarks op b=false):QE X (.Compare a [op] [b] pos) (aq r ta tb):=⟨Uy (L:=L) (ho:=ho) (ha:=ha.of) (hb:=hb.of) (hm:=hm)⟩
end
section
variable {X:Cx} {a b e c:υ} {ta tb te:aP} {tA tB:cS} {pos:aQ} {es rest:List υ}
theorem kE{op:CmpOp}{r:R3}{r2:R2}(L:gq X.K r r2)(ho:fi X (compareOp op) r2)(ha:QE X a ta)(hb:QE X b tb)(hm:behindInMarks op b=false):QT X (.Compare a [op] [b] pos) (cN (aq r ta tb)):=⟨Ux (L:=L) (ho:=ho) (ha:=ha.of) (hb:=hb.of) (hm:=hm)⟩
end
section
variable {X:Cx} {a b e c:υ} {ta tb te:aP} {tA tB:cS} {pos:aQ} {es rest:List υ}
theorem pf(h:QE X a ta)(he:∀whole,isTrue a X.env whole=(do let v ←whole;standAt a.pos;holding [v] (truthy v)):=by intro _;rfl):QT X a (cN ta):=⟨Uw (h:=h.of) (he:=he)⟩
end
section
variable {X:Cx} {a b e c:υ} {ta tb te:aP} {tA tB:cS} {pos:aQ} {es rest:List υ}
theorem Rw(ha:QT X a tA):QW X (.BoolOp .And [a] pos) tA:=⟨Uv (ha:=ha.of)⟩
end
section
variable {X:Cx} {a b e c:υ} {ta tb te:aP} {tA tB:cS} {pos:aQ} {es rest:List υ}
theorem Ar(ha:QT X a tA):QW X (.BoolOp .Or [a] pos) tA:=⟨Uu (ha:=ha.of)⟩
end
section
variable {X:Cx} {a b e c:υ} {ta tb te:aP} {tA tB:cS} {pos:aQ} {es rest:List υ}
theorem Rv(ha:QT X a tA)(hb:QW X (.BoolOp .And (b::rest) pos) tB):QW X (.BoolOp .And (a::b::rest) pos) (EF tA tB):=⟨Ut (ha:=ha.of) (hb:=hb.of)⟩
end
section
variable {X:Cx} {a b e c:υ} {ta tb te:aP} {tA tB:cS} {pos:aQ} {es rest:List υ}
theorem yw(ha:QT X a tA)(hb:QW X (.BoolOp .Or (b::rest) pos) tB):QW X (.BoolOp .Or (a::b::rest) pos) (ze tA tB):=⟨Us (ha:=ha.of) (hb:=hb.of)⟩
end
section
variable {X:Cx} {a b e c:υ} {ta tb te:aP} {tA tB:cS} {pos:aQ} {es rest:List υ}
theorem yv(h:QW X a tA):QT X a tA:=⟨MM (h:=h.of)⟩
end
section
variable {X:Cx} {a b e c:υ} {ta tb te:aP} {tA tB:cS} {pos:aQ} {es rest:List υ}
theorem rV(ha:QT X a tA):QT X (.UnaryOp .Not a pos) (pz tA):=⟨Ur (ha:=ha.of)⟩
end
section
variable {X:Cx} {a b e c:υ} {ta tb te:aP} {tA tB:cS} {pos:aQ} {es rest:List υ}
theorem Dz{op}(h:QE X a ta):QE X (.BoolOp op [a] pos) ta:=⟨Uq (h:=h.of)⟩
end
section
variable {X:Cx} {a b e c:υ} {ta tb te:aP} {tA tB:cS} {pos:aQ} {es rest:List υ}
theorem Aq(ha:QE X a ta)(hb:QE X (.BoolOp .And (b::rest) pos) tb):QE X (.BoolOp .And (a::b::rest) pos) (uK ta tb):=⟨Up (ha:=ha.of) (hb:=hb.of)⟩
end
section
variable {X:Cx} {a b e c:υ} {ta tb te:aP} {tA tB:cS} {pos:aQ} {es rest:List υ}
theorem Ru(ha:QE X a ta):QE X (.UnaryOp .Not a pos) (Bv ta):=⟨Uo (ha:=ha.of)⟩
end
section
variable {X:Cx} {a b e c:υ} {ta tb te:aP} {tA tB:cS} {pos:aQ} {es rest:List υ}
theorem aI  : QA X [] ae:=⟨Um ⟩
end
section
variable {X:Cx} {a b e c:υ} {ta tb te:aP} {tA tB:cS} {pos:aQ} {es rest:List υ}
theorem ω{tr:dF}(ha:QE X a ta)(hr:QA X es tr)(hs:notStar a=true:=by rfl):QA X (a::es) (ν ta tr):=⟨Ul (ha:=ha.of) (hr:=hr.of) (hs:=hs)⟩
end
section
variable {X:Cx} {a b e c:υ} {ta tb te:aP} {tA tB:cS} {pos:aQ} {es rest:List υ}
theorem lQ{t:dF}{x1}(h:QA X es t):QE X (.Tuple es x1 pos) (ky t):=⟨Uk (h:=h.of)⟩
end
section
variable {X:Cx} {a b e c:υ} {ta tb te:aP} {tA tB:cS} {pos:aQ} {es rest:List υ}
theorem iE{t:dF}(h:QA X es t):QE X (.List es pos) (fh t):=⟨Uj (h:=h.of)⟩
end
section
variable {X:Cx} {st:aR} {rest:List aR} {t u:ao} {e c:υ} {te:aP} {tc:cS} {pos:aQ}
theorem mC  : qj X [] fZ:=⟨UO ⟩
end
section
variable {X:Cx} {st:aR} {rest:List aR} {t u:ao} {e c:υ} {te:aP} {tc:cS} {pos:aQ}
theorem bQ(h1:QS X st t)(h2:qj X rest u):qj X (st::rest) (aX t u):=⟨UN (h1:=h1.of) (h2:=h2.of)⟩
end
section
variable {X:Cx} {st:aR} {rest:List aR} {t u:ao} {e c:υ} {te:aP} {tc:cS} {pos:aQ}
theorem cA(h1:QS X st t):qj X [st] t:=⟨UM (h1:=h1.of)⟩
end
section
variable {X:Cx} {st:aR} {rest:List aR} {t u:ao} {e c:υ} {te:aP} {tc:cS} {pos:aQ}
theorem xk(he:QE X e te)(hs:swapsWith e none pos.line X.env=pure false:=by rfl):QS X (.Expr e pos) (qg te):=⟨UL (he:=he.of) (hs:=hs)⟩
end
section
variable {X:Cx} {st:aR} {rest:List aR} {t u:ao} {e c:υ} {te:aP} {tc:cS} {pos:aQ}
theorem fg(he:QE X e te):QS X (.Return (some e) pos) (dh te):=⟨UK (he:=he.of)⟩
end
section
variable {X:Cx} {st:aR} {rest:List aR} {t u:ao} {e c:υ} {te:aP} {tc:cS} {pos:aQ}
theorem lB{a b:List aR}(hc:QT X c tc)(ha:qj X a t)(hb:qj X b u):QS X (.If c a b pos) (kf tc t u):=⟨MW (hc:=hc.of) (ha:=ha.of) (hb:=hb.of)⟩
end
section
variable {X:Cx} {pos:aQ} {e:υ} {es:List υ}
theorem fC{i:Nat}{x:ξ}(hN:X.N.Nodup)(hi:X.N[i]?=some x:=by rfl)(hx:Loc X.env.scope x:=by first|exact ur rfl|exact rF rfl)(hf:X.fn x=true∨X.env.scope.names.lookup x=some .local:=by first|exact .inl rfl|exact .inr rfl|assumption):QG X (.Name x pos) (hName i):=⟨UJ (hN:=hN) (hi:=hi) (hx:=hx) (hf:=hf)⟩
end
section
variable {X:Cx} {pos:aQ} {e:υ} {es:List υ}
theorem rU  : Fx X [] mU:=⟨UI ⟩
end
section
variable {X:Cx} {pos:aQ} {e:υ} {es:List υ}
theorem mB{t:iM}{u:pD}(h1:QG X e t)(h2:Fx X es u)(hs:(assignEach (e::es) X.env).map (·.2)=assign e X.env::(assignEach es X.env).map (·.2):=by rfl):Fx X (e::es) (eZ t u):=⟨T1 (h1:=h1.of) (h2:=h2.of) (hs:=hs)⟩
end
section
variable {X:Cx} {pos:aQ} {e:υ} {es:List υ}
theorem rT{k:Nat}{t:pD}{n:Nat}(hc:X.calm=true)(h:Fx X es t)(hn:(assignEach es X.env).length=n:=by rfl)(hst:(assignEach es X.env).findIdx? (·.1)=none:=by rfl):QG X (.Tuple es k pos) (mT n t):=⟨TZ (hc:=hc) (h:=h.of) (hn:=hn) (hst:=hst)⟩
end
section
variable {X:Cx} {pos:aQ} {e:υ} {es:List υ}
theorem Ap{tg:υ}{te:aP}{g:iM}(he:QE X e te)(hg:QG X tg g)(hs:swapsWithSole [tg] e pos.line X.env=pure false:=by rfl)(hw:swappedStores [tg] e X.env=pure none:=by rfl)(h1:(assignEach [tg] X.env).map (·.2)=[assign tg X.env]:=by rfl):QS X (.Assign [tg] e pos) (bz te g):=⟨TY (he:=he.of) (hg:=hg.of) (hs:=hs) (hw:=hw) (h1:=h1)⟩
end
section
variable {X:Cx} {pos:aQ} {e:υ} {es:List υ}
theorem cV{i:Nat}{x:ξ}{te:aP}{pos':aQ}(hN:X.N.Nodup)(he:QE X e te)(hi:X.N[i]?=some x:=by rfl)(hx:Loc X.env.scope x:=by first|exact ur rfl|exact rF rfl)(hs:swapsWith e (some (.Name x pos')) pos.line X.env=pure false:=by rfl)(hf:X.fn x=true∨X.env.scope.names.lookup x=some .local:=by first|exact .inl rfl|exact .inr rfl|assumption):QS X (.Assign [.Name x pos'] e pos) (bz te (hName i)):=⟨TX (hN:=hN) (he:=he.of) (hi:=hi) (hx:=hx) (hs:=hs) (hf:=hf)⟩
end
section
variable {X:Cx} {pos:aQ} {e:υ} {es:List υ}
theorem Dy{o i:υ}{to ti:aP}(ho:QE X o to)(hi:QE X i ti) (ha:∀v,assign (.Subscript o i pos) X.env v=(do
   let ov ←holding [v] (eval o X.env)
   let iv ←holding [v,ov] (eval i X.env)
   standAt pos
   holding [v,ov,iv] (setItem ov iv v)
   release [v,ov,iv] []):=by intro _;rfl):QG X (.Subscript o i pos) (hSub to ti):=⟨TU (ho:=ho.of) (hi:=hi.of) (ha:=ha)⟩
end
section
variable {X:Cx} {pos:aQ} {e:υ} {es:List υ}
theorem Ao{c:υ}{body:List aR}{tc:cS}{tb:ao}(hp:lG (model X.prog X.w) X.A X.env X.xe)(hc:QT X c tc)(hb:qj X body tb):QS X (.While c body [] pos) (qZ tc tb):=⟨TQ (hp:=hp) (hc:=hc.of) (hb:=hb.of)⟩
end
section
variable {X:Cx} {k:Nat} {f:ζ} {fd:ay} {ps:List ξ} {sp:fc} {x:ξ} {p pos:aQ} {e:υ} {es:List υ} {t:dF}
theorem dG(F:dS X.prog X.w X.K X.mg X.base k f fd ps sp)(hr:eD k X.A)(hm:X.mg x=some (.ref f))(hk:cp X.K (.ref f)=true)(hb:Binds X.K fd ps [])(ha:QA X (e::es) t)(hg:Gl X x:=by rfl)(hdb:(x==("__debug__":ξ))=false:=by decide)(he:notStar e=true:=by rfl)(hpl:es.all notStar=true:=by rfl):QE X (.Call (.Name x p) (e::es) [] pos) (bx sp t):=⟨TN (F:=F) (hr:=hr) (hm:=hm) (hk:=hk) (hb:=hb) (ha:=ha.of) (hg:=hg) (hdb:=hdb) (he:=he) (hpl:=hpl)⟩
end
section
variable {X:Cx} {tg iter:υ} {pos p:aQ}
theorem mO{l:υ}{te:aP}(hl:QE X l te):QI X tg l (lg te):=⟨TM (hl:=hl.of)⟩
end
section
variable {X:Cx} {tg iter:υ} {pos p:aQ}
theorem tX{a:υ}{ta:dF}(hm:X.mg "range" = none)(ha:QA X [a] ta)(hg:Gl X "range":=by rfl)(hs:notStar a=true:=by rfl):QI X tg (.Call (.Name "range" p) [a] [] pos) (kU ta):=⟨TJ (hm:=hm) (ha:=ha.of) (hg:=hg) (hs:=hs)⟩
end
section
variable {X:Cx} {tg iter:υ} {pos p:aQ}
theorem mM{body:List aR}{ti:pC}{g:iM}{tb:ao}(hp:lG (model X.prog X.w) X.A X.env X.xe)(hc:X.calm=true)(hi:QI X tg iter ti)(hg:QG X tg g)(hb:qj X body tb)(hs:∀x,foldedSetIterable iter X.env x=pure x:=by intro _;rfl):QS X (.For tg iter body [] pos) (kr ti g tb):=⟨TH (hp:=hp) (hc:=hc) (hi:=hi.of) (hg:=hg.of) (hb:=hb.of) (hs:=hs)⟩
end
section
variable {X:Cx} {tg iter:υ} {pos p:aQ}
theorem nQ  : QC X [] (eQ):=⟨TF ⟩
end
section
variable {X:Cx} {tg iter:υ} {pos p:aQ}
theorem Ja{c:υ}{t:cS}(h:QT X c t):QC X [c] (t):=⟨TC (h:=h.of)⟩
end
section
variable {X:Cx} {K:η}
theorem fM{a b:υ}{ta tb:aP}{pos:aQ}(ha:QE X a ta)(hb:QE X b tb)(hs:rb b:=by intro _ _;rfl):QE X (.Subscript a b pos) (aq dE ta tb):=⟨Yr (ha:=ha.of) (hb:=hb.of) (hs:=hs)⟩
end
section
variable {X:Cx} {K:η}
theorem IZ{es:List υ}{b:υ}{ta:dF}{tb:aP}{pos pos':aQ}(ha:QA X es ta)(hb:QE X b tb)(hs:rb b:=by intro _ _;rfl):QE X (.Subscript (.List es pos') b pos) (wq ta tb):=⟨Ts (ha:=ha.of) (hb:=hb.of) (hs:=hs)⟩
end
section
variable {X:Cx} {a b e:υ} {ta tb:aP} {pos:aQ}
theorem Dx  : QO X none wg:=⟨Tr ⟩
end
section
variable {X:Cx} {a b e:υ} {ta tb:aP} {pos:aQ}
theorem yu(h:QE X e ta):QO X (some e) (se ta):=⟨Tq (h:=h.of)⟩
end
section
variable {X:Cx} {a b e:υ} {ta tb:aP} {pos:aQ}
theorem An{lo hi:Option υ}{tl th:xD}{p2:aQ}(ha:QE X a ta)(hl:QO X lo tl)(hh:QO X hi th):QE X (.Subscript a (.Slice lo hi none p2) pos) (zD ta tl th):=⟨Yp (ha:=ha.of) (hl:=hl.of) (hh:=hh.of)⟩
end
section
variable {X:Cx} {K:η} {e:υ} {es:List υ} {t:dF} {ta:aP} {pos p:aQ}
theorem mL(hu:X.A.units+64<cLine)(hm:X.mg "len" = none)(ha:QA X (e::es) t)(hg:Gl X "len":=by rfl)(he:notStar e=true:=by rfl)(hpl:es.all notStar=true:=by rfl):QE X (.Call (.Name "len" p) (e::es) [] pos) (eL kv t):=⟨Uc (hu:=hu) (hm:=hm) (ha:=ha.of) (hg:=hg) (he:=he) (hpl:=hpl)⟩
end
section
variable {X:Cx} {K:η} {e:υ} {es:List υ} {t:dF} {ta:aP} {pos p:aQ}
theorem Rt(hu:X.A.units+64<cLine)(hm:X.mg "int" = none)(ha:QA X (e::es) t)(hg:Gl X "int":=by rfl)(he:notStar e=true:=by rfl)(hpl:es.all notStar=true:=by rfl):QE X (.Call (.Name "int" p) (e::es) [] pos) (eL AD t):=⟨Ua (hu:=hu) (hm:=hm) (ha:=ha.of) (hg:=hg) (he:=he) (hpl:=hpl)⟩
end
section
variable {X:Cx} {K:η} {e:υ} {es:List υ} {t:dF} {ta:aP} {pos p:aQ}
theorem Am(hu:X.A.units+64<cLine)(hm:X.mg "max" = none)(ha:QA X (e::es) t)(hc:X.calm=true:=by rfl)(hg:Gl X "max":=by rfl)(he:notStar e=true:=by rfl)(hpl:es.all notStar=true:=by rfl):QE X (.Call (.Name "max" p) (e::es) [] pos) (eL wY t):=⟨T9 (hu:=hu) (hm:=hm) (ha:=ha.of) (hc:=hc) (hg:=hg) (he:=he) (hpl:=hpl)⟩
end
section
variable {X:Cx} {K:η} {e:υ} {es:List υ} {t:dF} {ta:aP} {pos p:aQ}
theorem Rr(hu:X.A.units+64<cLine)(hm:X.mg "min" = none)(ha:QA X (e::es) t)(hc:X.calm=true:=by rfl)(hg:Gl X "min":=by rfl)(he:notStar e=true:=by rfl)(hpl:es.all notStar=true:=by rfl):QE X (.Call (.Name "min" p) (e::es) [] pos) (eL Ec t):=⟨T6 (hu:=hu) (hm:=hm) (ha:=ha.of) (hc:=hc) (hg:=hg) (he:=he) (hpl:=hpl)⟩
end
section
variable {X:Cx} {K:η} {e:υ} {es:List υ} {t:dF} {ta:aP} {pos p:aQ}
theorem Dw(hu:X.A.units+64<cLine)(hm:X.mg "tuple" = none)(ha:QA X (e::es) t)(hg:Gl X "tuple":=by rfl)(he:notStar e=true:=by rfl)(hpl:es.all notStar=true:=by rfl):QE X (.Call (.Name "tuple" p) (e::es) [] pos) (eL wX t):=⟨T4 (hu:=hu) (hm:=hm) (ha:=ha.of) (hg:=hg) (he:=he) (hpl:=hpl)⟩
end
section
variable {X:Cx} {a e:υ} {es:List υ} {ta:aP} {t:dF} {pos p p2:aQ}
theorem Dv{T:String}{TS:ξ}(k:zJ T)(hv:gK TS=some (.type T))(ha:QE X a ta)(hm:X.mg "isinstance" = none)(hm2:X.mg TS=none)(hgT:Gl X TS)(hnT:TS≠"__name__")(hdT:(TS==("__debug__":ξ))=false)(hg:Gl X "isinstance":=by rfl)(he:notStar a=true:=by rfl):QE X (.Call (.Name "isinstance" p) [a,.Name TS p2] [] pos) (wt T ta):=⟨RZ (k:=k) (hv:=hv) (ha:=ha.of) (hm:=hm) (hm2:=hm2) (hgT:=hgT) (hnT:=hnT) (hdT:=hdT) (hg:=hg) (he:=he)⟩
end
section
variable {X:Cx} {K:η} {e:υ} {es:List υ} {t:dF} {ta:aP} {pos p p' pos':aQ}
theorem IY(hu:X.A.units+64<cLine)(hm:X.mg "sorted" = none)(ha:QA X (e::es) t)(hc:X.calm=true:=by rfl)(hg:Gl X "sorted":=by rfl)(he:notStar e=true:=by rfl)(hpl:es.all notStar=true:=by rfl):QE X (.Call (.Name "sorted" p) (e::es) [] pos) (eL yy t):=⟨RQ (hu:=hu) (hm:=hm) (ha:=ha.of) (hc:=hc) (hg:=hg) (he:=he) (hpl:=hpl)⟩
end
section
variable {X:Cx} {K:η} {e:υ} {es:List υ} {t:dF} {ta:aP} {pos p p' pos':aQ}
theorem IX(hu:X.A.units+64<cLine)(ha:QE X e ta)(hm:X.mg "sorted" = none)(hm2:X.mg "set" = none)(hc:X.calm=true:=by rfl)(hg:Gl X "sorted":=by rfl)(hg2:Gl X "set":=by rfl)(he2:notStar e=true:=by rfl):QE X (.Call (.Name "sorted" p) [.Call (.Name "set" p') [e] [] pos'] [] pos) (sx ta):=⟨RP (hu:=hu) (ha:=ha.of) (hm:=hm) (hm2:=hm2) (hc:=hc) (hg:=hg) (hg2:=hg2) (he2:=he2)⟩
end
section
variable {X:Cx} {K:η} {e:υ} {es:List υ} {t:dF} {ta:aP} {pos p p' pos':aQ}
theorem Rq(hu:X.A.units+64<cLine)(hm:X.mg "all" = none)(ha:QA X (e::es) t)(hc:X.calm=true:=by rfl)(hg:Gl X "all":=by rfl)(he:notStar e=true:=by rfl)(hpl:es.all notStar=true:=by rfl):QE X (.Call (.Name "all" p) (e::es) [] pos) (eL Av t):=⟨RK (hu:=hu) (hm:=hm) (ha:=ha.of) (hc:=hc) (hg:=hg) (he:=he) (hpl:=hpl)⟩
end
section
variable {X:Cx} {K:η} {e:υ} {es:List υ} {t:dF} {ta:aP} {pos p p' pos':aQ}
theorem Rp(hu:X.A.units+64<cLine)(hm:X.mg "sum" = none)(ha:QA X (e::es) t)(hc:X.calm=true:=by rfl)(hg:Gl X "sum":=by rfl)(he:notStar e=true:=by rfl)(hpl:es.all notStar=true:=by rfl):QE X (.Call (.Name "sum" p) (e::es) [] pos) (eL Au t):=⟨Sv (hu:=hu) (hm:=hm) (ha:=ha.of) (hc:=hc) (hg:=hg) (he:=he) (hpl:=hpl)⟩
end
section
variable {X:Cx} {es:List υ} {n0:Nat} {ps p pos:aQ}
theorem AZ{a b:υ}{ta:dF}(hm:X.mg "zip" = none)(ha:QA X [a,b] ta)(hg:Gl X "zip":=by rfl)(hs:notStar a=true:=by rfl)(hs2:notStar b=true:=by rfl):QI X (.Tuple es n0 ps) (.Call (.Name "zip" p) [a,b] [] pos) (vV ta):=⟨Sl (hm:=hm) (ha:=ha.of) (hg:=hg) (hs:=hs) (hs2:=hs2)⟩
end
section
variable {X:Cx} {tg:υ} {p pos:aQ}
theorem Ro{o i e:υ}{to ti te:aP}{tpos:aQ}(ho:QE X o to)(hi:QE X i ti)(he:QE X e te)(ha:∀ov iv new,augStore i ov iv new=(do holding [new,ov,iv] (setItem ov iv new);release [new,ov,iv] [];pure .next):=by intros;rfl):QS X (.AugAssign (.Subscript o i tpos) .Add e pos) (zR to ti te (· + ·)):=⟨Si (ho:=ho.of) (hi:=hi.of) (he:=he.of) (ha:=ha)⟩
end
section
variable {X:Cx} {a b c e o:υ} {es:List υ} {ta tb tc te to:aP} {t:dF} {pos apos cpos p:aQ}
theorem xj{name:ξ}{id:String}{r:D->List D->Gp->V3->Prop}{r2:V->List V->Hp->VK->Prop}(L:v7 X.K r r2)(slot:Slot "list" name id)(hty:typeOf (.builtin id)=pure (.type "method_descriptor"))(hm:Cw X id r2)(ho:QE X o to)(ha:QA X (e::es) t)
  (jZ:attributeBase o name X.env (eval o X.env)=eval o X.env:=by rfl)
  (Er:((backTo cpos (bW (e::es) X.env)).all (fun x=>!x.1)&&(backToKw cpos (keywordEach [] X.env)).all (fun x=>x.1.isSome)
   && decide ((e::es).length+([]:List rL).length+(if ([]:List rL).isEmpty then 0 else 1)<30))=true:=by rfl)
  (oG:(apos.endLine==cpos.line)=true:=by rfl) (he:notStar e=true:=by rfl) (hpl:es.all notStar=true:=by rfl):
  QE X (.Call (.Attribute o name apos) (e::es) [] cpos) (eM r to t):=⟨S9 L (Vq PySem.F.plainAttrs_list slot hty hm ho.of ha.of jZ Er oG (gu he) (lC hpl))⟩
theorem Rn{i j:Nat}{x y:ξ}{px py pt:aQ}{kt k2 pt2}(hc:X.calm=true)(hN:X.N.Nodup)(hi:X.N[i]?=some x)(hj:X.N[j]?=some y)(hij:i≠j)(hx:X.env.scope.names.lookup x=some .local)(hy:X.env.scope.names.lookup y=some .local)(ha:QA X [a,b] t)
  (hw:swappedStores [.Tuple [.Name x px,.Name y py] kt pt] (.Tuple [a,b] k2 pt2) X.env=pure (some [x,y])) (hs:swapsWithSole [.Tuple [.Name x px,.Name y py] kt pt] (.Tuple [a,b] k2 pt2) pos.line X.env=pure false:=by rfl):
  QS X (.Assign [.Tuple [.Name x px,.Name y py] kt pt] (.Tuple [a,b] k2 pt2) pos) (CD i j t):=⟨TV (VG hc hN hi hj hij hx hy ha.of hw hs)⟩
end
section
variable {X:Cx} {tg iter elt:υ} {ifs:List υ} {scope:dZ} {own:List ξ} {js:List Nat} {ti:pC} {g:iM} {tc:cS} {te:aP} {pos:aQ}
theorem qF(hc:X.calm=true)(C:dJ X.N X.env.scope scope own js)(hi:QI X tg iter ti)
  (hb:∀s H fp,QG (X.cmp scope own js s H fp) tg g/\QC (X.cmp scope own js s H fp) ifs tc/\QE (X.cmp scope own js s H fp) elt te)
  (hs:∀x,foldedSetIterable iter X.env x=pure x:=by intro _;rfl):QE X (.ListComp elt [⟨tg,iter,ifs,0⟩] scope pos) (gf own js ti g tc te):=
 ⟨TB hc C hi.of (fun s H fp=>⟨(hb s H fp).1.of,(hb s H fp).2.1.of,(hb s H fp).2.2.of⟩) hs⟩
theorem AY{i:Nat}{y:ξ}{py spos:aQ}(hc:X.calm=true)(hN:X.N.Nodup)(C:dJ X.N X.env.scope scope own js)(hi:QI X tg iter ti)
  (hb:∀s H fp,QG (X.cmp scope own js s H fp) tg g/\QC (X.cmp scope own js s H fp) ifs tc/\QE (X.cmp scope own js s H fp) elt te) (hy:X.N[i]?=some y:=by rfl) (hyl:X.env.scope.names.lookup y=some .local:=by rfl)
  (Cp:swapsWith (.ListComp elt [⟨tg,iter,ifs,0⟩] scope pos) (some (.Name y py)) spos.line X.env=pure true:=by rfl)
  (hs:∀x,foldedSetIterable iter X.env x=pure x:=by intro _;rfl):QS X (.Assign [.Name y py] (.ListComp elt [⟨tg,iter,ifs,0⟩] scope pos) spos) (bz (gf own js ti g tc te) (hName i)):=
 ⟨Tz hc hN C hi.of (fun s H fp=>⟨(hb s H fp).1.of,(hb s H fp).2.1.of,(hb s H fp).2.2.of⟩) hy hyl Cp hs⟩
end
theorem gy{P:ah}{w:ax}{K:η}{mg:ξ->Option ε}{base:Φ}{x qual:ξ}{st:aR}{f:ζ}{fd:ay}{N ps:List ξ}{k:Nat}{sp:fc}(F:eP K x qual st f fd)(S:bF N ps (Ξ st))(hN:ps.length≤N.length)(len:∀ds G Q,sp ds G Q->ds.length=ps.length)(tb:ao)
  (hU:∀(cdv:ε) (A:aL) (outer:List dm) (s:θ) (H:Hp) (E:XK),eD k (A.deeper (envOfC qual (Ξ st) s.heap.objs.size f cdv)) ->
   qj (iF qk P w K mg base N qual (Ξ st) f cdv A outer s H E).mH (fu st) tb)
  (sX:∀ds G Q,sp ds G Q->tb (bo Q) (bD N ds) G):dS P w K mg base (k+1) f fd ps sp:=Za F S hN len tb (fun cdv A outer s H E hr=>(hU cdv A outer s H E hr).of) sX
end L3
namespace My
open PySem L2 L3
def Known(G:Gp):D->Prop
 |.obj a=>∃o,G a=some o/\o.plain
 |_=>True
def Gf:D->Bool
 |.int _=>true
 |_=>false
theorem fK{Q:V3}{d:D}{G:Gp}(h:Q d G):(bo Q).rt d G:=⟨G,Sub.refl G,h⟩
theorem AX{Q:V3}{d:D}{G G':Gp}(s:Sub G G')(h:Q d G):(bo Q).rt d G':=⟨G,s,h⟩
theorem ff{i:Int}(h1:-(10^80)<i)(h2:i<10^80):gh i:=by
 have:i.natAbs<10^80:=by lia
 exact jP this (by decide)
theorem Sub.tO{G G':Gp}{a:ζ}{o:GO}(s:Sub G G')(h:G a=none):Sub G (du G' a o):=fun b u e=>by
 rw[ny (fun z=>by rw[z,h] at e;cases e)];exact s b u e
def IW:fc:=fun ds G Q=>match ds with
 |[d]=>Known G d/\Q (.bl (Gf d)) G
 |_=>False
def IV:ao:=dh (uK (wt "int" (ο 0)) (Bv (wt "bool" (ο 0))))
theorem Rm{nm:ξ}:∀ds G Q,IW ds G Q->IV (bo Q) (bD [nm] ds) G:=by
 intro ds G Q h;rcases ds with _|⟨d,_|⟨d2,ds⟩⟩
 ·exact h.elim
 ·cases d with
  |int i=>exact⟨fun _=>fK h.2,nofun⟩
  |bl b=>exact⟨fun _=>fK h.2,nofun⟩
  |aC=>exact⟨nofun,fun _=>fK h.2⟩
  |str _=>exact⟨nofun,fun _=>fK h.2⟩
  |tup _=>exact⟨nofun,fun _=>fK h.2⟩
  |eS _=>exact⟨nofun,fun _=>fK h.2⟩
  |dc _=>exact⟨nofun,fun _=>fK h.2⟩
  |obj a=>
   obtain⟨o1,h1,hp⟩:∃o,G a=some o/\o.plain:=h.1;show match lU "int" G (.obj a) with
    |some b=>_
    |none=>_
   cases hG:G a with
   |none=>rw[h1] at hG;cases hG
   |some o=>
    cases o with
    |lst _=>simp only[lU,hG];exact⟨nofun,fun _=>fK h.2⟩
    |mG=>simp only[lU,hG];exact⟨nofun,fun _=>fK h.2⟩
    |i7=>simp only[lU,hG];exact⟨nofun,fun _=>fK h.2⟩
    |gen R=>
     rw[h1] at hG;cases hG;exact hp.elim
 ·exact h.elim
abbrev vK:=IW
abbrev Rl:=IV
abbrev Rk:=@Rm "found"
def yt:fc:=fun ds G Q=>∃(ns:List Int) (k:Nat),ds=[.eS (ns.map .int),.int k]/\∀i:Int,Q (.int i) G
def IU:ao:=aX (kf (cN (aq xK (ο 1) (eL kv (ν (ο 0) (ae))))) (dh (aq dE (ο 0) (ο 1))) (fZ)) (dh (eC (.int 0)))
theorem Rj:∀ds G Q,yt ds G Q->IU (bo Q) (bD ["script","k"] ds) G:=by
 rintro ds G Q ⟨ns,k,rfl,q⟩;refine⟨fun h=>?_,fun h=>fK (q 0)⟩;have h':(k:Int)<((ns.map D.int).length:Nat):=of_decide_eq_true h;rw[π] at h';have hk:k<ns.length:=by lia
 exact⟨.int ns[k],D6 (by rw[aE,aw hk];rfl),fK (q _)⟩
def xi:fc:=fun ds G Q=>∃n:Int,ds=[.int n]/\0≤n/\∀r:Int,0≤r->r<2147483629->Q (.int r) G
def IT:ao:=aX (bz (aq jv (aq dy (ο 0) (eC (.int 7919))) (eC (.int 2147483647))) (hName 0)) (dh (aq jv (aq dy (aq dy (aq eY (ο 0) (ο 0)) (aq eY (eC (.int 48271)) (ο 0))) (eC (.int 12345))) (eC (.int 2147483629))))
theorem Ri:∀ds G Q,xi ds G Q->IT (bo Q) (bD ["seed"] ds) G:=by
 rintro ds G Q ⟨n,rfl,hn,q⟩;have h1:=cJ (n+7919) (show (2147483647:Int)≠0 by decide);have h2:=cf (n+7919) (show (0:Int)<2147483647 by decide);have hb:gh ((n+7919)%2147483647):=ff (by lia) (by lia);refine⟨(by decide:(0:Int)<2147483647),⟨hb,hb⟩,⟨ff (by decide) (by decide),hb⟩,(by decide:(0:Int)<2147483629),fK (q _ ?_ ?_)⟩
 ·exact cJ _ (by decide)
 ·exact cf _ (by decide)
def AW:fc:=fun ds G Q=>∃(p:ζ) (m i j k:Int),ds=[.obj p,.int m]/\G p=some (.lst [.int i,.int j,.int k])/\uQ i j k/\0<m/\gh m ∧
 ∀r i' j' k':Int,uQ i' j' k'->0≤r->r<m->Q (.int r) (du G p (.lst [.int i',.int j',.int k']))
def ku:fc:=fun ds G Q=>∃(p:ζ) (m:Int),ds=[.obj p,.int m]/\G p=some .mG/\(0<m/\gh m)/\∀r:Int,0≤r->r<m->Q (.int r) G
def IS:ao:=aX (kf (cN (aq (gZ false) (aq dE (ο 0) (eC (.int 1))) (eC (.int 1)))) (aX (bz (aq jv (aq dE (ο 0) (eC (.int 0))) (ο 1)) (hName 2)) (aX (bz (aq lO (aq dE (ο 0) (eC (.int 0))) (ο 1)) (hSub (ο 0) (eC (.int 0)))) (dh (ο 2)))) (fZ)) (aX (bz (bx xi (ν (aq dy (bx xi (ν (aq dE (ο 0) (eC (.int 2))) (ae))) (eC (.int 7))) (ae))) (hSub (ο 0) (eC (.int 2)))) (dh (aq jv (aq lO (aq dE (ο 0) (eC (.int 2))) (eC (.int 64))) (ο 1))))
theorem Rh:∀ds G Q,AW ds G Q->IS (bo Q) (bD ["pen","many","found"] ds) G:=by
 rintro ds G Q ⟨p,m,i,j,k,rfl,hp,ok,hm,hb,q⟩;obtain⟨o1,o2,o3⟩:=ok;refine⟨_,_,hp,rfl,_,_,rfl,rfl,bp _,fun _=>?_,fun _=>?_⟩
 ·refine⟨_,_,hp,rfl,hm,_,_,hp,rfl,⟨hm,hb⟩,_,0,hp,rfl,?_⟩;refine fK (q (i%m) (i / m) j k ⟨?_,o2,o3⟩ ?_ ?_)
  ·exact Int.ediv_nonneg o1 (by lia)
  ·exact cJ _ (by lia)
  ·exact cf _ hm
 ·refine⟨_,_,hp,rfl,_,rfl,o2,fun r h1 h2=>⟨_,rfl,(by lia),fun r' h3 h4=>?_⟩⟩;refine⟨_,2,hp,rfl,_,_,mF,rfl,⟨by decide,ff (by decide) (by decide)⟩,hm,?_⟩;refine fK (q _ i j r' ⟨o1,h3,by lia⟩ ?_ ?_)
  ·exact cJ _ (by lia)
  ·exact cf _ hm
theorem Rg{K:η}:∀vs H Q E,mZ K ku vs H Q E->mZ K AW vs H Q E:=by
 rintro vs H Q E ⟨ds,G,Q3,hd,RG,⟨p,m,rfl,hp,hm,q⟩,k⟩;obtain⟨i,j,l,e,ok⟩:=RG p _ hp;refine⟨_,du G p (.lst [.int i,.int j,.int l]),fun d G'=>∃i' j' l',uQ i' j' l'/\G'=du G p (.lst [.int i',.int j',.int l'])/\Q3 d G,hd,?_,⟨p,m,i,j,l,rfl,mF,ok,hm.1,hm.2,fun r i' j' k' ok' h1 h2=>⟨i',j',k',ok',UH,q r h1 h2⟩⟩,?_⟩
 ·intro a o ea;by_cases z:a=p
  ·subst z;rw[mF] at ea;cases ea;exact⟨_,e,.cons (by simp[Hv]) (.cons (by simp[Hv]) (.cons (by simp[Hv]) .nil))⟩
  ·rw[ny z] at ea;exact RG a o ea
 ·rintro v H' d G' hv S R ⟨i',j',l',ok',rfl,h3⟩;refine k v H' d G hv ⟨fun a o ea n=>S.fr a o ea ?_,S.oi,fun a n z=>absurd n z⟩ (fun a o ea=>?_) h3
  ·have:a≠p:=fun z=>by rw[z,hp] at n;cases n
   rw[ny this];exact n
  ·by_cases z:a=p
   ·subst z;rw[hp] at ea;cases ea;obtain⟨ws,e1,e2⟩:=R a _ mF;have:=tZ e2 (ns:=[i',j',l']) rfl;subst this;exact⟨i',j',l',e1,ok'⟩
   ·exact R a o (by rw[ny z];exact ea)
def AV:fc:=fun ds G Q=>∃c:Int,ds=[.int c]/\∀p i j k G',cw G p (.lst [.int i,.int j,.int k]) G'->uQ i j k->Q (.obj p) G'
def Du:fc:=fun ds G Q=>∃c:Int,ds=[.int c]/\∀p G',cw G p .mG G'->Q (.obj p) G'
def IQ:ao:=aX (bz (eL wY (ν (ο 0) (ν (aq gb (eC (.int 0)) (ο 0)) (ae)))) (hName 1)) (dh (fh (ν (ο 1) (ν (eL AD (ν (aq Gy (ο 1) (aq rR (eC (.int 10)) (eC (.int 18)))) (ae))) (ν (aq jv (ο 1) (eC (.int 1000003))) (ae))))))
theorem Rf:∀ds G Q,AV ds G Q->IQ (bo Q) (bD ["cell","left"] ds) G:=by
 rintro ds G Q ⟨c,rfl,q⟩;refine⟨⟨by decide,by decide,by decide⟩,(by decide:(0:Int)<1000003),fun p G' hp=>fK (q p _ _ _ _ hp ⟨?_,?_,?_⟩)⟩
 ·split<;>lia
 ·exact cJ _ (by decide)
 ·exact Int.lt_trans (cf _ (by decide)) (by decide)
theorem Rc{K:η}:∀vs H Q E,mZ K Du vs H Q E->mZ K AV vs H Q E:=by
 rintro vs H Q E ⟨ds,G,Q3,hd,RG,⟨c,rfl,q⟩,k⟩;refine⟨_,G,fun d G'=>∃p i j l,uQ i j l/\cw G p (.lst [.int i,.int j,.int l]) G'/\d=.obj p,hd,RG,⟨c,rfl,fun p i j l G' hp ok=>⟨p,i,j,l,ok,hp,rfl⟩⟩,?_⟩;rintro v H' d G' hv S R ⟨p,i,j,l,ok,hp,rfl⟩;refine k v H' _ (du G' p .mG) hv ⟨S.fr,S.oi,fun a n z=>S.new a n ?_⟩ (fun a o ea=>?_) (q p _ ⟨hp.aC,Sub.tO hp.sub hp.aC,mF⟩)
 ·by_cases y:a=p
  ·rw[y,hp.at_];simp
  ·rw[ny y] at z;exact z
 ·by_cases z:a=p
  ·subst z;rw[mF] at ea;cases ea;obtain⟨ws,e1,e2⟩:=R a _ hp.at_;have:=tZ e2 (ns:=[i,j,l]) rfl;subst this;exact⟨i,j,l,e1,ok⟩
  ·rw[ny z] at ea;exact R a o ea
abbrev af:=Int×Int
def cD(c:af):D:=.tup [.int c.1,.int c.2]
def gY(cs:List af):D:=.tup (cs.map cD)
def Valid(c:af):Prop:=0<c.1/\0≤c.2/\c.2<c.1
theorem da{n:Nat}(h:n≤1000):n≤au:=av h (by decide)
theorem nP{α:Type}{guard:Gp->Prop}{g:iM}{tc:cS}{te:aP}{Q:List D->Gp->Prop}(I:S3->Prop)(h:α->D)(pr:α->Bool)(f:α->D){G:Gp}(hg:guard G):∀(xs:List α) (acc:List D) (τ:S3),I τ ->
  (∀x∈xs,∀τ (K1:S3->Gp->Prop) (K2:S3->D->Gp->Prop),I τ->(pr x=true->∀τ2,I τ2->K2 τ2 (f x) G)->(pr x=false->∀τ2,I τ2->K1 τ2 G)->g (h x) τ G fun τ2 G2=>tc τ2 G2 fun b G3=>Br b (te τ2 G3 fun v G4=>K2 τ2 v G4) (K1 τ2 G3)) ->
  Q (acc++(xs.filter pr).map f) G->jI guard g tc te Q (xs.map h) acc τ G
 |[],acc,τ,_,_,q=>⟨hg,by simpa using q⟩
 |d::ds,acc,τ,hI,hs,q=>by
  refine⟨hg,hs d Γ τ (fun τ2 G3=>jI guard g tc te Q (ds.map h) acc τ2 G3) (fun τ2 v G4=>jI guard g tc te Q (ds.map h) (acc++[v]) τ2 G4) hI (fun hp τ2 h2=>?_) fun hp τ2 h2=>?_⟩
  ·refine nP I h pr f hg ds _ τ2 h2 (fun d' hd=>hs d' (Δ _ hd)) ?_;rw[List.filter_cons_of_pos hp] at q;simpa using q
  ·refine nP I h pr f hg ds _ τ2 h2 (fun d' hd=>hs d' (Δ _ hd)) ?_;rw[List.filter_cons_of_neg (by rw[hp];simp)] at q;exact q
end My
namespace My
open PySem L2 L3
theorem IP{G:Gp}{a:ζ}{ds:List D}{xs:List Dat.D}(h:G a=some (.lst ds))(e:fY ds=some xs):uH G (.obj a)=some (.lst xs):=by
 unfold uH;simp only[h,e]
def bJ(n:Int)(c:af):Bool:=(n-c.2)%c.1==0
end My
namespace My
open PySem L2 L3
def vZ{α:Type}(xs:List α)(lo hi:Option Int):List α:=(xs.drop (HT.cu xs.length 0 lo)).take (HT.cu xs.length xs.length hi-HT.cu xs.length 0 lo)
theorem AU{α:Type}(f:α->D)(xs:List α)(lo hi:Option Int):ll (xs.map f) lo hi=(vZ xs lo hi).map f:=by
 unfold ll vZ;rw[π,tm,tu]
theorem Rb{α:Type}(xs:List α)(lo hi:Option Int):(vZ xs lo hi).length≤xs.length:=by
 unfold vZ;rw[eR,pW];lia
theorem Dt{α:Type}(xs:List α)(k:Nat):vZ xs none (some (k:Int))=xs.take k:=by
 unfold vZ;rw[HT.CF,HT.FN];simp only[rK,Nat.sub_zero];by_cases h:k≤xs.length
 ·rw[Nat.min_eq_left h]
 ·rw[Nat.min_eq_right (by lia),pT,kP (by lia)]
def kA(M:Int)(cs:List af):Prop:=∀c∈cs,Valid c/\c.1≤M
theorem Ra{s r k i:Int}(h:Valid (s,r))(h1:0≤i)(h2:i<k):Valid (s*k,r+s*i):=by
 obtain⟨a,b,c⟩:=h;simp only at a b c;have q:=fy (show i≤k-1 by lia) (show 0≤s by lia);rw[il,nk] at q;have q2:=Int.mul_nonneg (show 0≤s by lia) h1;refine⟨?_,?_,?_⟩
 ·exact Int.mul_pos a (by lia)
 ·show 0≤r+s*i;lia
 ·show r+s*i<s*k;lia
theorem Ds{α:Type}(f:α->D){xs:List α}{r:Int}(h1:0≤r)(h2:r<(xs.length:Nat)):∃x,xs[r.toNat]?=some x/\x∈xs/\lE (xs.map f) r=some (f x):=by
 have hk:r.toNat<xs.length:=by lia
 refine⟨xs[r.toNat],aw hk,List.getElem_mem hk,?_⟩;have e:r=((r.toNat:Nat):Int):=by lia
 have q:lE (xs.map f) ((r.toNat:Nat):Int)=some (f xs[r.toNat]):=D6 (by rw[aE];simp[hk]);rw[←e] at q;exact q
theorem IM{ns:List Int}{r:Int}(h1:0≤r)(h2:r<(ns.length:Nat)):∃n,n∈ns/\lE (ns.map D.int) r=some (.int n):=by
 obtain⟨x,_,h3,h4⟩:=Ds D.int h1 h2;exact⟨x,h3,h4⟩
end My
namespace My
open PySem L2 L3
def fb(c:af):List Int:=[c.1,c.2]
theorem yr(cs:List af):(cs.map fb).map tupI=cs.map cD:=by
 rw[bV];rfl
theorem Dr{cs:List af}:∀{mss:List (List Int)},(∀ns∈mss,ns∈cs.map fb)->∃cs':List af,mss=cs'.map fb/\∀c∈cs',c∈cs
 |[],_=>⟨[],rfl,fun c hc=>nomatch hc⟩
 |ns::mss,h=>by
  obtain⟨cs',e,hc⟩:=Dr (mss:=mss) fun n hn=>h n (Δ _ hn);obtain⟨c,h1,rfl⟩:=br.mp (h ns Γ);refine⟨c::cs',by simp[e],fun d hd=>?_⟩;rcases aa.mp hd with rfl|hd
  ·exact h1
  ·exact hc d hd
def MC(a b:af):Prop:=a.1<b.1∨(a.1=b.1/\a.2<b.2)
def v3(cs:List af):Prop:=cs.Pairwise MC
theorem AS{a b:af}(h:fb a=fb b):a=b:=by
 obtain⟨s,r⟩:=a;obtain⟨s',r'⟩:=b;simp[fb] at h;simp[h]
theorem Q9{a b:af}(h:sD.lx (fb b) (fb a)=false)(cQ:a≠b):MC a b:=by
 obtain⟨s,r⟩:=a;obtain⟨s',r'⟩:=b;unfold fb at h;simp only[sD.lx] at h;by_cases e:s'=s
 ·rw[if_pos e] at h;by_cases e2:r'=r
  ·exact absurd (by rw[e,e2]) cQ
  ·rw[if_neg e2] at h;have:=of_decide_eq_false h;exact .inr ⟨e.symm,by simp only;lia⟩
 ·rw[if_neg e] at h;have:=of_decide_eq_false h;exact .inl (by simp only;lia)
theorem Q8{cs:List af}(h:sE (cs.map fb))(nd:(cs.map fb).Nodup):v3 cs:=by
 have h1:=iy.mp h;have h2:=iy.mp nd;exact (h1.and h2).imp fun {a b} q=>Q9 q.1 fun z=>q.2 (by rw[z])
theorem v3.take{cs:List af}(h:v3 cs)(n:Nat):v3 (cs.take n):=List.Pairwise.sublist (oB n cs) h
theorem IL{cs:List af}{mss:List (List Int)}(hmem:∀ns,ns∈mss↔ns∈cs.map fb)(nd:mss.Nodup)(hr:sE mss)(hl:mss.length≤(cs.map fb).length):
  ∃cs':List af,mss=cs'.map fb/\(∀c,c∈cs'↔c∈cs)/\v3 cs'/\cs'.length≤cs.length:=by
 obtain⟨cs',rfl,hc⟩:=Dr fun ns hn=>(hmem ns).mp hn;refine⟨cs',rfl,fun c=>⟨fun h=>hc c h,fun h=>?_⟩,Q8 hr nd,by simpa using hl⟩;obtain⟨c',h1,h2⟩:=br.mp ((hmem (fb c)).mpr (br.mpr ⟨c,h,rfl⟩));rw[←AS h2];exact h1
theorem AR{cs:List af}:∀ns∈cs.map fb,ns≠[]:=fun ns hn=>by
 obtain⟨c,_,rfl⟩:=br.mp hn;simp[fb]
theorem AQ{G:Gp}{a:ζ}{cs:List af}(e:G a=some (.lst (cs.map cD))):G a=some (.lst ((cs.map fb).map tupI)):=by rw[yr];exact e
theorem IK{r:Int}{n:Nat}(h1:0≤r)(h2:r<(n:Int)):seqIndex? r n=some r.toNat:=by
 unfold seqIndex?;simp only[if_neg (show ¬r<0 by lia)];rw[if_pos (by simp;lia)]
theorem Dq{α β:Type}(f:α->β):∀(xs:List α) (i:Nat),(xs.map f).eraseIdx i=(xs.eraseIdx i).map f
 |[],_=>rfl
 |_::_,0=>rfl
 |x::xs,i+1=>by simp[Dq f xs i]
end My
namespace My
open PySem L2 L3
theorem xh{guard:Gp->Prop}{g:iM}{tc:cS}{te:aP}{Q:List D->Gp->Prop}(I:List D->List D->S3->Gp->Prop)(hg:∀ds acc τ G,I ds acc τ G->guard G)
  (step:∀d ds acc τ G (K1:S3->Gp->Prop) (K2:S3->D->Gp->Prop),I (d::ds) acc τ G->(∀τ' v G',I ds (acc++[v]) τ' G'->K2 τ' v G')->(∀τ' G',I ds acc τ' G'->K1 τ' G')->g d τ G fun τ2 G2=>tc τ2 G2 fun b G3=>Br b (te τ2 G3 fun v G4=>K2 τ2 v G4) (K1 τ2 G3))
  (mS:∀acc τ G,I [] acc τ G->Q acc G):∀ds acc τ G,I ds acc τ G->jI guard g tc te Q ds acc τ G
 |[],acc,τ,G,h=>⟨hg _ _ _ _ h,mS _ _ _ h⟩
 |d::ds,acc,τ,G,h=>⟨hg _ _ _ _ h,step d ds acc τ G (fun τ2 G3=>jI guard g tc te Q ds acc τ2 G3) (fun τ2 v G4=>jI guard g tc te Q ds (acc++[v]) τ2 G4) h
   (fun τ' v G' q=>xh I hg step mS ds _ τ' G' q) fun τ' G' q=>xh I hg step mS ds _ τ' G' q⟩
def vJ:fc:=fun ds G Q=>∃(p:ζ) (m:Int),ds=[.obj p,.int m]/\G p=some .mG/\(0<m/\m≤1000)/\∀c:af,Valid c->c.1≤m->Q (cD c) G
def Q7:ao:=dh (ky (ν (ο 2) (ν (bx ku (ν (ο 0) (ν (ο 2) (ae)))) (ae))))
def IJ:ao:=aX (bz (aq dy (eC (.int 1)) (bx ku (ν (ο 0) (ν (ο 1) (ae))))) (hName 2)) Q7
theorem Q6:∀ds G Q,vJ ds G Q->IJ (bo Q) (bD ["pen","most","step"] ds) G:=by
 rintro ds G Q ⟨p,m,rfl,hp,hm,q⟩;refine⟨p,m,rfl,hp,⟨hm.1,ff (by lia) (by lia)⟩,fun r h1 h2=>?_⟩;refine⟨p,_,rfl,hp,⟨by lia,ff (by lia) (by lia)⟩,fun r2 h3 h4=>fK (q (1+r,r2) ⟨?_,h3,h4⟩ ?_)⟩
 ·show 0<1+r;lia
 ·show 1+r≤m;lia
theorem II{cs:List af}{mss:List (List Int)}(hp:mss.Perm (cs.map fb)):∃cs':List af,mss=cs'.map fb/\(∀c∈cs',c∈cs)/\cs'.length=cs.length:=by
 obtain⟨cs',rfl,hc⟩:=Dr fun ns hn=>hp.mem_iff.mp hn;exact⟨cs',rfl,hc,by simpa using hp.length_eq⟩
def yq:fc:=fun ds G Q=>∃(p:ζ) (l m:Int),ds=[.obj p,.int l,.int m]/\G p=some .mG/\(l≤m/\1≤m/\m≤50)/\∀q cs G',kA 1000 cs->1≤cs.length->(cs.length:Int)≤m->cw G q (.lst (cs.map cD)) G'->Q (.obj q) G'
def Q5:ao:=bz (aq dy (ο 3) (gf ["part"] [5,4,6] (kU (ν (ο 4) (ae))) (hName 0) (eQ) (ky (ν (aq eY (ο 1) (ο 2)) (ν (aq dy (ο 3) (aq eY (ο 1) (ο 0))) (ae)))))) (hName 3)
def RJ:ao:=aX (kf (cN (aq wU (aq eY (ο 5) (ο 4)) (eC (.int 1000)))) (dh (eL yy (ν (aq dy (ο 3) (fh (ν (ky (ν (ο 5) (ν (ο 6) (ae)))) (ae)))) (ae)))) (fZ)) Q5
def Ju:ao:=aX (bz (eM Ea (ο 3) (ν (bx ku (ν (ο 0) (ν (eL kv (ν (ο 3) (ae))) (ae)))) (ae))) (mT 2 (eZ (hName 5) (eZ (hName 6) (mU))))) RJ
def RI:ao:=aX (bz (eL Ec (ν (ο 4) (ν (eL wY (ν (eC (.int 2)) (ν (aq dy (aq gb (ο 2) (eL kv (ν (ο 3) (ae)))) (eC (.int 1))) (ae)))) (ae)))) (hName 4)) Ju
def Jt:ao:=aX (bz (wq (ν (eC (.int 2)) (ν (eC (.int 2)) (ν (eC (.int 3)) (ν (eC (.int 2)) (ν (eC (.int 3)) (ν (eC (.int 5)) (ae))))))) (bx ku (ν (ο 0) (ν (eC (.int 6)) (ae))))) (hName 4)) RI
def DZ:ao:=dh (eL yy (ν (ο 3) (ae)))
def RH:ao:=aX (qZ (ze (cN (aq xK (eL kv (ν (ο 3) (ae))) (ο 1))) (EF (cN (aq wU (bx ku (ν (ο 0) (ν (eC (.int 4)) (ae)))) (eC (.int 0)))) (cN (aq xK (eL kv (ν (ο 3) (ae))) (ο 2))))) (Jt)) DZ
def Js:ao:=aX (bz (fh (ν (ky (ν (eC (.int 1)) (ν (eC (.int 0)) (ae)))) (ae))) (hName 3)) RH
theorem wrote{G G1:Gp}{q:ζ}{o o':GO}(n:cw G q o G1):cw G q o' (du G1 q o'):=⟨n.aC,Sub.tO n.sub n.aC,mF⟩
theorem RF{G G1:Gp}{Q:V3}{p:ζ}{l m:Int}{q1:ζ}{cs:List af}{x4 x5 x6:Option D}(hm:m≤50)(q:∀q cs G',kA 1000 cs->1≤cs.length->(cs.length:Int)≤m->cw G q (.lst (cs.map cD)) G'->Q (.obj q) G')
  (n1:cw G q1 (.lst (cs.map cD)) G1) (ok:kA 1000 cs) (l1:1≤cs.length) (l2:(cs.length:Int)≤m):DZ (bo Q) [some (.obj p),some (.int l),some (.int m),some (.obj q1),x4,x5,x6] G1:=by
 refine⟨_,AQ n1.at_,by rw[π];lia,AR,fun p2 mss G2 hp2 hpm hr=>?_⟩;obtain⟨cs',rfl,hmem,hlen⟩:=II hpm;rw[yr] at hp2;exact fK (q p2 cs' _ (fun c hc=>ok c (hmem c hc)) (by lia) (by lia) ⟨n1.sub.of_none hp2.aC,n1.sub.trans hp2.sub,hp2.at_⟩)
def sH(G:Gp)(p:ζ)(l m:Int)(k:Nat):S3->Gp->Prop:=fun τ' G'=>∃m',m' < k/\∃q cs x4 x5 x6,τ'=[some (.obj p),some (.int l),some (.int m),some (.obj q),x4,x5,x6]/\cw G q (.lst (cs.map cD)) G'/\kA 1000 cs/\1≤cs.length/\(cs.length:Int)≤m/\(m':Int)+cs.length=m
theorem RE{G G1:Gp}{Q:V3}{D3:gg}{p:ζ}{l m:Int}{q1:ζ}{cs:List af}{x5 x6:Option D}{k:Nat}{k1:Int}(hp:G p=some .mG)(hm:m≤50)(q:∀q cs G',kA 1000 cs->1≤cs.length->(cs.length:Int)≤m->cw G q (.lst (cs.map cD)) G'->Q (.obj q) G')
  (n1:cw G q1 (.lst (cs.map cD)) G1) (ok:kA 1000 cs) (l1:1≤cs.length) (l2:(cs.length:Int)<m) (hk:(k:Int)+cs.length=m) (h1:2≤k1) (h2:k1≤5) (h3:(cs.length:Int)-1+k1≤m)
  (YQ:D3.rt=(bo Q).rt) (hnx:D3.nx=sH G p l m k):Ju D3 [some (.obj p),some (.int l),some (.int m),some (.obj q1),some (.int k1),x5,x6] G1:=by
 have hp1:=n1.sub p _ hp;have e1:=n1.at_;refine⟨⟨q1,_,rfl,e1⟩,_,e1,p,_,rfl,hp1,⟨by rw[π];lia,ff (by rw[π];lia) (by rw[π];lia)⟩,fun r a b=>?_⟩;rw[π] at b;obtain⟨c,ec,hc,_⟩:=Ds cD a b;obtain⟨s,r'⟩:=c;refine⟨_,r.toNat,cD (s,r'),e1,⟨by lia,by lia⟩,by rw[π];exact IK a b,by rw[aE,ec];rfl,rfl,?_⟩;rw[Dq];have n2:cw G q1 (.lst ((cs.eraseIdx r.toNat).map cD)) (du G1 q1 (.lst ((cs.eraseIdx r.toNat).map cD))):=wrote n1;generalize du G1 q1 (.lst ((cs.eraseIdx r.toNat).map cD))=G2 at n2;have hv:=(ok _ hc).1;have hs:=(ok _ hc).2;simp only at hs;have hv1:0<s:=hv.1;have hlen:(cs.eraseIdx r.toNat).length=cs.length-1:=List.length_eraseIdx_of_lt (by lia);have ok2:kA 1000 (cs.eraseIdx r.toNat):=fun c hc=>ok c (pU hc);refine⟨⟨ff (by lia) (by lia),ff (by lia) (by lia)⟩,fun hg=>?_,fun hg=>?_⟩
 ·intro q3 G3 n3;refine⟨_,_,n3.sub _ _ n2.at_,n3.at_,?_,fun q4 G4 n4=>?_⟩
  ·rw[π,hlen];exact da (by simp;lia)
  have e4:G4 q4=some (.lst (((cs.eraseIdx r.toNat)++[(s,r')]).map cD)):=by
   rw[n4.at_,bM];rfl
  refine⟨_,AQ e4,by rw[π,Ω,hlen];simp;lia,AR,fun p2 mss G5 hp2 hpm hr=>?_⟩;obtain⟨cs',rfl,hmem,hl'⟩:=II hpm;rw[yr] at hp2;rw[YQ];rw[Ω,hlen,dY] at hl';have s4:=(n2.sub.trans n3.sub).trans n4.sub;refine fK (q p2 cs' _ (fun c hc'=>?_) (by lia) (by lia) ⟨s4.of_none hp2.aC,s4.trans hp2.sub,hp2.at_⟩);rcases cI.mp (hmem c hc') with z|z
  ·exact ok2 c z
  ·have:c=(s,r'):=by simpa using z
   rw[this];exact ok _ hc
 ·have hg':¬(1000<s*k1):=of_decide_eq_false hg;refine⟨⟨by lia,by lia⟩,?_,?_⟩
  ·show (jj 0 k1.toNat).length≤au;rw[t6];exact da (by lia)
  refine nP (fun τ=>∃x,τ=[x,some (.int s),some (.int k1),some (.int r')]) (fun i:Nat=>D.int (0+(i:Int))) (fun _=>true) (fun i:Nat=>cD (s*k1,r'+s*(0+(i:Int)))) trivial (aA k1.toNat) [] _ ⟨none,rfl⟩ ?_ ?_
  ·rintro i hi τ K1 K2 ⟨x,rfl⟩ g1 g2;have hi':(i:Int)<k1:=by have:=b9.mp hi;lia
   have b1:gh s:=ff (by lia) (by lia);refine⟨fun _=>⟨⟨b1,ff (by lia) (by lia)⟩,⟨b1,ff (by lia) (by lia)⟩,?_⟩,nofun⟩;exact g1 rfl _ ⟨_,rfl⟩
  ·intro q3 G3 n3;rw[cX,tL.mpr (fun _ _=>rfl)] at n3;have em:((aA k1.toNat).map fun i:Nat=>cD (s*k1,r'+s*(0+(i:Int))))=((aA k1.toNat).map fun i:Nat=>((s*k1,r'+s*(0+(i:Int))):af)).map cD:=by rw[bV];rfl
   rw[em] at n3;refine⟨_,_,n3.sub _ _ n2.at_,n3.at_,?_,fun q4 G4 n4=>?_⟩
   ·rw[π,π,π,cb,hlen];exact da (by lia)
   rw[←bM] at n4;show D3.nx _ G4;rw[hnx];have s3:=n2.sub.trans n3.sub;have hl':((cs.eraseIdx r.toNat)++((aA k1.toNat).map fun i:Nat=>((s*k1,r'+s*(0+(i:Int))):af))).length=cs.length-1+k1.toNat:=by
    rw[Ω,hlen,π,cb]
   refine⟨(m-((cs.length:Int)-1+k1)).toNat,by lia,q4,_,_,_,_,rfl,⟨s3.of_none n4.aC,s3.trans n4.sub,n4.at_⟩,fun c hc'=>?_,by lia,by lia,by lia⟩;rcases cI.mp hc' with z|z
   ·exact ok2 c z
   ·obtain⟨i,hi,rfl⟩:=br.mp z;have:=b9.mp hi;exact⟨Ra hv (by lia) (by lia),by show s*k1≤1000;lia⟩
theorem RC:∀ds G Q,yq ds G Q->Js (bo Q) (bD ["pen","least","most","clocks","k","step","rest"] ds) G:=by
 rintro ds G Q ⟨p,l,m,rfl,hp,hm,q⟩;intro q0 G0 n0;refine⟨fun k τ G'=>∃q cs x4 x5 x6,τ=[some (.obj p),some (.int l),some (.int m),some (.obj q),x4,x5,x6]/\cw G q (.lst (cs.map cD)) G'/\kA 1000 cs/\1≤cs.length/\(cs.length:Int)≤m/\(k:Int)+cs.length=m,⟨(m-1).toNat,q0,[(1,0)],_,_,_,rfl,n0,by intro c hc;simp at hc;subst hc;exact⟨⟨by decide,by decide,by decide⟩,by decide⟩,by decide,by simp;lia,by simp;lia⟩,?_⟩;rintro k τ G1 ⟨q1,cs,x4,x5,x6,rfl,n1,ok,l1,l2,hk⟩;have hp1:=n1.sub p _ hp;have e1:=n1.at_;have stop:=RF (p:=p) (l:=l) (x4:=x4) (x5:=x5) (x6:=x6) (by lia) q n1 ok l1 l2;have go:(cs.length:Int)<m->Jt { bo Q with nx:=sH G p l m k,ct:=sH G p l m k,bk:=DZ (bo Q)} [some (.obj p),some (.int l),some (.int m),some (.obj q1),x4,x5,x6] G1:=by
  intro hlt;refine⟨p,6,rfl,hp1,⟨by decide,ff (by decide) (by decide)⟩,fun r h1 h2=>?_⟩;obtain⟨k0,hk0,ek⟩:=IM (ns:=[2,2,3,2,3,5]) h1 h2;refine⟨.int k0,ek,_,e1,?_⟩;have hk2:2≤k0/\k0≤5:=by simp at hk0;lia
  refine RE hp (by lia) q n1 ok l1 hlt hk ?_ ?_ ?_ rfl rfl
  ·rw[π];split<;>split<;>lia
  ·rw[π];split<;>split<;>lia
  ·rw[π];split<;>split<;>lia
 refine⟨_,e1,fun h=>⟨fun _=>go ?_,nofun⟩,fun h=>⟨p,4,rfl,hp1,⟨by decide,ff (by decide) (by decide)⟩,fun r a b=>⟨fun h2=>⟨_,e1,fun h3=>go ?_,fun h3=>stop⟩,fun h2=>⟨nofun,fun _=>stop⟩⟩⟩⟩
 ·have h':((cs.map cD).length:Int)<l:=of_decide_eq_true h;rw[π] at h';lia
 ·have h':((cs.map cD).length:Int)<m:=of_decide_eq_true h3;rw[π] at h';lia
end My
namespace My
open PySem L2 L3
def yp:fc:=fun ds G Q=>∃(p:ζ) (m:Int),ds=[.obj p,.int m]/\G p=some .mG/\(1≤m/\m≤50)/\∀cs,kA 1000 cs->(cs.length:Int)≤m->v3 cs->Q (gY cs) G
def RB:ao:=qg (eM Eb (ο 3) (ν (ky (ν (ο 6) (ν (bx ku (ν (ο 0) (ν (ο 6) (ae)))) (ae)))) (ae)))
def RA:ao:=aX (bz (aq dE (ο 4) (bx ku (ν (ο 0) (ν (eC (.int 7)) (ae))))) (hName 6)) RB
def Rz:ao:=kr (kU (ν (bx ku (ν (ο 0) (ν (aq dy (ο 1) (eC (.int 1))) (ae)))) (ae))) (hName 5) (RA)
def Ry:ao:=aX (bz (fh (ae)) (hName 3)) Rz
def Jr:ao:=kf (cN (aq (gZ false) (ο 2) (eC (.int 4)))) (qg (eM Ea (ο 3) (ν (bx ku (ν (ο 0) (ν (eL kv (ν (ο 3) (ae))) (ae)))) (ae)))) (fZ)
def QQ:ao:=aX (kf (cN (aq (gZ false) (ο 2) (eC (.int 3)))) (bz (aq dy (ο 3) (fh (ν (bx vJ (ν (ο 0) (ν (eC (.int 6)) (ae)))) (ae)))) (hName 3)) (fZ)) Jr
def DY:ao:=dh (zD (eL wX (ν (sx (ο 3)) (ae))) (wg) (se (ο 1)))
def QP:ao:=aX (kf (cN (aq (gZ false) (ο 2) (eC (.int 0)))) (bz (gf ["turn"] [0] (kU (ν (bx ku (ν (ο 0) (ν (aq dy (ο 1) (eC (.int 1))) (ae)))) (ae))) (hName 0) (eQ) (bx vJ (ν (ο 1) (ν (eC (.int 12)) (ae))))) (hName 3)) (kf (cN (aq (gZ false) (ο 2) (eC (.int 1)))) (aX (bz (fh (ν (eC (.int 2)) (ν (eC (.int 3)) (ν (eC (.int 4)) (ν (eC (.int 6)) (ν (eC (.int 8)) (ν (eC (.int 12)) (ν (eC (.int 24)) (ae))))))))) (hName 4)) Ry) (aX (bz (bx yq (ν (ο 0) (ν (eC (.int 1)) (ν (eL wY (ν (eC (.int 1)) (ν (aq gb (ο 1) (eC (.int 1))) (ae)))) (ae))))) (hName 3)) QQ))) DY
def Jq:ao:=aX (bz (bx ku (ν (ο 0) (ν (eC (.int 5)) (ae)))) (hName 2)) QP
theorem AO{G G1:Gp}{Q:V3}{p:ζ}{m:Int}{q1:ζ}{cs:List af}{x2 x4 x5 x6:Option D}(hm:1≤m/\m≤50)(q:∀cs,kA 1000 cs->(cs.length:Int)≤m->v3 cs->Q (gY cs) G)
  (n1:cw G q1 (.lst (cs.map cD)) G1) (ok:kA 1000 cs) (hl:cs.length≤60):DY (bo Q) [some (.obj p),some (.int m),x2,some (.obj q1),x4,x5,x6] G1:=by
 refine⟨_,AQ n1.at_,by rw[π];exact hl,AR,fun p1 mss G2 hp1 hmem nd hr hlen=>?_⟩;obtain⟨cs',rfl,hmem,hr,hlen⟩:=IL hmem nd hr hlen;rw[yr] at hp1;refine⟨_,hp1.at_,?_⟩;obtain⟨k,rfl⟩:∃k:Nat,m=(k:Int):=⟨m.toNat,by lia⟩;show (bo Q).rt (.tup (ll (cs'.map cD) none (some (k:Int)))) G2;rw[AU,Dt];refine AX (n1.sub.trans hp1.sub) (q _ (fun c hc=>ok c ((hmem c).mp (mn hc))) ?_ (hr.take k));rw[eR];lia
theorem QN:∀ds G Q,yp ds G Q->Jq (bo Q) (bD ["pen","most","way","found","steps","turn","step"] ds) G:=by
 rintro ds G Q ⟨p,m,rfl,hp,hm,q⟩;refine⟨p,5,rfl,hp,⟨by decide,ff (by decide) (by decide)⟩,fun way w1 w2=>?_⟩;refine⟨_,_,rfl,rfl,bp _,fun _=>?_,fun _=>⟨_,_,rfl,rfl,bp _,fun _=>?_,fun _=>?_⟩⟩
 ·-- clocks of small steps
  refine⟨p,_,rfl,hp,⟨by lia,ff (by lia) (by lia)⟩,fun n h1 h2=>⟨⟨by lia,by lia⟩,?_,?_⟩⟩
  ·show (jj 0 n.toNat).length≤au;rw[t6];exact da (by lia)
  refine xh (fun ds acc τ G'=>(∃cs:List af,acc=cs.map cD/\kA 1000 cs/\cs.length+ds.length≤50)/\G'=G/\∃x,τ=[x,some (.obj p)]) (fun _ _ _ _ _=>trivial) ?_ ?_ _ _ _ _ ⟨⟨[],rfl,(fun c hc=>nomatch hc),?_⟩,rfl,none,rfl⟩
  ·rintro d ds acc τ G' K1 K2 ⟨⟨cs,rfl,ok,hl⟩,rfl,x,rfl⟩ g1 g2;refine⟨fun _=>⟨p,12,rfl,hp,⟨by decide,by decide⟩,fun c hv hc=>?_⟩,nofun⟩;refine g1 _ _ _ ⟨⟨cs++[c],by simp,fun c' hc'=>?_,?_⟩,rfl,_,rfl⟩
   ·rcases cI.mp hc' with z|z
    ·exact ok c' z
    ·have:c'=c:=by simpa using z
     rw[this];exact⟨hv,by lia⟩
   ·rw[Ω,dY];simp only[aB] at hl;lia
  ·rintro acc τ G' ⟨⟨cs,rfl,ok,hl⟩,rfl,x,rfl⟩;intro q1 G1 n1;exact AO hm q n1 ok (by simp at hl;lia)
  ·show ([]:List af).length+(jj 0 n.toNat).length≤50;rw[t6];simp;lia
 ·-- of told steps
  intro st G0 hst q1 G1 n1;have hp1:=n1.sub _ _ (hst.sub _ _ hp);refine⟨p,_,rfl,hp1,⟨by lia,ff (by lia) (by lia)⟩,fun n h1 h2=>⟨⟨by lia,by lia⟩,?_⟩⟩;refine nS (fun ds τ G'=>∃cs x5 x6,τ=[some (.obj p),some (.int m),some (.int way),some (.obj q1),some (.obj st),x5,x6]/\cw G q1 (.lst (cs.map cD)) G'/\G' st=some (.lst (([2,3,4,6,8,12,24]:List Int).map D.int))/\kA 1000 cs/\cs.length+ds.length≤50) (fun _ _ _ _=>trivial) ?_ ?_ _ _ _ ?_
  ·rintro d ds τ G2 N ⟨cs,x5,x6,rfl,n2,e3,ok,hl⟩ hN;have hp2:=n2.sub p _ hp;have e2:=n2.at_;refine⟨p,7,rfl,hp2,⟨by decide,ff (by decide) (by decide)⟩,fun r a b=>?_⟩;obtain⟨stp,hm',es⟩:=IM (ns:=[2,3,4,6,8,12,24]) a b;have hs:2≤stp/\stp≤24:=by simp at hm';lia
   refine⟨_,.int stp,e3,es,⟨q1,_,rfl,e2⟩,p,stp,rfl,hp2,⟨by lia,ff (by lia) (by lia)⟩,fun r2 h3 h4=>?_⟩;simp only[aB] at hl;refine⟨_,e2,by rw[π];exact fV (show cs.length≤50 by lia) (by decide),?_⟩;have cQ:st≠q1:=fun z=>by
    rw[z,e2] at e3;cases cs with
    |nil=>simp at e3
    |cons c cs=>simp[cD] at e3
   refine hN _ _ ⟨cs++[(stp,r2)],_,_,rfl,⟨n2.aC,Sub.tO n2.sub n2.aC,?_⟩,?_,fun c hc=>?_,?_⟩
   ·rw[mF,bM];rfl
   ·rw[ny cQ];exact e3
   ·rcases cI.mp hc with hc|hc
    ·exact ok c hc
    ·have:c=(stp,r2):=by simpa using hc
     subst this;exact⟨⟨by show 0<stp;lia,h3,h4⟩,by show stp≤1000;lia⟩
   ·rw[Ω,dY];lia
  ·rintro τ G2 ⟨cs,x5,x6,rfl,n2,e3,ok,hl⟩;exact AO hm q n2 ok (by simp at hl;lia)
  ·refine⟨[],_,_,rfl,⟨hst.sub.of_none n1.aC,hst.sub.trans n1.sub,n1.at_⟩,n1.sub _ _ hst.at_,(fun c hc=>nomatch hc),?_⟩;show ([]:List af).length+(jj 0 n.toNat).length≤50;rw[t6];simp;lia
 ·-- by splits
  refine⟨p,1,_,rfl,hp,⟨?_,?_,?_⟩,fun q1 cs G1 ok l1 l2 n1=>?_⟩
  ·split<;>lia
  ·split<;>lia
  ·split<;>lia
  have l3:cs.length≤50:=by
   have:(cs.length:Int)≤50:=gR l2 (by split<;>lia)
   lia
  have hp1:=n1.sub _ _ hp;have pop:∀{q1:ζ} {cs:List af} {G1:Gp},kA 1000 cs->1≤cs.length->cs.length≤51->cw G q1 (.lst (cs.map cD)) G1->Jr { bo Q with nx:=DY (bo Q)} [some (.obj p),some (.int m),some (.int way),some (.obj q1),none,none,none] G1:=by
   intro q1 cs G1 ok l1 l3 n1;refine⟨_,_,rfl,rfl,bp _,fun _=>?_,fun _=>AO hm q n1 ok (by lia)⟩;have e1:=n1.at_;refine⟨⟨q1,_,rfl,e1⟩,_,e1,p,_,rfl,n1.sub _ _ hp,⟨by rw[π];lia,ff (by rw[π];lia) (by rw[π];lia)⟩,fun r a b=>?_⟩;rw[π] at b;obtain⟨c,ec,hc,_⟩:=Ds cD a b;refine⟨_,r.toNat,cD c,e1,⟨by lia,by lia⟩,by rw[π];exact IK a b,by rw[aE,ec];rfl,?_⟩;rw[Dq];exact AO hm q (wrote n1) (fun c hc=>ok c (pU hc)) (av (D5 cs _) (by lia))
  refine⟨_,_,rfl,rfl,bp _,fun _=>?_,fun _=>pop ok l1 (by lia) n1⟩;refine⟨p,6,rfl,hp1,⟨by decide,by decide⟩,fun c hv hc=>?_⟩;intro q2 G2 n2;refine⟨_,_,n2.sub _ _ n1.at_,n2.at_,?_,fun q3 G3 n3=>?_⟩
  ·rw[π];exact da (by simp;lia)
  have n3':cw G q3 (.lst ((cs++[c]).map cD)) G3:=⟨(n1.sub.trans n2.sub).of_none n3.aC,(n1.sub.trans n2.sub).trans n3.sub,by rw[n3.at_,bM];rfl⟩;refine pop (fun c' hc'=>?_) (by simp) (by simp;lia) n3';rcases cI.mp hc' with z|z
  ·exact ok c' z
  ·have:c'=c:=by simpa using z
   rw[this];exact⟨hv,by lia⟩
end My
namespace My
open PySem L2 L3
def xg:fc:=fun ds G Q=>∃(c:af) (n:Int),ds=[cD c,.int n]/\0<c.1/\Q (.bl (bJ n c)) G
def Jp:ao:=dh (aq (gZ false) (aq jv (aq gb (ο 1) (aq dE (ο 0) (eC (.int 1)))) (aq dE (ο 0) (eC (.int 0)))) (eC (.int 0)))
theorem QM:∀ds G Q,xg ds G Q->Jp (bo Q) (bD ["clock","number"] ds) G:=by
 rintro ds G Q ⟨⟨s,r⟩,n,rfl,hs,q⟩;exact⟨_,rfl,_,rfl,hs,_,_,rfl,rfl,bp _,fK q⟩
def yo:fc:=fun ds G Q=>∃a b:Nat,ds=[.int a,.int b]/\Q (.int (bP a b:Nat)) G
def QL:ao:=CD 0 1 (ν (ο 1) (ν (aq jv (ο 0) (ο 1)) (ae)))
def QK:ao:=dh (ο 0)
def Jo:ao:=aX (qZ (cN (aq wU (ο 1) (eC (.int 0)))) (QL)) QK
theorem QJ:∀ds G Q,yo ds G Q->Jo (bo Q) (bD ["one","other"] ds) G:=by
 rintro ds G Q ⟨a,b,rfl,q⟩;refine⟨fun m τ G'=>G'=G/\∃a':Nat,τ=[some (.int a'),some (.int (m:Nat))]/\bP a' m=bP a b,⟨b,rfl,a,rfl,rfl⟩,?_⟩;rintro m τ G' ⟨rfl,a',rfl,hg⟩;refine⟨fun h=>?_,fun h=>?_⟩
 ·have h':(0:Int)<(m:Int):=of_decide_eq_true h;refine⟨h',a'%m,by exact_mod_cast fO a' (by lia),rfl,m,?_,?_⟩
  ·show [some (D.int (m:Nat)),some (D.int ((a':Int)%(m:Int)))]=_;rw[←iZ]
  ·rw[←hg,gO a' m,qR m a',gO]
 ·have h':¬((0:Int)<(m:Int)):=of_decide_eq_false h;have:m=0:=by lia
  subst this;rw[nH] at hg;rw[←hg] at q;exact fK q
def vB(cs:List af)(a:Nat):Nat:=cs.foldl (fun a c=>aS a c.1.toNat) a
def cZ(cs:List af):Nat:=vB cs 1
theorem Jn{M:Nat}:∀{cs:List af} {a:Nat},(∀c∈cs,0<c.1/\c.1≤(M:Int))->0<a->0<vB cs a/\vB cs a≤a*M^cs.length
 |[],a,_,h=>⟨h,by simp[vB]⟩
 |c::cs,a,hc,h=>by
  obtain⟨h1,h2⟩:=hc c Γ;have hp:0<aS a c.1.toNat:=qQ h (by lia);obtain⟨h3,h4⟩:=Jn (cs:=cs) (a:=aS a c.1.toNat) (fun d hd=>hc d (Δ _ hd)) hp;refine⟨h3,av h4 ?_⟩;rw[aB,iJ,gM (M^cs.length) M,←nX];refine iV _ ?_;have:aS a c.1.toNat≤a*c.1.toNat:=jc (qO h (by lia)) (nj (Nat.dvd_mul_right _ _) (Nat.dvd_mul_left _ _));exact av this (tH _ (by lia))
theorem Jm{cs:List af}(h:kA 1000 cs)(hl:cs.length≤12):0<cZ cs/\cZ cs≤1000^12:=by
 obtain⟨h1,h2⟩:=Jn (M:=1000) (cs:=cs) (a:=1) (fun c hc=>⟨(h c hc).1.1,(h c hc).2⟩) (by decide);refine⟨h1,av h2 ?_⟩;rw[Nat.one_mul];exact cW (by decide) hl
theorem Jl{n:Nat}(h:n<10^80):gh (n:Int):=by
 show (n:Int).natAbs<2^4000;exact jP (by simpa using h) (by decide)
def yn:fc:=fun ds G Q=>∃(cs:List af) (n:Int),ds=[gY cs,.int n]/\(∀c∈cs,0<c.1)/\cs.length≤1000/\Q (.int ((cs.filter (bJ n)).length:Nat)) G
def Iv:ao:=dh (eL kv (ν (gf ["clock"] [1] (lg (ο 0)) (hName 0) (cN (bx xg (ν (ο 0) (ν (ο 1) (ae))))) (ο 0)) (ae)))
theorem QH:∀ds G Q,yn ds G Q->Iv (bo Q) (bD ["clocks","number"] ds) G:=by
 rintro ds G Q ⟨cs,n,rfl,hc,hz,q⟩;refine⟨by show (cs.map cD).length≤au;rw[π];exact da hz,?_⟩;refine nP (fun τ=>∃x,τ=[x,some (.int n)]) cD (bJ n) cD (G:=G) trivial cs [] _ ⟨none,rfl⟩ ?_ ?_
 ·rintro c hm τ K1 K2 ⟨x,rfl⟩ h1 h2;exact⟨c,n,rfl,hc c hm,fun e=>h1 e _ ⟨_,rfl⟩,fun e=>h2 e _ ⟨_,rfl⟩⟩
 ·intro p G' h;refine⟨_,h.at_,?_⟩;rw[cX,π];exact AX h.sub q
end My
namespace My
open PySem L2 L3
def ym:fc:=fun ds G Q=>∃a b:Nat,ds=[.int a,.int b]/\Q (.int (bP a b:Nat)) G
def QF:ao:=bz (ο 2) (hName 1)
def QD:ao:=aX (bz (ο 1) (hName 0)) QF
def QB:ao:=aX (bz (aq jv (ο 0) (ο 1)) (hName 2)) QD
def Qz:ao:=dh (ο 0)
def Iu:ao:=aX (qZ (cN (aq (gZ true) (ο 1) (eC (.int 0)))) (QB)) Qz
theorem Qy:∀ds G Q,ym ds G Q->Iu (bo Q) (bD ["one","other","left"] ds) G:=by
 rintro ds G Q ⟨a,b,rfl,q⟩;refine⟨fun m τ G'=>G'=G/\∃(a':Nat) (x:Option D),τ=[some (.int a'),some (.int (m:Nat)),x]/\bP a' m=bP a b,⟨b,rfl,a,_,rfl,rfl⟩,?_⟩;rintro m τ G' ⟨rfl,a',x,rfl,hg⟩;refine⟨_,_,rfl,rfl,bp _,fun h=>?_,fun h=>?_⟩
 ·have h1:(!((m:Int)==0))=true:=h;have h':(0:Int)<(m:Int):=by simp at h1;lia
  refine⟨h',a'%m,by exact_mod_cast fO a' (by lia),rfl,m,some (.int (a'%m:Nat)),?_,?_⟩
  ·show [some (D.int (m:Nat)),some (D.int ((a':Int)%(m:Int))),some (D.int ((a':Int)%(m:Int)))]=_;rw[←iZ]
  ·rw[←hg,gO a' m,qR m a',gO]
 ·have h1:(!((m:Int)==0))=false:=h;have:m=0:=by simp at h1;lia
  subst this;rw[nH] at hg;rw[←hg] at q;exact fK q
def nD(n:Nat):D:=.int (n:Nat)
theorem filter_all{α:Type}(xs:List α):xs.filter (fun _=>true)=xs:=tL.mpr fun _ _=>rfl
end My
namespace My
open PySem L2 L3
def yl:fc:=fun ds G Q=>∃n b:Nat,ds=[.int n,.int b]/\0<b/\b<10^70/\bP n b=1/\∀r:Int,0≤r->r<b->((b:Int)∣n*r-1)->Q (.int r) G
def Qx:ao:=bz (ο 8) (hName 5)
def Qw:ao:=aX (bz (ο 7) (hName 3)) Qx
def Qv:ao:=aX (bz (ο 5) (hName 4)) Qw
def Qu:ao:=aX (bz (ο 3) (hName 2)) Qv
def Qt:ao:=aX (bz (aq gb (ο 4) (aq eY (ο 6) (ο 5))) (hName 8)) Qu
def Qs:ao:=aX (bz (aq gb (ο 2) (aq eY (ο 6) (ο 3))) (hName 7)) Qt
def Qr:ao:=aX (bz (aq lO (ο 2) (ο 3)) (hName 6)) Qs
def Qq:ao:=dh (aq jv (ο 4) (ο 1))
def Qp:ao:=aX (qZ (cN (aq (gZ true) (ο 3) (eC (.int 0)))) (Qr)) Qq
def Qo:ao:=aX (bz (eC (.int 1)) (hName 5)) Qp
def Qn:ao:=aX (bz (eC (.int 0)) (hName 4)) Qo
def Qm:ao:=aX (bz (aq jv (ο 0) (ο 1)) (hName 3)) Qn
def Ir:ao:=aX (bz (ο 1) (hName 2)) Qm
theorem Ql{hf lf q:Int}{lo hi le b:Nat}(hq:0≤q)(he:(le:Int)=hi-q*lo)(h:hf.natAbs*lo+lf.natAbs*hi≤b):lf.natAbs*le+(hf-q*lf).natAbs*lo≤b:=by
 obtain⟨k,rfl⟩:∃k:Nat,q=(k:Int):=⟨q.toNat,by lia⟩;have h1:(hf-(k:Int)*lf).natAbs≤hf.natAbs+k*lf.natAbs:=by
  have:=Int.natAbs_sub_le hf ((k:Int)*lf);rw[Int.natAbs_mul,jU] at this;exact this
 have h2:hi=le+k*lo:=by
  have:(hi:Int)=((le+k*lo:Nat):Int):=by
   rw[qt,cY];lia
  exact_mod_cast this
 have h3:=iV lo h1;rw[Nat.add_mul] at h3;have h4:lf.natAbs*hi=lf.natAbs*le+k*lf.natAbs*lo:=by
  rw[h2,Nat.mul_add,gM k lf.natAbs,nX]
 lia
theorem Q4:∀ds G Q,yl ds G Q->Ir (bo Q) (bD ["number","bound","high","low","high_factor","low_factor","turns","left","left_factor"] ds) G:=by
 rintro ds G Q ⟨n,b,rfl,hb,hz,hg,q⟩;have hb':(0:Int)<(b:Int):=by lia
 refine⟨hb',?_⟩;refine⟨fun m τ G'=>G'=G/\∃(hi:Nat) (hf lf:Int) (x6 x7 x8:Option D),τ=[some (.int n),some (.int b),some (.int hi),some (.int (m:Nat)),some (.int hf),some (.int lf),x6,x7,x8]/\m<hi/\hi≤b/\bP hi m=1/\((b:Int)∣hi-hf*n)/\((b:Int)∣m-lf*n)/\hf.natAbs*m+lf.natAbs*hi≤b,⟨n%b,rfl,b,0,1,none,none,none,?_,fO _ hb,Ψ _,?_,?_,?_,?_⟩,?_⟩
 ·show [some (D.int n),some (D.int b),some (D.int b),some (D.int ((n:Int)%(b:Int))),_,_,_,_,_]=_;rw[←iZ]
 ·rw[←hg,gO b,←qR,gO]
 ·rw[Int.zero_mul,Int.sub_zero];exact Int.dvd_refl _
 ·refine⟨-((n:Int) / b),?_⟩;have:=cR (n:Int) b;rw[iZ,vw];lia
 ·simp
 rintro m τ G' ⟨rfl,hi,hf,lf,x6,x7,x8,rfl,h0,h1,hgm,d1,d2,hbd⟩;refine⟨_,_,rfl,rfl,bp _,fun h=>?_,fun h=>?_⟩
 ·have h2:(!((m:Int)==0))=true:=h;have hm:0<m:=by simp at h2;lia
  have hlf:lf.natAbs≤b:=av (kl _ (by lia)) (av (Nat.le_add_left _ _) hbd);have bigb:∀i:Int,i.natAbs≤b->gh i:=fun i hi'=>ff (by lia) (by lia);have hq:((hi:Int) / (m:Int))=((hi / m:Nat):Int):=(gQ _ _).symm;have hqb:gh ((hi:Int) / (m:Int)):=by
   rw[hq];exact bigb _ (by rw[jU];exact av (qo _ _) h1)
  have hmb:gh (m:Int):=bigb _ (by rw[jU];lia);have hle:((hi%m:Nat):Int)=hi-(hi:Int) / m*m:=by
   have:=cR (hi:Int) m;rw[iZ,dH ((hi:Int) / m)];lia
  refine⟨⟨by lia,hmb⟩,⟨hqb,hmb⟩,⟨hqb,bigb _ hlf⟩,hi%m,fO _ hm,rfl,m,lf,hf-(hi:Int) / m*lf,some (.int ((hi:Int) / m)),some (.int ((hi%m:Nat):Int)),some (.int (hf-(hi:Int) / m*lf)),?_,fO _ hm,by lia,?_,d2,?_,?_⟩
  ·show [some (D.int n),some (D.int b),some (D.int m),some (D.int ((hi:Int)-(hi:Int) / m*m)),some (D.int lf),some (D.int (hf-(hi:Int) / m*lf)),some (D.int ((hi:Int) / m)),some (D.int ((hi:Int)-(hi:Int) / m*m)),some (D.int (hf-(hi:Int) / m*lf))]=_;rw[←hle]
  ·rw[←hgm,gO hi m,qR m hi,gO]
  ·rw[hle];have:=fP d1 (g8 d2 (Int.dvd_mul_left ((hi:Int) / m) _));rw[show (hi:Int)-(hi:Int) / m*m-(hf-(hi:Int) / m*lf)*n=hi-hf*n-(hi:Int) / m*(m-lf*n) by
    rw[vp,il,dI];lia]
   exact this
  ·exact Ql (by rw[hq];exact eX _) hle hbd
 ·have h2:(!((m:Int)==0))=false:=h;have:m=0:=by simp at h2;lia
  subst this;rw[nH] at hgm;subst hgm;refine⟨hb',fK (q _ (cJ _ (by lia)) (cf _ hb') ?_)⟩;have e:=cR hf b;have h3:(n:Int)*(hf%b)-1 = -((1:Nat)-hf*n)-b*(n*(hf / b)):=by
   have:hf%b=hf-b*(hf / b):=by lia
   rw[this,il,←dI,←dI,dH (n:Int) hf,dH (n:Int) b];lia
  rw[h3];exact fP (Int.dvd_neg.mpr d1) (dP _ _)
def Meets(a b:af)(x:Int):Prop:=0≤x/\x<(aS a.1.toNat b.1.toNat:Nat)/\a.1∣x-a.2/\b.1∣x-b.2
theorem Meets.one{a b:af}{x y:Int}(ha:Valid a)(hb:Valid b)(hx:Meets a b x)(hy:Meets a b y):x=y:=by
 obtain⟨x1,x2,x3,x4⟩:=hx;obtain⟨y1,y2,y3,y4⟩:=hy;have d1:a.1∣x-y:=by
  have:=fP x3 y3;rwa [show x-a.2-(y-a.2)=x-y by lia] at this
 have d2:b.1∣x-y:=by
  have:=fP x4 y4;rwa [show x-b.2-(y-b.2)=x-y by lia] at this
 have e1:a.1.toNat∣(x-y).natAbs:=by
  have:=gm.mpr d1;rwa [show a.1.natAbs=a.1.toNat by have:=ha.1;lia] at this
 have e2:b.1.toNat∣(x-y).natAbs:=by
  have:=gm.mpr d2;rwa [show b.1.natAbs=b.1.toNat by have:=hb.1;lia] at this
 have e3:=nj e1 e2;have:(x-y).natAbs=0:=Nat.eq_zero_of_dvd_of_lt e3 (by lia);lia
def kT(a b:af):Option af:=((aA (aS a.1.toNat b.1.toNat)).find? fun x:Nat=>bJ x a&&bJ x b).map fun x:Nat=>(((aS a.1.toNat b.1.toNat:Nat):Int),(x:Int))
theorem cP{c:af}{n:Int}:bJ n c=true↔c.1∣n-c.2:=by
 unfold bJ;rw[beq_iff_eq];exact⟨Int.dvd_of_emod_eq_zero,qd⟩
theorem Iq{a b:af}{x:Int}(ha:Valid a)(hb:Valid b)(h:Meets a b x):kT a b=some (((aS a.1.toNat b.1.toNat:Nat):Int),x):=by
 obtain⟨k,rfl⟩:∃k:Nat,x=(k:Int):=⟨x.toNat,by have:=h.1;lia⟩;unfold kT;cases e:(aA (aS a.1.toNat b.1.toNat)).find? fun x:Nat=>bJ x a&&bJ x b with
 |none=>
  have:=jT.mp e k (b9.mpr (by have:=h.2.1;lia));exact absurd (by rw[cM,cP,cP];exact h.2.2) this
 |some y=>
  have h1:=List.find?_some e;have h2:=b9.mp (jA e);rw[cM,cP,cP] at h1;have:((y:Nat):Int)=(k:Int):=Meets.one ha hb ⟨by lia,by lia,h1.1,h1.2⟩ h;show some ((((aS a.1.toNat b.1.toNat:Nat):Int),((y:Nat):Int)):af)=_;rw[this]
theorem Q2{a b:af}(h:∀x,¬Meets a b x):kT a b=none:=by
 unfold kT;rw[jT.mpr]
 ·rfl
 ·intro x hx h1;rw[cM,cP,cP] at h1;exact h x ⟨by lia,by have:=b9.mp hx;lia,h1.1,h1.2⟩
theorem Q1{a b:af}{m:af}(h:kT a b=some m):m.1=(aS a.1.toNat b.1.toNat:Nat)/\Meets a b m.2:=by
 unfold kT at h;cases e:(aA (aS a.1.toNat b.1.toNat)).find? fun x:Nat=>bJ x a&&bJ x b with
 |none=>rw[e] at h;cases h
 |some y=>
  rw[e] at h;have h1:=List.find?_some e;have h2:=b9.mp (jA e);rw[cM,cP,cP] at h1;cases h;exact⟨rfl,eX _,Int.ofNat_lt.mpr h2,h1.1,h1.2⟩
def oD:Option af->D
 |none=>.aC
 |some c=>cD c
def yk:fc:=fun ds G Q=>∃a b:af,ds=[cD a,cD b]/\Valid a/\Valid b/\a.1<10^60/\b.1<10^60/\Q (oD (kT a b)) G
def Q0:ao:=dh (ky (ν (aq eY (aq dE (ο 0) (eC (.int 0))) (ο 4)) (ν (aq dy (aq dE (ο 0) (eC (.int 1))) (aq eY (aq dE (ο 0) (eC (.int 0))) (ο 5))) (ae))))
def QZ:ao:=aX (bz (aq jv (aq eY (aq lO (ο 3) (ο 2)) (bx yl (ν (aq lO (aq dE (ο 0) (eC (.int 0))) (ο 2)) (ν (ο 4) (ae))))) (ο 4)) (hName 5)) Q0
def QY:ao:=aX (bz (aq lO (aq dE (ο 1) (eC (.int 0))) (ο 2)) (hName 4)) QZ
def QX:ao:=aX (kf (cN (aq (gZ true) (aq jv (ο 3) (ο 2)) (eC (.int 0)))) (dh (eC .aC)) (fZ)) QY
def QV:ao:=aX (bz (aq gb (aq dE (ο 1) (eC (.int 1))) (aq dE (ο 0) (eC (.int 1)))) (hName 3)) QX
def Ip:ao:=aX (bz (bx ym (ν (aq dE (ο 0) (eC (.int 0))) (ν (aq dE (ο 1) (eC (.int 0))) (ae)))) (hName 2)) QV
theorem QU{g p q:Nat}{ap t inv r1 r2:Int}(hg:0<g)(hp:0<p)(hq:0<q)(hpq:bP p q=1)(h1:0≤r1)(h2:r1<((g*p:Nat):Int))(e:r2-r1=g*ap)(hi:(q:Int)∣p*inv-1)(ht:t=ap*inv%q):
  Meets (((g*p:Nat):Int),r1) (((g*q:Nat):Int),r2) (r1+((g*p:Nat):Int)*t):=by
 have t1:0≤t:=by rw[ht];exact cJ _ (by lia)
 have t2:t<q:=by rw[ht];exact cf _ (by lia)
 have hl:aS (g*p) (g*q)=g*p*q:=by
  rw[Nat.lcm_mul_left,aS,hpq,Nat.div_one,nX]
 refine⟨?_,?_,?_,?_⟩
 ·exact Int.add_nonneg h1 (Int.mul_nonneg (eX _) t1)
 ·show r1+((g*p:Nat):Int)*t<(aS (((g*p:Nat):Int)).toNat (((g*q:Nat):Int)).toNat:Nat);rw[cB,cB,hl,cY (g*p) q];have:((g*p:Nat):Int)*t≤((g*p:Nat):Int)*((q:Int)-1):=fy (by lia) (eX _);rw[il,nk] at this;lia
 ·show ((g*p:Nat):Int)∣r1+((g*p:Nat):Int)*t-r1;rw[show r1+((g*p:Nat):Int)*t-r1=((g*p:Nat):Int)*t by lia];exact dP _ _
 ·show ((g*q:Nat):Int)∣r1+((g*p:Nat):Int)*t-r2;have d:(q:Int)∣p*t-ap:=by
   have e1:=cR (ap*inv) q;have e2:(p:Int)*t-ap=ap*(p*inv-1)-q*(p*(ap*inv / q)):=by
    have:t=ap*inv-q*(ap*inv / q):=by lia
    rw[this,il,il,nk,←dI (p:Int) q,dH (p:Int) q,dI (q:Int),←dI ap (p:Int),dH ap (p:Int),dI (p:Int) ap];lia
   rw[e2];exact fP (g8 hi (Int.dvd_mul_left _ _)) (dP _ _)
  obtain⟨k,hk⟩:=d;refine⟨k,?_⟩;have:r1+((g*p:Nat):Int)*t-r2=g*(p*t-ap):=by
   rw[il,←e,←dI,cY];lia
  rw[this,hk,cY,dI]
theorem QR:∀ds G Q,yk ds G Q->Ip (bo Q) (bD ["one","other","shared","apart","many","turns"] ds) G:=by
 rintro ds G Q ⟨⟨s1,r1⟩,⟨s2,r2⟩,rfl,va,vb,z1,z2,q⟩;have v1:0<s1:=va.1;have v2:0<s2:=vb.1;have z1':s1<10^60:=z1;have z2':s2<10^60:=z2;obtain⟨m1,rfl⟩:∃n:Nat,s1=(n:Int):=⟨s1.toNat,by lia⟩;obtain⟨m2,rfl⟩:∃n:Nat,s2=(n:Int):=⟨s2.toNat,by lia⟩;have hg:0<bP m1 m2:=p9 _ (by lia);have hgl:bP m1 m2≤m1:=jc (by lia) (iW _ _);have bg:gh ((bP m1 m2:Nat):Int):=ff (by lia) (by lia);refine⟨_,rfl,_,rfl,m1,m2,rfl,_,rfl,_,rfl,by show (0:Int)<(bP m1 m2:Nat);lia,_,_,rfl,rfl,bp _,fun h=>?_,fun h=>?_⟩
 ·have h':(!((r2-r1)%((bP m1 m2:Nat):Int)==0))=true:=h;have cQ:(r2-r1)%((bP m1 m2:Nat):Int)≠0:=by simpa using h'
  rw[Q2] at q
  ·exact fK q
  ·rintro x ⟨_,_,d1,d2⟩;have e1:((bP m1 m2:Nat):Int)∣x-r1:=g8 (fB.mpr (iW _ _)) d1;have e2:((bP m1 m2:Nat):Int)∣x-r2:=g8 (fB.mpr (oA _ _)) d2;have:=fP e1 e2;rw[show x-r1-(x-r2)=r2-r1 by lia] at this;exact cQ (qd this)
 ·have h':(!((r2-r1)%((bP m1 m2:Nat):Int)==0))=false:=h;have he:(r2-r1)%((bP m1 m2:Nat):Int)=0:=by simpa using h'
  obtain⟨p,hp⟩:=iW m1 m2;obtain⟨k,hk⟩:=oA m1 m2;have hpk:bP p k=1:=by
   have:=Nat.gcd_mul_left (bP m1 m2) p k;rw[←hp,←hk] at this;exact Nat.eq_of_mul_eq_mul_left hg (by rw[←this,Nat.mul_one])
  have hp0:0<p:=by
   rcases Nat.eq_zero_or_pos p with z|z
   ·rw[z,Nat.mul_zero] at hp;lia
   ·exact z
  have hk0:0<k:=by
   rcases Nat.eq_zero_or_pos k with z|z
   ·rw[z,Nat.mul_zero] at hk;lia
   ·exact z
  have hkm:k≤m2:=by rw[hk];exact kO _ hg
  have hpm:p≤m1:=by rw[hp];exact kO _ hg
  have dk:((m2:Int) / ((bP m1 m2:Nat):Int))=(k:Int):=by
   rw[←gQ];congr 1;exact jd hg hk
  have dp:((m1:Int) / ((bP m1 m2:Nat):Int))=(p:Int):=by
   rw[←gQ];congr 1;exact jd hg hp
  have c0:(0:Int)<((bP m1 m2:Nat):Int):=by lia
  have eap:r2-r1=((bP m1 m2:Nat):Int)*((r2-r1) / ((bP m1 m2:Nat):Int)):=by
   have:=cR (r2-r1) ((bP m1 m2:Nat):Int);lia
  have a1:0≤r1:=va.2.1;have a2:r1<(m1:Int):=va.2.2;have b1:0≤r2:=vb.2.1;have b2:r2<(m2:Int):=vb.2.2;have bap:gh ((r2-r1) / ((bP m1 m2:Nat):Int)):=by
   have h3:=Int.natAbs_ediv_le_natAbs (r2-r1) ((bP m1 m2:Nat):Int);exact ff (by lia) (by lia)
  refine⟨_,rfl,⟨c0,bg⟩,⟨c0,bg⟩,_,rfl,⟨c0,bg⟩,?_⟩;dsimp only;rw[dk,dp];refine⟨p,k,rfl,hk0,by lia,hpk,fun inv i1 i2 i3=>⟨⟨bap,ff (by lia) (by lia)⟩,by show (0:Int)<(k:Int);lia,?_⟩⟩;have t1:=cJ ((r2-r1) / ((bP m1 m2:Nat):Int)*inv) (show (k:Int)≠0 by lia);have t2:=cf ((r2-r1) / ((bP m1 m2:Nat):Int)*inv) (show (0:Int)<(k:Int) by lia);refine⟨_,rfl,⟨ff (by lia) (by lia),ff (by lia) (by lia)⟩,_,rfl,_,rfl,⟨ff (by lia) (by lia),ff (by lia) (by lia)⟩,?_⟩;have M:=QU (g:=bP m1 m2) (p:=p) (q:=k) (inv:=inv) (r1:=r1) (r2:=r2) hg hp0 hk0 hpk a1 (by rw[←hp];exact a2) eap i3 rfl;rw[←hp,←hk] at M;rw[Iq va vb M] at q;have el:aS m1 m2=m1*k:=by
   unfold aS;rw[Nat.mul_div_assoc _ (oA _ _)];congr 1;exact jd hg hk
  have q':Q (.tup [.int ((aS m1 m2:Nat):Int),.int (r1+(m1:Int)*((r2-r1) / ((bP m1 m2:Nat):Int)*inv%k))]) G:=q;rw[el,cY] at q';exact fK q'
end My
namespace My
open PySem L2 L3
def sF(c:af)(y:Int):Prop:=c.1∣y-c.2
theorem Qa{cs:List af}:∀{a:Nat},a∣vB cs a:=by
 induction cs with
 |nil=>exact Nat.dvd_refl _
 |cons c cs ih=>intro a;exact nY (lu a c.1.toNat) (ih (a:=aS a c.1.toNat))
theorem P9{cs:List af}{c:af}:∀{a:Nat},c∈cs->c.1.toNat∣vB cs a:=by
 induction cs with
 |nil=>exact fun h=>nomatch h
 |cons d cs ih=>
  intro a h;rcases aa.mp h with rfl|h
  ·exact nY (kC a c.1.toNat) (Qa (cs:=cs) (a:=aS a c.1.toNat))
  ·exact ih (a:=aS a d.1.toNat) h
theorem P8{a b:af}(ha:Valid a)(hb:Valid b)(h:kT a b=none)(y:Int):¬(sF a y/\sF b y):=by
 rintro⟨h1,h2⟩;have hL:0<aS a.1.toNat b.1.toNat:=qQ (by have:=ha.1;lia) (by have:=hb.1;lia);have hL':(0:Int)<((aS a.1.toNat b.1.toNat:Nat):Int):=by lia
 have ed:=cR y ((aS a.1.toNat b.1.toNat:Nat):Int);have step:∀c:af,Valid c->c.1.toNat∣aS a.1.toNat b.1.toNat->sF c y->sF c (y%((aS a.1.toNat b.1.toNat:Nat):Int)):=by
  intro c hc hd hr;have d:c.1∣((aS a.1.toNat b.1.toNat:Nat):Int):=by
   have:=fB.mpr hd;rwa [cm (by have:=hc.1;lia)] at this
  show c.1∣y%((aS a.1.toNat b.1.toNat:Nat):Int)-c.2;have e2:=fP hr (g8 d (dP _ (y / ((aS a.1.toNat b.1.toNat:Nat):Int))));rwa [show y-c.2-((aS a.1.toNat b.1.toNat:Nat):Int)*(y / ((aS a.1.toNat b.1.toNat:Nat):Int))=y%((aS a.1.toNat b.1.toNat:Nat):Int)-c.2 by lia] at e2
 have:=Iq ha hb ⟨cJ y (by lia),cf y hL',step a ha (lu _ _) h1,step b hb (kC _ _) h2⟩;rw[h] at this;cases this
theorem P7{a b m:af}(ha:Valid a)(hb:Valid b)(h:kT a b=some m):Valid m/\m.1.toNat=aS a.1.toNat b.1.toNat/\∀y,(sF a y/\sF b y)↔sF m y:=by
 obtain⟨e1,x1,x2,x3,x4⟩:=Q1 h;have hm:m.1.toNat=aS a.1.toNat b.1.toNat:=by rw[e1,cB]
 refine⟨⟨by lia,x1,by lia⟩,hm,fun y=>⟨fun⟨h1,h2⟩=>?_,fun h1=>⟨?_,?_⟩⟩⟩
 ·show m.1∣y-m.2;rw[e1];have d1:a.1.toNat∣(y-m.2).natAbs:=by
   have:=gm.mpr (fP h1 x3);rwa [show y-a.2-(m.2-a.2)=y-m.2 by lia,show a.1.natAbs=a.1.toNat by have:=ha.1;lia] at this
  have d2:b.1.toNat∣(y-m.2).natAbs:=by
   have:=gm.mpr (fP h2 x4);rwa [show y-b.2-(m.2-b.2)=y-m.2 by lia,show b.1.natAbs=b.1.toNat by have:=hb.1;lia] at this
  exact gm.mp (by rw[jU];exact nj d1 d2)
 ·have d:a.1∣m.1:=by
   rw[e1];have:=fB.mpr (lu a.1.toNat b.1.toNat);rwa [cm (by have:=ha.1;lia)] at this
  have:=nq (g8 d h1) x3;rwa [show y-m.2+(m.2-a.2)=y-a.2 by lia] at this
 ·have d:b.1∣m.1:=by
   rw[e1];have:=fB.mpr (kC a.1.toNat b.1.toNat);rwa [cm (by have:=hb.1;lia)] at this
  have:=nq (g8 d h1) x4;rwa [show y-m.2+(m.2-b.2)=y-b.2 by lia] at this
end My
namespace My
open PySem L2 L3
theorem CH(n:Nat):jj 0 n=(aA n).map nD:=by
 unfold jj;refine eN fun i _=>?_;show D.int (0+(i:Int))=D.int (i:Int);rw[Int.zero_add]
end My
namespace My
open PySem L2 L3
theorem Io{α:Type}(f:α->Bool):∀xs:List α,oK (xs.map fun x=>D.bl (f x))=some (xs.map f)
 |[]=>rfl
 |x::xs=>by
  show sO _ (oK (xs.map fun x=>D.bl (f x)))=_;rw[Io f xs];rfl
end My
namespace My
open PySem L2 L3
theorem Al{α β:Type}(f:α->D)(g:β->D):∀(as:List α) (bs:List β),qx (as.map f) (bs.map g)=(as.zip bs).map fun p=>D.tup [f p.1,g p.2]
 |[],_=>rfl
 |a::as,[]=>rfl
 |a::as,b::bs=>by
  show D.tup [f a,g b]::qx (as.map f) (bs.map g)=D.tup [f a,g b]::(as.zip bs).map _;rw[Al f g as bs]
theorem P6{G:Gp}{p:ζ}{ds:List D}(h:G p=some (.lst ds)):lU "list" G (.obj p)=some true:=by simp[lU,h]
end My
namespace My
open PySem L2 L3
def iC(f:Nat->Nat)(n:Nat):List D:=(aA n).map fun x=>nD (f x)
theorem DX(f:Nat->Nat)(n:Nat):(iC f n).length=n:=by simp[iC]
theorem P5{f:Nat->Nat}{n x:Nat}(h:x<n):lE (iC f n) (x:Int)=some (nD (f x)):=D6 (by
 unfold iC;rw[aE,fF h];rfl)
theorem P4{f:Nat->Nat}{n x v:Nat}(h:x<n):(iC f n).set x (nD v)=iC (fun y=>if y=x then v else f y) n:=by
 unfold iC;apply iz;intro i;rw[List.getElem?_set];by_cases hi:i<n
 ·by_cases hx:x=i
  ·subst hx;simp[h]
  ·have:¬i=x:=fun z=>hx z.symm;simp[hi,hx,this]
 ·have:¬x=i:=fun z=>hi (by lia);simp[hi,this]
theorem Im{n x:Nat}(h:x<n):sV n (x:Int)=some x:=by
 unfold sV;simp[h]
theorem zeros(n:Nat):(aj n [D.int 0]).flatten=iC (fun _=>0) n:=by
 unfold iC
 induction n with
 |zero=>rfl
 |succ n ih=>
  rw[List.replicate_succ',List.flatten_append,ih,List.range_succ,bM];rfl
end My
namespace My
open PySem L2 L3
abbrev WK:=List (af×List Int)
def fN(kvs:WK)(c:af)(y:List Int):List Int:=((kvs.find? fun q=>decide (q.1=c)).map (·.2)).getD y
def qB(kvs:WK)(c:af)(v:List Int):WK:=if c∈kvs.map (·.1) then kvs.map (fun q=>if q.1=c then (q.1,v) else q) else kvs++[(c,v)]
def mJ(a b:List Int):List Int:=uw (· + ·) a b
def km(a b:List Int):List Int:=uw (· - ·) a b
def addW(kvs:WK)(c:af)(w:List Int):WK:=qB kvs c (mJ (fN kvs c (aj w.length 0)) w)
def sW(kvs:WK)(x:Int)(j:Nat):Int:=(kvs.map fun q=>if bJ x q.1=true then q.2.getD j 0 else 0).sum
def l1(w:List Int):Nat:=(w.map Int.natAbs).sum
def aW(kvs:WK):Nat:=(kvs.map fun q=>l1 q.2).sum
structure vh(n:Nat)(B:Int)(kvs:WK):Prop where
 len:∀q∈kvs,q.2.length=n
 val:∀q∈kvs,Valid q.1/\q.1.1≤B
 nd:(kvs.map (·.1)).Nodup
theorem P2{a b:List Int}(h:a.length=b.length)(j:Nat):(mJ a b).getD j 0=a.getD j 0+b.getD j 0:=by
 unfold mJ;rw[bw,bw,bw,lI];by_cases hj:j<a.length
 ·rw[aw hj,aw (by lia)];rfl
 ·rw[dw (by lia),dw (by lia)];rfl
theorem P1{a b:List Int}(h:a.length=b.length)(j:Nat):(km a b).getD j 0=a.getD j 0-b.getD j 0:=by
 unfold km;rw[bw,bw,bw,lI];by_cases hj:j<a.length
 ·rw[aw hj,aw (by lia)];rfl
 ·rw[dw (by lia),dw (by lia)];rfl
theorem Il{kvs:WK}{n:Nat}(h:∀q∈kvs,q.2.length=n)(c:af){y:List Int}(hy:y.length=n):(fN kvs c y).length=n:=by
 unfold fN;cases e:kvs.find? fun q=>decide (q.1=c) with
 |none=>exact hy
 |some q=>exact h q (jA e)
theorem Ij{kvs:WK}{c:af}(h:c∉kvs.map (·.1))(y:List Int):fN kvs c y=y:=by
 unfold fN;rw[jT.mpr]
 ·rfl
 ·intro q hq e;exact h (br.mpr ⟨q,hq,of_decide_eq_true e⟩)
theorem P0(n j:Nat):(aj n (0:Int)).getD j 0=0:=by
 rw[bw,fA];split<;>rfl
theorem Ii{kvs:WK}{c:af}{v:List Int}(h:c∉kvs.map (·.1)):kvs.map (fun q=>if q.1=c then (q.1,v) else q)=kvs:=by
 refine (eN fun q hq=>?_).trans (List.map_id _);rw[if_neg fun e=>h (br.mpr ⟨q,hq,e⟩)];rfl
theorem yj(q:af×List Int)(kvs:WK)(x:Int)(j:Nat):sW (q::kvs) x j=(if bJ x q.1=true then q.2.getD j 0 else 0)+sW kvs x j:=by
 unfold sW;rw[ak,bK]
theorem PZ(kvs:WK)(q:af×List Int)(x:Int)(j:Nat):sW (kvs++[q]) x j=sW kvs x j+if bJ x q.1=true then q.2.getD j 0 else 0:=by
 unfold sW;rw[bM,jz];simp
theorem Ih{c:af}{v y:List Int}(x:Int)(j:Nat):∀{kvs:WK},(kvs.map (·.1)).Nodup->c∈kvs.map (·.1) ->
  sW (kvs.map fun q=>if q.1=c then (q.1,v) else q) x j=sW kvs x j+if bJ x c=true then v.getD j 0-(fN kvs c y).getD j 0 else 0
 |[],_,h=>by cases h
 |q::kvs,nd,h=>by
  rw[ak] at nd;obtain⟨n1,n2⟩:=dU.mp nd;rw[ak,yj,yj];by_cases e:q.1=c
  ·subst e;have el:fN (q::kvs) q.1 y=q.2:=by
    unfold fN;rw[fq,decide_eq_true rfl];rfl
   rw[Ii n1,if_pos rfl,el];by_cases hr:bJ x q.1=true
   ·simp only[hr,if_true];lia
   ·simp only[hr,if_false,dD];lia
  ·have hc:c∈kvs.map (·.1):=by
    rcases aa.mp h with z|z
    ·exact absurd z.symm e
    ·exact z
   have el:fN (q::kvs) c y=fN kvs c y:=by
    unfold fN;rw[fq,decide_eq_false e]
   rw[if_neg e,Ih (y:=y) x j n2 hc,el];lia
theorem DW{n:Nat}{B:Int}{kvs:WK}{c:af}{w:List Int}(h:vh n B kvs)(hw:w.length=n)(x:Int)(j:Nat):sW (addW kvs c w) x j=sW kvs x j+if bJ x c=true then w.getD j 0 else 0:=by
 have hl:=Il h.len c (y:=aj w.length 0) (by rw[gk];exact hw);have hz:=P2 (a:=fN kvs c (aj w.length 0)) (b:=w) (by rw[hl,hw]) j;unfold addW qB;by_cases hc:c∈kvs.map (·.1)
 ·rw[if_pos hc,Ih (y:=aj w.length 0) x j h.nd hc,hz];by_cases hr:bJ x c=true
  ·simp only[hr,if_true];lia
  ·simp only[hr,if_false,dD]
 ·rw[if_neg hc,PZ,hz,Ij hc,P0];by_cases hr:bJ x c=true
  ·simp only[hr,if_true];lia
  ·simp only[hr,if_false,dD]
theorem PY(kvs:WK)(c:af)(v:List Int):(qB kvs c v).map (·.1)=if c∈kvs.map (·.1) then kvs.map (·.1) else kvs.map (·.1)++[c]:=by
 unfold qB;by_cases hc:c∈kvs.map (·.1)
 ·rw[if_pos hc,if_pos hc,bV];refine eN fun q _=>?_;show (if q.1=c then (q.1,v) else q).1=q.1;split<;>rfl
 ·rw[if_neg hc,if_neg hc,bM];rfl
theorem Ig{kvs:WK}{c:af}{v:List Int}{q:af×List Int}(h:q∈qB kvs c v):q∈kvs∨q=(c,v):=by
 unfold qB at h;split at h
 ·obtain⟨p,hp,e⟩:=br.mp h;by_cases z:p.1=c
  ·rw[if_pos z,z] at e;exact .inr e.symm
  ·rw[if_neg z] at e;exact .inl (e▸hp)
 ·rcases cI.mp h with h|h
  ·exact .inl h
  ·exact .inr (cF.mp h)
theorem vh.add{n:Nat}{B:Int}{kvs:WK}{c:af}{w:List Int}(h:vh n B kvs)(hw:w.length=n)(hc:Valid c/\c.1≤B):vh n B (addW kvs c w):=by
 have hl:=Il h.len c (y:=aj w.length 0) (by rw[gk];exact hw);refine⟨fun q hq=>?_,fun q hq=>?_,?_⟩
 ·rcases Ig hq with z|z
  ·exact h.len q z
  ·rw[z];show (mJ _ w).length=n;unfold mJ;rw[mI,hl,hw,pQ]
 ·rcases Ig hq with z|z
  ·exact h.val q z
  ·rw[z];exact hc
 ·unfold addW;rw[PY];by_cases hm:c∈kvs.map (·.1)
  ·rw[if_pos hm];exact h.nd
  ·rw[if_neg hm,List.nodup_append];refine⟨h.nd,by simp,fun a ha b hb e=>?_⟩;rw[cF.mp hb] at e;exact hm (e▸ha)
theorem DV(kvs:WK)(c:af)(w:List Int):(addW kvs c w).length≤kvs.length+1:=by
 unfold addW qB;split
 ·rw[π];lia
 ·rw[Ω];exact Ψ _
theorem DU:∀a b:List Int,l1 (mJ a b)≤l1 a+l1 b
 |[],b=>by simp[l1,mJ]
 |a::as,[]=>by simp[l1,mJ]
 |a::as,b::bs=>by
  have ih:=DU as bs;have:(a+b).natAbs≤a.natAbs+b.natAbs:=Int.natAbs_add_le a b;simp only[l1,mJ,qS,ak,bK] at ih ⊢;lia
theorem Ie:∀a b:List Int,l1 (km a b)≤l1 a+l1 b
 |[],b=>by simp[l1,km]
 |a::as,[]=>by simp[l1,km]
 |a::as,b::bs=>by
  have ih:=Ie as bs;have:(a-b).natAbs≤a.natAbs+b.natAbs:=by lia
  simp only[l1,km,qS,ak,bK] at ih ⊢;lia
theorem PX(n:Nat):l1 (aj n 0)=0:=by
 induction n with
 |zero=>rfl
 |succ n ih=>
  simp only[l1,di,ak,bK] at ih ⊢;lia
theorem PV(w:List Int)(j:Nat):(w.getD j 0).natAbs≤l1 w:=by
 induction w generalizing j with
 |nil=>simp[l1]
 |cons a w ih=>
  cases j with
  |zero=>
   simp only[l1,ak,bK,tJ];lia
  |succ j=>
   have:=ih j;simp only[l1,ak,bK,tK] at this ⊢;lia
theorem PU{kvs:WK}{q:af×List Int}(h:q∈kvs):l1 q.2≤aW kvs:=by
 induction kvs with
 |nil=>cases h
 |cons p kvs ih=>
  unfold aW;rw[ak,bK];rcases aa.mp h with e|e
  ·rw[e];exact gN _ _
  ·have:=ih e;unfold aW at this;lia
theorem Ib{c:af}{v y:List Int}{m:Nat}:∀{kvs:WK},(kvs.map (·.1)).Nodup->c∈kvs.map (·.1)->l1 v≤l1 (fN kvs c y)+m->aW (kvs.map fun q=>if q.1=c then (q.1,v) else q)≤aW kvs+m
 |[],_,h,_=>by cases h
 |q::kvs,nd,h,hv=>by
  rw[ak] at nd;obtain⟨n1,n2⟩:=dU.mp nd;by_cases e:q.1=c
  ·subst e;have el:fN (q::kvs) q.1 y=q.2:=by
    unfold fN;rw[fq,decide_eq_true rfl];rfl
   rw[el] at hv;rw[ak,Ii n1,if_pos rfl];unfold aW;rw[ak,bK,ak,bK];show l1 v+_≤l1 q.2+_+m;lia
  ·have hc:c∈kvs.map (·.1):=by
    rcases aa.mp h with z|z
    ·exact absurd z.symm e
    ·exact z
   have el:fN (q::kvs) c y=fN kvs c y:=by
    unfold fN;rw[fq,decide_eq_false e]
   rw[el] at hv;have ih:=Ib n2 hc hv;rw[ak,if_neg e];unfold aW at ih ⊢;rw[ak,bK,ak,bK];lia
theorem Ia{n:Nat}{B:Int}{kvs:WK}{c:af}{w:List Int}(h:vh n B kvs):aW (addW kvs c w)≤aW kvs+l1 w:=by
 unfold addW qB;by_cases hc:c∈kvs.map (·.1)
 ·rw[if_pos hc];exact Ib (y:=aj w.length 0) h.nd hc (DU _ _)
 ·rw[if_neg hc,Ij hc];unfold aW;rw[bM,jz];have:=DU (aj w.length 0) w;rw[PX] at this;simp only[ak,ux,bK,List.sum_nil];lia
def XZ(g:WK)(q:af×List Int):Option af->WK
 |none=>g
 |some b=>addW g b (km (0::q.2) (q.2++[0]))
def g9(c:af)(g:WK)(q:af×List Int):WK:=XZ (addW g q.1 (q.2++[0])) q (kT q.1 c)
def xP(c:af)(kvs:WK):WK:=kvs.foldl (g9 c) []
def i4(cs:List af):WK:=cs.foldl (fun kvs c=>xP c kvs) [((1,0),[1])]
theorem HZ(w:List Int)(j:Nat):(w++[(0:Int)]).getD j 0=w.getD j 0:=by
 rw[bw,bw,List.getElem?_append];by_cases h:j<w.length
 ·rw[if_pos h]
 ·rw[if_neg h,show w[j]?=none from dw (by lia)];cases e:[(0:Int)][j-w.length]? with
  |none=>rfl
  |some v=>
   have:=bZ e;rw[cF.mp this];rfl
theorem HY(w:List Int):(km (0::w) (w++[0])).length=w.length+1:=by
 unfold km;rw[mI,Ω];simp
theorem PR{a c:af}{B:Int}(ha:Valid a)(hc:Valid c)(h1:a.1≤B)(h2:c.1≤1000):((aS a.1.toNat c.1.toNat:Nat):Int)≤B*1000:=by
 have hd:aS a.1.toNat c.1.toNat≤a.1.toNat*c.1.toNat:=jc (qO (by have:=ha.1;lia) (by have:=hc.1;lia)) (Nat.lcm_dvd_mul _ _);have h3:((aS a.1.toNat c.1.toNat:Nat):Int)≤((a.1.toNat*c.1.toNat:Nat):Int):=uD.mpr hd;rw[cY,cm (by have:=ha.1;lia),cm (by have:=hc.1;lia)] at h3;have p0:=ha.1;have p1:=hc.1;exact gR h3 (gR (fy h2 (by lia)) (mx h1 (by decide)))
theorem PQ{n:Nat}{B:Int}{c:af}{g:WK}{q:af×List Int}(hc:Valid c/\c.1≤1000)(h:vh (n+1) (B*1000) g)(hq:q.2.length=n)(hv:Valid q.1/\q.1.1≤B)(hB:0≤B):
  vh (n+1) (B*1000) (g9 c g q)/\(∀x j,sW (g9 c g q) x j=sW g x j+if bJ x q.1=true then (if bJ x c=true then (0::q.2).getD j 0 else q.2.getD j 0) else 0)/\aW (g9 c g q)≤aW g+3*l1 q.2/\(g9 c g q).length≤g.length+2:=by
 have l2:(q.2++[(0:Int)]).length=n+1:=by rw[Ω,hq];rfl
 have w1:=h.add l2 ⟨hv.1,gR hv.2 (by lia)⟩;have la:l1 (q.2++[(0:Int)])=l1 q.2:=by
  unfold l1;rw[bM,jz];simp
 have lb:l1 (0::q.2)=l1 q.2:=by
  unfold l1;rw[ak,bK];simp
 have a1:=Ia (c:=q.1) (w:=q.2++[0]) h;have n1:=DV g q.1 (q.2++[0]);rw[la] at a1;unfold g9;cases e:kT q.1 c with
 |none=>
  refine⟨w1,fun x j=>?_,by show aW (addW g q.1 (q.2++[0]))≤_;lia,by show (addW g q.1 (q.2++[0])).length≤_;lia⟩;show sW (addW g q.1 (q.2++[0])) x j=_;rw[DW h l2,HZ];by_cases hr:bJ x q.1=true
  ·have:¬bJ x c=true:=fun z=>P8 hv.1 hc.1 e x ⟨cP.mp hr,cP.mp z⟩;rw[if_pos hr,if_pos hr,if_neg this]
  ·rw[if_neg hr,if_neg hr]
 |some b=>
  obtain⟨vb,eb,hb⟩:=P7 hv.1 hc.1 e;have lz:(km (0::q.2) (q.2++[0])).length=n+1:=by rw[HY,hq]
  have bb:b.1≤B*1000:=by
   have:=PR hv.1 hc.1 hv.2 hc.2;rw[←eb,cm (by have:=vb.1;lia)] at this;exact this
  have a2:=Ia (c:=b) (w:=km (0::q.2) (q.2++[0])) w1;have a3:=Ie (0::q.2) (q.2++[0]);have n2:=DV (addW g q.1 (q.2++[0])) b (km (0::q.2) (q.2++[0]));rw[la,lb] at a3;refine⟨w1.add lz ⟨vb,bb⟩,fun x j=>?_,by show aW (addW (addW g q.1 (q.2++[0])) b _)≤_;lia,by show (addW (addW g q.1 (q.2++[0])) b _).length≤_;lia⟩;show sW (addW (addW g q.1 (q.2++[0])) b (km (0::q.2) (q.2++[0]))) x j=_;rw[DW w1 lz,DW h l2,P1 (by rw[Ω];rfl),HZ];have hbr:bJ x b=true↔bJ x q.1=true/\bJ x c=true:=by
   rw[cP,cP,cP];exact (hb x).symm
  by_cases hr:bJ x q.1=true
  ·by_cases hx:bJ x c=true
   ·rw[if_pos hr,if_pos (hbr.mpr ⟨hr,hx⟩),if_pos hr,if_pos hx];lia
   ·rw[if_pos hr,if_neg (fun z=>hx (hbr.mp z).2),if_pos hr,if_neg hx];lia
  ·rw[if_neg hr,if_neg (fun z=>hr (hbr.mp z).1),if_neg hr];lia
theorem DT{n:Nat}{B:Int}{c:af}(hc:Valid c/\c.1≤1000)(hB:0≤B):∀{kvs:WK} {g:WK},(∀q∈kvs,q.2.length=n)->(∀q∈kvs,Valid q.1/\q.1.1≤B)->vh (n+1) (B*1000) g ->
  vh (n+1) (B*1000) (kvs.foldl (g9 c) g)/\(∀x j,sW (kvs.foldl (g9 c) g) x j=sW g x j+if bJ x c=true then (if j=0 then 0 else sW kvs x (j-1)) else sW kvs x j)/\aW (kvs.foldl (g9 c) g)≤aW g+3*aW kvs/\(kvs.foldl (g9 c) g).length≤g.length+2*kvs.length
 |[],g,_,_,hg=>⟨hg,fun x j=>by
   show sW g x j=sW g x j+if bJ x c=true then (if j=0 then 0 else (0:Int)) else 0;simp,Ψ _,Ψ _⟩
 |q::kvs,g,hl,hv,hg=>by
  obtain⟨s1,s2,s3,s4⟩:=PQ hc hg (hl q Γ) (hv q Γ) hB;obtain⟨t1,t2,t3,t4⟩:=DT hc hB (fun p hp=>hl p (Δ _ hp)) (fun p hp=>hv p (Δ _ hp)) s1;rw[qr];refine⟨t1,fun x j=>?_,?_,?_⟩
  ·rw[t2,s2,yj,yj];cases j with
   |zero=>
    by_cases hx:bJ x c=true
    ·simp only[hx,if_true,tJ];split<;>lia
    ·simp only[hx,if_false,dD];lia
   |succ j=>
    by_cases hx:bJ x c=true
    ·simp only[hx,if_true,tK,nI,Nat.succ_ne_zero,if_false,Nat.add_eq_zero,Nat.one_ne_zero,and_false];lia
    ·simp only[hx,if_false,dD];lia
  ·unfold aW at t3 s3 ⊢;rw[ak,bK];lia
  ·rw[aB];lia
structure pB(cs:List af)(kvs:WK):Prop where
 ok:vh (cs.length+1) (1000^cs.length) kvs
 sum:∀x j,sW kvs x j=if (cs.filter (bJ x)).length=j then 1 else 0
 abs:aW kvs≤3^cs.length
 many:kvs.length≤2^cs.length
theorem PN:pB [] [((1,0),[1])]:=by
 refine⟨⟨fun q hq=>?_,fun q hq=>?_,by simp⟩,fun x j=>?_,by decide,by decide⟩
 ·rw[cF.mp hq];rfl
 ·rw[cF.mp hq];exact⟨⟨by decide,by decide,by decide⟩,by decide⟩
 ·have hr:bJ x ((1,0):af)=true:=cP.mpr (vt _);show sW [(((1,0):af),[(1:Int)])] x j=if 0=j then 1 else 0;rw[yj,if_pos hr];cases j with
  |zero=>rfl
  |succ j=>simp[sW]
theorem PM{cs:List af}{c:af}{kvs:WK}(hc:Valid c/\c.1≤1000)(h:pB cs kvs):pB (cs++[c]) (xP c kvs):=by
 have hB:(0:Int)≤1000^cs.length:=rM (by decide);obtain⟨t1,t2,t3,t4⟩:=DT hc hB h.ok.len h.ok.val (g:=[]) ⟨nofun,nofun,j8⟩;have hl:(cs++[c]).length=cs.length+1:=Ω;refine⟨?_,fun x j=>?_,?_,?_⟩
 ·rw[hl,uC];exact t1
 ·show sW (kvs.foldl (g9 c) []) x j=_;rw[t2,fX];have e0:sW [] x j=0:=rfl;rw[e0,Int.zero_add];by_cases hx:bJ x c=true
  ·have e1:[c].filter (bJ x)=[c]:=by rw[cK,if_pos hx];rfl
   rw[if_pos hx,e1,Ω];cases j with
   |zero=>rfl
   |succ j=>
    rw[if_neg (Nat.succ_ne_zero j),nI,h.sum];by_cases e:(cs.filter (bJ x)).length=j
    ·rw[if_pos e,if_pos (by rw[e];rfl)]
    ·rw[if_neg e,if_neg (fun z=>e (by have z:(cs.filter (bJ x)).length+1=j+1:=z;lia))]
  ·have e1:[c].filter (bJ x)=[]:=by rw[cK,if_neg hx];rfl
   rw[if_neg hx,e1,bB,h.sum]
 ·show aW (kvs.foldl (g9 c) [])≤_;rw[hl,iJ];have e0:aW []=0:=rfl;have:=h.abs;lia
 ·show (kvs.foldl (g9 c) []).length≤_;rw[hl,iJ];have:=h.many;have e0:([]:WK).length=0:=rfl;lia
theorem HX:∀{ds cs:List af} {kvs:WK},(∀c∈ds,Valid c/\c.1≤1000)->pB cs kvs->pB (cs++ds) (ds.foldl (fun kvs c=>xP c kvs) kvs)
 |[],cs,kvs,_,h=>by
  rw[bB];exact h
 |d::ds,cs,kvs,hc,h=>by
  have:=HX (ds:=ds) (fun c hm=>hc c (Δ _ hm)) (PM (hc d Γ) h);rw[dO] at this;exact this
theorem HW{cs:List af}(h:∀c∈cs,Valid c/\c.1≤1000):pB cs (i4 cs):=HX (cs:=[]) h PN
def ip(c:af)(b:Int):Int:=(b-c.2-1) / c.1+1
theorem Gq{c:af}(h:Valid c):ip c 0=0:=by
 have h1:=h.1;have h2:=h.2.1;have h3:=h.2.2;have:(0-c.2-1) / c.1 = -1:=by
  refine kR h1 |>.mpr ⟨?_,?_⟩<;>lia
 unfold ip;rw[this];rfl
theorem HV{c:af}(h:Valid c)(b:Int):ip c (b+1)=ip c b+if bJ b c=true then 1 else 0:=by
 have h1:=h.1;unfold ip;rw[show b+1-c.2-1=b-c.2 by lia];by_cases hr:bJ b c=true
 ·rw[if_pos hr];obtain⟨k,hk⟩:=cP.mp hr;have e1:(b-c.2) / c.1=k:=by rw[hk,Int.mul_ediv_cancel_left _ (by lia)]
  have e2:(b-c.2-1) / c.1=k-1:=by
   refine kR h1 |>.mpr ⟨?_,?_⟩
   ·rw[vp,dH k,←hk];lia
   ·rw[vp,dH k,←hk];lia
  rw[e1,e2];lia
 ·rw[if_neg hr];have hm:(b-c.2)%c.1≠0:=fun z=>hr (beq_iff_eq.mpr z);have e0:=cR (b-c.2) c.1;have m0:=cJ (b-c.2) (show c.1≠0 by lia);have m1:=cf (b-c.2) h1;have e2:(b-c.2-1) / c.1=(b-c.2) / c.1:=by
   refine kR h1 |>.mpr ⟨?_,?_⟩
   ·rw[dH];lia
   ·rw[dH];lia
  rw[e2];lia
def tW(kvs:WK)(j:Nat)(b:Int):Int:=(kvs.map fun q=>q.2.getD j 0*ip q.1 b).sum
theorem MN{kvs:WK}(h:∀q∈kvs,Valid q.1)(j:Nat):tW kvs j 0=0:=by
 unfold tW;rw[show kvs.map (fun q=>q.2.getD j 0*ip q.1 0)=kvs.map (fun _=>(0:Int)) from eN fun q hq=>by rw[Gq (h q hq),Int.mul_zero]]
 induction kvs with
 |nil=>rfl
 |cons q kvs ih=>
  rw[ak,bK,ih fun p hp=>h p (Δ _ hp)];rfl
theorem PL{kvs:WK}(h:∀q∈kvs,Valid q.1)(j:Nat)(b:Int):tW kvs j (b+1)=tW kvs j b+sW kvs b j:=by
 induction kvs with
 |nil=>rfl
 |cons q kvs ih=>
  have ih:=ih fun p hp=>h p (Δ _ hp);unfold tW sW at ih ⊢;rw[ak,bK,ak,bK,ak,bK,ih,HV (h q Γ),Int.mul_add];by_cases hr:bJ b q.1=true
  ·rw[if_pos hr,if_pos hr,nk];lia
  ·rw[if_neg hr,if_neg hr,Int.mul_zero];lia
def dR(cs:List af)(j b:Nat):Nat:=((aA b).filter fun x:Nat=>decide ((cs.filter (bJ (x:Int))).length=j)).length
theorem qE(cs:List af)(j b:Nat):dR cs j (b+1)=dR cs j b+if (cs.filter (bJ (b:Int))).length=j then 1 else 0:=by
 unfold dR;rw[List.range_succ,fX,Ω];by_cases e:(cs.filter (bJ (b:Int))).length=j
 ·rw[if_pos e,cK,if_pos (decide_eq_true e)];rfl
 ·rw[if_neg e,cK,if_neg (by rw[decide_eq_true_iff];exact e)];rfl
theorem PK{cs:List af}{kvs:WK}(h:pB cs kvs)(j b:Nat):tW kvs j (b:Int)=dR cs j b:=by
 have hv:∀q∈kvs,Valid q.1:=fun q hq=>(h.ok.val q hq).1
 induction b with
 |zero=>exact MN hv j
 |succ b ih=>
  rw[show ((b+1:Nat):Int)=(b:Int)+1 by lia,PL hv,ih,h.sum,qE];split<;>lia
end My
namespace L2
open PySem PySem.Spec PyProof.Rows
section
variable {X:Cx} {pins:List (ζ×aK)} {σ:St} {H:Hp} {s:θ} {a:ζ} {y v:V} {u r:ε} {o:Option V} {A:aL} {E:ε->θ->Prop}
theorem Inv.MD(I:Inv X pins σ H s):sysModules<s.heap.objs.size:=by
 have h:aN<s.heap.objs.size:=(I.mod.glob.keeps I.bk).lt;exact jP (by decide) h
theorem HU{h':Φ}{t':Nat}{ob:HO}(I:Inv X pins σ H s)(mu:Cv (H a))(hs:cL a s.heap h')(he:∃q,h'.get? a=some q)(new:cH X.prog X.w (upd H a ob) h' a ob):
  Inv X pins σ (upd H a ob) { s with heap:=h',toks:=t' }:=
 I.write (x:=a) (e:=a) mu (.inl rfl) (fun b q hb z=>(hs.2 b hb).trans z) he new
end
structure M2(X:Cx)(o:υ)(m:ξ)(apos:aQ)(e f:υ)(cpos:aQ):Prop where
 base:attributeBase o m X.env (eval o X.env)=eval o X.env
 Fo:((backTo cpos (bW [e,f] X.env)).all (fun x=>!x.1)&&(backToKw cpos (keywordEach [] X.env)).all (fun x=>x.1.isSome)
  && decide (([e,f]:List υ).length+([]:List rL).length+(if ([]:List rL).isEmpty then 0 else 1)<30))=true
 line:(apos.endLine==cpos.line)=true
 trees:backTo cpos (bW [e,f] X.env)=[(false,eval e X.env),(false,eval f X.env)]
end L2
namespace L3
open PySem PySem.Spec PyProof.Rows L2
abbrev jH:=List Int×ζ×ε
section
variable {K:η} {H:Hp} {G:Gp} {a p:ζ} {ks:List (List Int)}
theorem Ext.qW{φ:Φ->Prop}{o:HO}(h:H p=some (.ext φ)):Ext H (upd H p o):=
 ⟨fun b ys e=>by
  rw[dz fun z=>by rw[z,h] at e;cases e];exact e,fun b x u e=>by
  rw[dz fun z=>by rw[z,h] at e;cases e];exact e⟩
theorem aT.qW{φ:Φ->Prop}{o:HO}{g:GO}(R:aT K G H)(h:H p=some (.ext φ))(new:um K (upd H p o) p g):aT K (du G p g) (upd H p o):=fun a u e=>by
 by_cases z:a=p
 ·subst z;rw[mF] at e;cases e;exact new
 ·rw[ny z] at e;exact (R a u e).ext (Ext.qW h) (dz z)
end
section
variable {X:Cx} {pins:List (ζ×aK)} {σ:L2.St} {H:Hp} {s:θ} {a b:ζ} {A:aL} {E:ε->θ->Prop}
theorem Ak(I:L2.Inv X pins σ H s){k:List Int}(h:cG X.K H b (k.map V.int)):(tupleKind (intKind X.prog X.w)).is s.heap k b:=by
 obtain⟨its,rv,⟨o,h1,h2,n,h3⟩,_⟩:=I.tuple h;exact⟨o,its.toArray,n,h1,h2,h3,DC rv⟩
end
end L3
namespace L3
open PySem PySem.Spec PyProof.Rows L2
abbrev KD:=List Int×D
def gp(a:ζ)(o:aK):Φ->Prop:=fun h=>h.get? a=some o
structure BZ(K:η)(H:Hp)(p:KD)(x:jH):Prop where
 k:x.1=p.1
 t:cG K H x.2.1 (x.1.map V.int)
 v:∃v,Hv K H p.2 v/\RelV v x.2.2
def eK(K:η)(H:Hp):List KD->List jH->Prop
 |[],[]=>True
 |p::ps,x::xs=>BZ K H p x/\eK K H ps xs
 |_,_=>False
def xm(kvs:List KD)(k:List Int)(d:D):List KD:=if k∈kvs.map (·.1) then kvs.map (fun p=>if p.1=k then (p.1,d) else p) else kvs++[(k,d)]
def m6(kvs:List KD)(k:List Int)(y:D):D:=((kvs.find? fun p=>decide (p.1=k)).map (·.2)).getD y
def lN(o:aK)(xs:List jH):Prop:=o.ExactDict/\(∃P w es ep,o.data=.dict es ep/\es.toList=xs.map (entryOfKey (tupleKind (intKind P w))))/\(xs.map (·.1)).Nodup
def gI(kvs:List KD)(o:aK):η->ζ->Hp->Prop:=fun K a H=>H a=some (.ext (gp a o))/\(a==sysModules)=false/\∃xs,lN o xs/\eK K H kvs xs
section
variable {K:η} {H H':Hp} {G:Gp} {a b:ζ} {kvs:List KD} {xs:List jH} {o:aK} {k:List Int} {d:D} {v:V} {r:ε}
theorem eK.ext(E:Ext H H'):∀{kvs:List KD} {xs:List jH},eK K H kvs xs->eK K H' kvs xs
 |[],[],_=>trivial
 |p::ps,x::xs,h=>⟨⟨h.1.k,cG.ext E h.1.t,let ⟨v,a,b⟩:=h.1.v;⟨v,a.ext E,b⟩⟩,eK.ext E h.2⟩
 |[],_::_,h=>h.elim
 |_::_,[],h=>h.elim
theorem eK.keys:∀{kvs:List KD} {xs:List jH},eK K H kvs xs->xs.map (·.1)=kvs.map (·.1)
 |[],[],_=>rfl
 |p::ps,x::xs,h=>by
  rw[ak,ak,h.1.k,eK.keys h.2]
 |[],_::_,h=>h.elim
 |_::_,[],h=>h.elim
theorem eK.iB:∀{kvs:List KD} {xs:List jH},eK K H kvs xs->∀x∈xs,cG K H x.2.1 (x.1.map V.int)
 |[],[],_,_,hx=>nomatch hx
 |p::ps,x::xs,h,y,hy=>by
  rcases aa.mp hy with rfl|hy
  ·exact h.1.t
  ·exact eK.iB h.2 y hy
 |[],_::_,h,_,_=>h.elim
 |_::_,[],h,_,_=>h.elim
theorem eK.app:∀{kvs:List KD} {xs:List jH} {p:KD} {x:jH},eK K H kvs xs->BZ K H p x->eK K H (kvs++[p]) (xs++[x])
 |[],[],_,_,_,h=>⟨h,trivial⟩
 |p::ps,x::xs,_,_,h,e=>⟨h.1,eK.app h.2 e⟩
 |[],_::_,_,_,h,_=>h.elim
 |_::_,[],_,_,h,_=>h.elim
theorem eK.KO(hd:Hv K H d v)(hr:RelV v r):∀{kvs:List KD} {xs:List jH},eK K H kvs xs->eK K H (kvs.map (fun p=>if p.1=k then (p.1,d) else p)) (xs.map (putAt k r))
 |[],[],_=>trivial
 |p::ps,x::xs,h=>by
  refine⟨?_,eK.KO hd hr h.2⟩;show BZ K H (if p.1=k then (p.1,d) else p) (putAt k r x);unfold putAt;by_cases e:p.1=k
  ·rw[if_pos e,if_pos (h.1.k.trans e)];exact⟨h.1.k,h.1.t,v,hd,hr⟩
  ·rw[if_neg e,if_neg (fun z=>e (h.1.k.symm.trans z))];exact h.1
 |[],_::_,h=>h.elim
 |_::_,[],h=>h.elim
theorem at_isSome(xs:List jH)(k:List Int):(atKey xs k).isSome=decide (k∈xs.map (·.1)):=by
 unfold atKey;rw[Option.isSome_map,qw,List.find?_isSome,decide_eq_true_iff,br];constructor
 ·rintro⟨x,hx,e⟩;exact⟨x,hx,of_decide_eq_true e⟩
 ·rintro⟨x,hx,e⟩;exact⟨x,hx,decide_eq_true e⟩
theorem eK.put(h:eK K H kvs xs)(hb:cG K H b (k.map V.int))(hd:Hv K H d v)(hr:RelV v r):eK K H (xm kvs k d) (storedH xs k b r):=by
 unfold storedH xm;rw[at_isSome,h.keys];by_cases q:k∈kvs.map (·.1)
 ·rw[if_pos q,if_pos (decide_eq_true q)];exact h.KO hd hr
 ·rw[if_neg q,if_neg (by simpa using q)];exact h.app ⟨rfl,hb,v,hd,hr⟩
theorem eK.look(hd:Hv K H d v)(hr:RelV v r):∀{kvs:List KD} {xs:List jH},eK K H kvs xs->∃u,Hv K H (m6 kvs k d) u/\RelV u (((atKey xs k).map (·.2)).getD r)
 |[],[],_=>⟨v,hd,hr⟩
 |p::ps,x::xs,h=>by
  by_cases e:p.1=k
  ·have e1:m6 (p::ps) k d=p.2:=by
    unfold m6;rw[fq,decide_eq_true e];rfl
   have e2:((atKey (x::xs) k).map (·.2)).getD r=x.2.2:=by
    unfold atKey;rw[fq,decide_eq_true (h.1.k.trans e)];rfl
   rw[e1,e2];exact h.1.v
  ·have e1:m6 (p::ps) k d=m6 ps k d:=by
    unfold m6;rw[fq,decide_eq_false e]
   have e2:((atKey (x::xs) k).map (·.2)).getD r=((atKey xs k).map (·.2)).getD r:=by
    unfold atKey;rw[fq,decide_eq_false fun z=>e (h.1.k.symm.trans z)]
   rw[e1,e2];exact eK.look hd hr h.2
 |[],_::_,h=>h.elim
 |_::_,[],h=>h.elim
theorem eK.vals:∀{kvs:List KD} {xs:List jH},eK K H kvs xs->∃vs,aO K H (kvs.map (·.2)) vs/\bj vs (xs.map (·.2.2))
 |[],[],_=>⟨[],by simp[aO],.nil⟩
 |p::ps,x::xs,h=>by
  obtain⟨v,h1,h2⟩:=h.1.v;obtain⟨vs,h3,h4⟩:=eK.vals h.2;exact⟨v::vs,aO.cons h1 h3,.cons h2 h4⟩
 |[],_::_,h=>h.elim
 |_::_,[],h=>h.elim
theorem Aj(h:gI kvs o K a H):um K H a (.gen (gI kvs o)):=
 ⟨h,⟨_,h.1,fun _=>nofun,fun _ _=>nofun⟩,fun H1 H2 h1 h2 e ⟨z,q,xs,r,en⟩=>⟨e.trans z,q,xs,r,en.ext ⟨h1,h2⟩⟩⟩
theorem DS{P:ah}{w:ax}{h:Φ}(e:h.get? a=some o):cH P w H h a (.ext (gp a o)):=
 ⟨e,⟨o,e⟩,fun h1 h2 e kk=>kk _ e⟩
end
section
variable {X:Cx} {pins:List (ζ×aK)} {σ:L2.St} {H:Hp} {s:θ} {a b:ζ} {A:aL} {E:ε->θ->Prop} {o:aK} {xs:List jH} {k:List Int}
theorem yi(I:L2.Inv X pins σ H s)(e:H a=some (.ext (gp a o))):s.heap.get? a=some o:=by
 obtain⟨z,_⟩:=(show cH X.prog X.w H s.heap a _ from I.bR a _ e);exact z
theorem DR(I:L2.Inv X pins σ H s)(e:H a=some (.ext (gp a o)))(R:lN o xs)(ht:∀x∈xs,cG X.K H x.2.1 (x.1.map V.int)):s.heap.DictOfH (tupleKind (intKind X.prog X.w)) a xs:=by
 obtain⟨r1,⟨P,w,es,ep,r2,r3⟩,r4⟩:=R;exact⟨o,es,ep,yi I e,r1,r2,r3,fun x hm=>Ak I (ht x hm),r4⟩
theorem PJ{r:ε}{Q:Unit->θ->Prop}(hu:A.units+1<cLine)(I:L2.Inv X pins σ H s)(e:H a=some (.ext (gp a o)))(R:lN o xs)(ht:∀x∈xs,cG X.K H x.2.1 (x.1.map V.int))(hk:cG X.K H b (k.map V.int))(hl:xs.length≤1000)
  (h:∀s' o',L2.Inv X pins σ (upd H a (.ext (gp a o'))) s'->lN o' (storedH xs k b r)->Q () s'):
  ρ (model X.prog X.w) A (setItem (.ref a) (.ref b) r) Q E s:=by
 refine wpAny_setItem_heap (hsz:=by rw[cq];omega) (tupleKind_room_in1 hu) (Ak I hk) (DR I e R ht) fun h' dd' hs=>?_;obtain⟨q,es',ep',hq,y2,y3,y4,_,y5⟩:=dd';exact h _ q (HU I (by rw[e];exact ml) hs ⟨q,hq⟩ (DS hq)) ⟨y2,⟨_,_,es',ep',y3,y4⟩,y5⟩
theorem PH{r:ε}{Q:Unit->θ->Prop}(hu:A.units<cLine)(I:L2.Inv X pins σ H s)(e:H a=some (.ext (gp a o)))(R:lN o xs)(ht:∀x∈xs,cG X.K H x.2.1 (x.1.map V.int))(hk:cG X.K H b (k.map V.int))(hl:xs.length≤1000)
  (h:∀s' o',L2.Inv X pins σ (upd H a (.ext (gp a o'))) s'->lN o' (storedH xs k b r)->Q () s'):
  ρ (model X.prog X.w) A (dictSet a (.ref b) r) Q E s:=by
 refine wpAny_dictSet_heap (hsz:=by rw[cq];omega) hu (Ak I hk) (DR I e R ht) fun h' dd' hs=>?_;obtain⟨q,es',ep',hq,y2,y3,y4,_,y5⟩:=dd';exact h _ q (HU I (by rw[e];exact ml) hs ⟨q,hq⟩ (DS hq)) ⟨y2,⟨_,_,es',ep',y3,y4⟩,y5⟩
end
section
variable {X:Cx} {o i e f:υ} {pos pos' p apos cpos:aQ} {to ti tv ta tk td:aP}
def zf:aP:=fun _ G Q=>∀p o G2,cw G p (.gen (gI [] o)) G2->Q (.obj p) G2
theorem DQ(P:ah)(w:ax):lN { cls:=.type "dict",data:=.dict #[]} []:=⟨⟨rfl,rfl,rfl⟩,⟨P,w,#[],0,rfl,rfl⟩,j8⟩
theorem HS{pins:List (ζ×aK)}{s:θ}{σ:L2.St}{H:Hp}(I:L2.Inv X pins σ H s):L2.Inv X pins σ (upd H s.heap.objs.size (.ext (gp s.heap.objs.size { cls:=.type "dict",data:=.dict #[]}))) { s with heap:=s.heap.push { cls:=.type "dict",data:=.dict #[]}}:=
 I.laid (a:=s.heap.objs.size) (o:=.ext (gp s.heap.objs.size { cls:=.type "dict",data:=.dict #[]})) (t':=s.toks) (fun _ _ q=>μ _ q) (Ψ _) (DS (ag _ rfl))
theorem PF:PE X (.Dict [] [] pos) (fun _ H Q=>∀p o,H p=none->(p==sysModules)=false->lN o []->Q (.ref p) (upd H p (.ext (gp p o)))):=fun pins s σ H Q I h=>
 wpAny_Dict_empty ⟨.ref s.heap.objs.size,_,HS I,rfl,h _ _ (I.bR.fresh (Ψ _)) (beq_eq_false_iff_ne.mpr (de (bh I.MD))) (DQ X.prog X.w)⟩
theorem PD:bS X (.Dict [] [] pos) zf:=jG PF fun σ H Q ⟨τ,G,Q3,RS,RG,h,k⟩ p o hp hs R=>
 k _ _ (.obj p) _ rZ (.hJ hp) (RG.hJ hp (Aj (kvs:=[]) ⟨gW,hs,[],R,trivial⟩)) (h p o _ (.mk' (RG.free hp)))
def zQ(to ti tv:aP):ao:=fun D τ G=>tv τ G fun v G1=>to τ G1 fun o G2=>ti τ G2 fun x G3=>match o,x with
 |.obj p,.tup ds=>∃kvs ob k,G3 p=some (.gen (gI kvs ob))/\ds=k.map .int/\kvs.length≤1000/\∀ob',D.nx τ (du G3 p (.gen (gI (xm kvs k v) ob')))
 |_,_=>False
theorem PC{td ty tv:TE}(hu:X.A.units+1<cLine)(ho:PE X o td)(hi:PE X i ty)(hv:PE X e tv)(hs:swapsWith e (some (.Subscript o i pos')) pos.line X.env=pure false):
  PS X (.Assign [.Subscript o i pos'] e pos) (fun D σ H=>tv σ H fun v H1=>td σ H1 fun x H2=>ty σ H2 fun y H3=>∃a b ob xs k,x=.ref a/\y=.ref b/\H3 a=some (.ext (gp a ob))/\lN ob xs/\(∀x∈xs,cG X.K H3 x.2.1 (x.1.map V.int))/\cG X.K H3 b (k.map V.int)/\xs.length≤1000 ∧
   ∀r o',RelV v r->lN o' (storedH xs k b r)->D.nx σ (upd H3 a (.ext (gp a o')))):=by
 intro pins s σ H D I h;refine wpAny_Assign_Subscript (bN (hv pins s σ H _ I h) fun r s1 ⟨v,H1,I1,rv,q1⟩=>bN (ho pins s1 σ H1 _ I1 q1) fun u s2 ⟨x,H2,I2,rx,q2⟩=>bN (hi pins s2 σ H2 _ I2 q2) fun iv s3 ⟨y,H3,I3,ry,a,b,ob,xs,k,ex,ey,z1,R,z2,z3,z4,q3⟩=>?_) hs;subst ex ey;obtain rfl:u=aF a:=rx;obtain rfl:iv=aF b:=ry;exact PJ hu I3 z1 R z2 z3 z4 fun s4 o' I4 y1=>⟨σ,_,I4,q3 r o' rv y1⟩
theorem De{K:η}{H:Hp}{key:List Int}{vs:List V}(h:aO K H (key.map D.int) vs):vs=key.map V.int:=by
 refine tZ h ?_;clear h
 induction key with
 |nil=>rfl
 |cons n ns ih=>simp[intsOf,ih]
theorem Qk(hu:X.A.units+64<cLine)(ho:bS X o to)(hi:bS X i ti)(hv:bS X e tv)(hs:swapsWith e (some (.Subscript o i pos')) pos.line X.env=pure false:=by rfl):
  pF X (.Assign [.Subscript o i pos'] e pos) (zQ to ti tv):=
 pj (PC (fV (by omega) hu) ho hi hv hs) fun D σ H ⟨τ,G,D3,RS,RG,h,k⟩=>
  ⟨τ,G,_,RS,RG,h,fun v H1 dv G1 hv S1 R1 q1=>⟨τ,G1,_,RS.ext (S1.ext RG),R1,q1,fun x H2 d2 G2 h2 S2 R2 q2=>
   ⟨τ,G2,_,(RS.ext (S1.ext RG)).ext (S2.ext R1),R2,q2,fun y H3 d3 G3 h3 S3 R3 q3=>by
    cases d2 with
    |obj p=>
     cases d3 with
     |tup ds=>
      obtain⟨kvs,ob,key,e1,rfl,l1,q⟩:=q3;obtain⟨⟨z1,z0,xs,z2,z3⟩,_⟩:=R3 p _ e1;obtain⟨b,vs,rfl,t1,t2⟩:=kZ h3;obtain rfl:=De t2;have hx:x=.ref p:=iq h2;refine⟨p,b,ob,xs,key,hx,rfl,z1,z2,z3.iB,t1,?_,fun r o' rr y1=>?_⟩
      ·have:=congrArg fe z3.keys;rw[π,π] at this;omega
      ·have E3:=Ext.qW (o:=.ext (gp p o')) z1;refine k.nx τ σ _ _ ?_ ?_ (R3.qW z1 (Aj ⟨gW,z0,_,y1,(z3.put t1 ((hv.ext (S2.ext R1)).ext (S3.ext R2)) rr).ext E3⟩)) (q o')
       ·exact ((((RS.ext (S1.ext RG)).ext (S2.ext R1)).ext (S3.ext R2))).ext E3
       ·exact ((S1.trans S2).trans S3).trans (Step.wrote e1)
     |_=>exact q3.elim
    |_=>exact q3.elim⟩⟩⟩
def Bw(to tk td:aP):aP:=fun τ G Q=>to τ G fun o G1=>match o with
 |.obj p=>(∃kvs ob,G1 p=some (.gen (gI kvs ob)))/\tk τ G1 fun x G2=>td τ G2 fun y G3=>match x with
  |.tup ds=>∃kvs ob k,G3 p=some (.gen (gI kvs ob))/\ds=k.map .int/\Q (m6 kvs k y) G3
  |_=>False
 |_=>False
theorem Qj{to tk td:TE}(hu:X.A.units+1<cLine)(ho:PE X o to)(he:PE X e tk)(hf:PE X f td)(m:M2 X o "get" apos e f cpos):
  PE X (.Call (.Attribute o "get" apos) [e,f] [] cpos) (fun σ H Q=>to σ H fun x H1=>∃a,x=.ref a/\(∃ob,H1 a=some (.ext (gp a ob))/\ob.ExactDict)/\tk σ H1 fun y H2=>td σ H2 fun z H3=>∃b k ob xs,y=.ref b/\H3 a=some (.ext (gp a ob))/\(a==sysModules)=false/\lN ob xs/\(∀x∈xs,cG X.K H3 x.2.1 (x.1.map V.int))/\cG X.K H3 b (k.map V.int) ∧
   ∀r,RelV z r->∃u,RelV u (((atKey xs k).map (·.2)).getD r)/\Q u H3):=by
 intro pins s σ H Q I h;refine wpAny_Call_method m.base m.Fo m.line PySem.F.plainAttrs_dict rE PySem.F.type_dict_get (bN (ho pins s σ H _ I h) fun u s1 ⟨x,H1,I1,rx,a,ex,⟨ob,e1,ex1⟩,q1⟩=>?_);subst ex;obtain rfl:u=aF a:=rx;have hh:=yi I1 e1;refine⟨⟨ob,hh,ex1.1⟩,fun a1 e=>by cases e;exact⟨ob,hh,ex1.2.1⟩,?_⟩;rw[m.trees];refine kS rfl (sS (nM (bN (he pins s1 σ H1 _ I1 q1) fun iv s2 ⟨y,H2,I2,ry,q2⟩=>
  nM (bN (hf pins s2 σ H2 _ I2 q2) fun fv s3 ⟨z,H3,I3,rz,b,k,ob2,xs,ey,z1,z0,R,z2,z3,q3⟩=>vd ?_))))
 subst ey;obtain rfl:iv=aF b:=ry;have dd:=DR I3 z1 R z2;obtain⟨u,ru,q⟩:=q3 fv rz;exact call_meetsIn rE dd.typeIs PySem.F.entry_dict_get (PySem.F.args_dict_get_3 _ _ _) (meetsH_dict_get_default (tupleKind (intKind X.prog X.w)) a b z0 fv) ⟨tupleKind_room_in1 hu,k,xs,Ak I3 z3,dd,⟨u,H3,I3.tok _,ru,q⟩⟩
theorem Qi(hu:X.A.units+64<cLine)(ho:bS X o to)(he:bS X e tk)(hf:bS X f td)(m:M2 X o "get" apos e f cpos):bS X (.Call (.Attribute o "get" apos) [e,f] [] cpos) (Bw to tk td):=
 jG (Qj (fV (by omega) hu) ho he hf m) fun σ H Q ⟨τ,G,Q3,RS,RG,h,k⟩=>
  ⟨τ,G,_,RS,RG,h,fun v H1 d1 G1 h1 S1 R1 q1=>by
   cases d1 with
   |obj p=>
    obtain⟨⟨kvs,ob,e1⟩,q1⟩:=q1;obtain⟨⟨z1,z0,xs,z2,z3⟩,_⟩:=R1 p _ e1;refine⟨p,iq h1,⟨ob,z1,z2.1⟩,τ,G1,_,RS.ext (S1.ext RG),R1,q1,fun y H2 d2 G2 h2 S2 R2 q2=>⟨τ,G2,_,(RS.ext (S1.ext RG)).ext (S2.ext R1),R2,q2,fun z H3 d3 G3 h3 S3 R3 q3=>?_⟩⟩;cases d2 with
    |tup ds=>
     obtain⟨kvs,ob,key,e1,rfl,q⟩:=q3;obtain⟨⟨z1,z0,xs,z2,z3⟩,_⟩:=R3 p _ e1;obtain⟨b,vs,rfl,t1,t2⟩:=kZ (h2.ext (S3.ext R2));obtain rfl:=De t2;refine⟨b,key,ob,xs,rfl,z1,z0,z2,z3.iB,t1,fun r rr=>?_⟩;obtain⟨u,hu1,hu2⟩:=z3.look (k:=key) h3 rr;exact⟨u,hu2,k u H3 _ G3 hu1 ((S1.trans S2).trans S3) R3 q⟩
    |_=>exact q3.elim
   |_=>exact q1.elim⟩
def Bx(tk tv:aP):aP:=fun τ G Q=>∀p o0 G0,cw G p (.gen (gI [] o0)) G0->tk τ G0 fun x G1=>tv τ G1 fun v G2=>match x with
 |.tup ds=>∃k,ds=k.map .int/\G2 p=some (.gen (gI [] o0))/\∀o',Q (.obj p) (du G2 p (.gen (gI [(k,v)] o')))
 |_=>False
theorem Qh{tk tv:TE}(hu:X.A.units+64<cLine)(hk:PE X i tk)(hv:PE X e tv):
  PE X (.Dict [some i] [e] pos) (fun σ H Q=>∀p o,H p=none->(p==sysModules)=false->lN o []->tk σ (upd H p (.ext (gp p o))) fun x H1=>tv σ H1 fun v H2=>∃b k,x=.ref b/\H2 p=some (.ext (gp p o))/\cG X.K H2 b (k.map V.int) ∧
   ∀r o',RelV v r->lN o' (storedH [] k b r)->Q (.ref p) (upd H2 p (.ext (gp p o')))):=by
 intro pins s σ H Q I h;have h0:=h s.heap.objs.size _ (I.bR.fresh (Ψ _)) (beq_eq_false_iff_ne.mpr (de (bh I.MD))) (DQ X.prog X.w);refine wpAny_Dict_any rfl rfl (by simp) (by simp) ?_;show ρ _ _ (eval i X.env >>= _) _ _ _;refine δ (bN (hk pins _ σ _ _ (HS I) h0) fun u s1 ⟨x,H1,I1,rx,q1⟩=>?_);refine δ (bO (δ (bN (hv pins s1 σ H1 _ I1 q1) fun u2 s2 ⟨y,H2,I2,ry,b,k,ex,e1,t1,q2⟩=>δ (g7 (ι ?_)))));refine δ (bO (ι (ι ?_)));subst ex;obtain rfl:u=aF b:=rx;unfold storeAll;simp only[mr,rH];refine δ (δ (PH (fV (by omega) hu) I2 e1 (DQ X.prog X.w) (fun x hx=>nomatch hx) t1 (by simp) fun s3 o' I3 R'=>ι (ι ?_)));exact⟨.ref s.heap.objs.size,_,I3,rfl,q2 u2 o' ry R'⟩
theorem Qg(hu:X.A.units+64<cLine)(hk:bS X i tk)(hv:bS X e tv):bS X (.Dict [some i] [e] pos) (Bx tk tv):=
 jG (Qh hu hk hv) fun σ H Q ⟨τ,G,Q3,RS,RG,h,k⟩ p o hp hs R=>by
  have S0:Step H G (upd H p (.ext (gp p o))) (du G p (.gen (gI [] o))):=.hJ hp;have R0:aT X.K (du G p (.gen (gI [] o))) (upd H p (.ext (gp p o))):=RG.hJ hp (Aj (kvs:=[]) ⟨gW,hs,[],R,trivial⟩);refine⟨τ,_,_,RS.ext (S0.ext RG),R0,h p o _ (.mk' (RG.free hp)),fun x H1 d1 G1 h1 S1 R1 q1=>⟨τ,G1,_,(RS.ext (S0.ext RG)).ext (S1.ext R0),R1,q1,fun v H2 d2 G2 h2 S2 R2 q2=>?_⟩⟩;cases d1 with
  |tup ds=>
   obtain⟨key,rfl,e1,q⟩:=q2;obtain⟨⟨z1,z0,xs,z2,z3⟩,_⟩:=R2 p _ e1;obtain⟨b,vs,rfl,t1,t2⟩:=kZ (h1.ext (S2.ext R1));obtain rfl:=De t2;refine⟨b,key,rfl,z1,t1,fun r o' rr y1=>?_⟩;have E3:=Ext.qW (o:=.ext (gp p o')) z1;refine k _ _ (.obj p) _ rZ (((S0.trans S1).trans S2).trans (Step.wrote e1)) (R2.qW z1 (Aj ⟨gW,z0,_,y1,?_⟩)) (q o');exact (eK.put (kvs:=[]) (xs:=[]) trivial t1 h2 rr).ext E3
  |_=>exact q2.elim
end
end L3
namespace L3
open PySem PySem.Spec PyProof.Rows L2
section
variable {prog:ah} {w:ax} {A:aL} {E:ε->θ->Prop} {s:θ}
theorem Qf(d:ζ)(hd:(d==sysModules)=false):
  MeetsIn prog w (df.«dict.items» ⟨[.ref d],[]⟩) (fun _ R s=>s.TypeIs (.ref d) "dict" ∧
   R (.ok (.ret (.ref s.heap.objs.size))) { s with heap:=s.heap.push { cls:=.type "dict_items",data:=.fields #[.ref d]}}):=
 .of_wp fun A R s ⟨hm,h⟩=>by
  unfold df.«dict.items»;refine δ ?_;unfold df.Dict.noArgs;refine δ (wpAny_notOrdered_dict hm ?_);show ρ _ _ (pure d) _ _ s;refine ι ?_;show ρ _ _ (rO d >>= _) _ _ s;unfold rO;rw[if_neg (by rw[hd];exact az)];refine δ (ι ?_);exact δ (bC (ι ⟨_,rfl,h⟩))
theorem Qe{v d:ζ}{o:aK}{es:Array jW}{ep:Nat}{Q:ε->θ->Prop}(hv:s.heap.IsItemsView v d)(ho:s.heap.get? d=some o)(hdat:o.data=.dict es ep)
  (hQ:Q (.ref s.heap.objs.size) { s with heap:=s.heap.push { cls:=.type "dict_itemiterator",data:=.fields #[.none,.bool false,.ref d,.int 0 0,.int es.size 0,.int ep 0,.none,.none]}}):
  ρ (model prog w) A (pyIter (.ref v)) Q E s:=by
 obtain⟨ov,hov,hcv,hdv⟩:=id hv;refine kB hv.typeIs F.slot_dict_items_iter (bX F.slot_dict_items_iter hv.typeIs F.entry_dict_items_iter ?_ (F.args_dict_items_iter_1 _));unfold df.«dict_items.__iter__»;refine δ (ι ?_);refine δ ?_;unfold df.Dict_items.dictOf;refine δ (bG hov hdv (x:=.ref d) rfl (ι ?_));refine δ ?_;unfold df.Dict_items.newIterator;refine δ (oq ho hdat ?_);refine δ (ql ho hdat ?_);have hown:iK "dict_itemiterator" = true:=by decide
 simp only[hown,if_true];refine bC (ι ⟨_,rfl,"dict_itemiterator",_,⟨_,ag _ rfl,rfl⟩,F.slot_dict_itemiterator_next.lookup,?_⟩)
  (by simp only[sizeOk,ka,ψ,Ω,aB,fo,cq];lia)
 simpa [rawInt,ka] using hQ
theorem Qd{it d:ζ}{i ep:Nat}{od:aK}{es:Array jW}{en:jW}{ok ov:ε}{Q:Option ε->θ->Prop}(hit:iY s.heap it d i es.size ep ok ov)
  (wo:s.heap.get? d=some od) (hdd:od.data=.dict es ep) (hx:es[i]?=some en)
  (hQ:∀h',tw h' it d (i+1) es.size ep en.key en.val s.heap.objs.size ->
   h'.get? s.heap.objs.size=some { cls:=.type "tuple",data:=.seq #[en.key,en.val]}->h'.objs.size=s.heap.objs.size+1 ->
   (∀b o,b≠it->s.heap.get? b=some o->h'.get? b=some o)->Q (some (.ref s.heap.objs.size)) { s with heap:=h' }):
  ρ (model prog w) A (pyNext (.ref it)) Q E s:=by
 obtain⟨hp,g,dr,tk,os⟩:=s;obtain⟨hlt',een⟩:=aG.mp hx;subst een;have hT:kW ⟨hp,g,dr,tk,os⟩ (.ref it) "dict_itemiterator":=⟨_,hit,rfl⟩;unfold pyNext;refine δ (gr (ck (name:=fk "__next__") hT F.slot_dict_itemiterator_next
  (bX F.slot_dict_itemiterator_next hT F.entry_dict_itemiterator_next ?_ (F.args_dict_itemiterator_next_1 _))))
 refine δ (ι ?_);refine δ ?_;refine δ ?_
 first|refine δ (fj hT (ι ?_))|refine δ (gz hT (ι ?_))
 refine δ (rk hit rfl ?_);have hown:iK "dict_itemiterator" = true:=by decide
 simp only[hown,if_true];show ρ _ _ (if (aF d==aU)=true then _ else _) _ _ _;rw[if_neg (show ¬((aF d==aU)=true) from az)];refine δ (ι ?_);refine δ (oq wo hdd ?_);rw[if_neg (by simp)];refine δ (ι ?_);refine δ (ql wo hdd ?_);rw[if_neg (by simp)];refine ι ?_;simp only[show ¬((i:Int)<0) from by lia,if_false,cB,jD hlt'];refine δ ?_
 first|refine δ (fj hT (ι ?_))|refine δ (gz hT (ι ?_))
 refine δ (kK hT ?_);show ρ _ _ (setField (.ref it) 3 (rawInt ((i:Int)+1)) >>= _) _ _ ⟨hp,g,dr,tk,os⟩;refine δ (bU hit (by simp) fun h₁ he₁ hs₁=>?_)
 replace hs₁:cL it hp h₁:=hs₁
 replace he₁:iY h₁ it d (i+1) es.size ep ok ov:=by
  have e:((i+1:Nat):Int)=(i:Int)+1:=by lia
  unfold iY;rw[e];simpa [rawInt] using he₁
 have hT₁:kW ⟨h₁,g,dr,tk,os⟩ (.ref it) "dict_itemiterator":=⟨_,he₁,rfl⟩;refine δ (bO ?_);refine δ (kK hT₁ ?_);refine δ (kK hT₁ ?_);show ρ _ _ (ly (.ref it) 6 es[i].key es[i].val) _ _ ⟨h₁,g,dr,tk,os⟩;unfold ly;refine δ (mW ?_);have he₂:iY (h₁.push { cls:=.type "tuple",data:=.seq #[es[i].key,es[i].val]}) it d (i+1) es.size ep ok ov:=μ _ he₁;generalize hh₂:h₁.push { cls:=.type "tuple",data:=.seq #[es[i].key,es[i].val]}=h₂ at he₂;have hz₁:h₁.objs.size=hp.objs.size:=hs₁.1;have hil:it<hp.objs.size:=Θ hit;have ht₂:h₂.get? hp.objs.size=some { cls:=.type "tuple",data:=.seq #[es[i].key,es[i].val]}:=by rw[←hh₂,←hz₁];exact ag _ rfl
 have hz₂:h₂.objs.size=hp.objs.size+1:=by rw[←hh₂,dN,hz₁]
 have hk₂:∀b o,b≠it->hp.get? b=some o->h₂.get? b=some o:=fun b o hb e=>by rw[←hh₂];exact μ _ (hs₁.extBut b o hb e)
 show ρ _ _ (j9 (.ref it) >>= _) _ _ ⟨h₂,g,dr,tk,os⟩;rw[hz₁];clear hh₂ he₁ hs₁ hT₁ hz₁ h₁;refine δ ?_;unfold j9;refine δ (bG he₂ rfl (x:=.none) rfl (ι ?_));simp only[if_true];refine δ (bG he₂ rfl (x:=ok) rfl ?_);refine δ (bG he₂ rfl (x:=ov) rfl ?_);refine δ (bU he₂ (by simp) fun h₃ he₃ hs₃=>?_)
 replace hs₃:cL it h₂ h₃:=hs₃
 replace he₃:iY h₃ it d (i+1) es.size ep es[i].key ov:=he₃
 refine δ (bU he₃ (by simp) fun h₄ he₄ hs₄=>?_)
 replace hs₄:cL it h₃ h₄:=hs₄
 replace he₄:iY h₄ it d (i+1) es.size ep es[i].key es[i].val:=he₄
 refine δ (bU he₄ (by simp) fun h₅ he₅ hs₅=>?_)
 replace hs₅:cL it h₄ h₅:=hs₅
 replace he₅:tw h₅ it d (i+1) es.size ep es[i].key es[i].val hp.objs.size:=he₅
 refine δ (bU he₅ (by simp) fun h₆ he₆ hs₆=>?_)
 replace hs₆:cL it h₅ h₆:=hs₆
 replace he₆:tw h₆ it d (i+1) es.size ep es[i].key es[i].val hp.objs.size:=he₆
 refine δ (qL (ι (ι ⟨_,rfl,ι (hQ h₆ he₆ ?_ ?_ ?_)⟩)))
 ·exact hs₆.extBut _ _ (eA hil) (hs₅.extBut _ _ (eA hil) (hs₄.extBut _ _ (eA hil) (hs₃.extBut _ _ (eA hil) ht₂)))
 ·show h₆.objs.size=hp.objs.size+1;rw[hs₆.1,hs₅.1,hs₄.1,hs₃.1,hz₂]
 ·exact fun b o hb e=>hs₆.extBut b o hb (hs₅.extBut b o hb (hs₄.extBut b o hb (hs₃.extBut b o hb (hk₂ b o hb e))))
theorem Qc{it d:ζ}{i ep:Nat}{od:aK}{es:Array jW}{ok ov:ε}{Q:Option ε->θ->Prop}(hh:A.handled=none)(hit:iY s.heap it d i es.size ep ok ov)
  (wo:s.heap.get? d=some od) (hdd:od.data=.dict es ep) (hge:es.size≤i)
  (hQ:∀h',vz it s.heap h'->Q none { s with heap:=h' }):ρ (model prog w) A (pyNext (.ref it)) Q E s:=by
 have hT:s.TypeIs (.ref it) "dict_itemiterator":=⟨_,hit,rfl⟩;unfold pyNext;refine δ (gr (ck (name:=fk "__next__") hT F.slot_dict_itemiterator_next
  (bX F.slot_dict_itemiterator_next hT F.entry_dict_itemiterator_next ?_ (F.args_dict_itemiterator_next_1 _))))
 refine δ (ι ?_);refine δ ?_;refine δ ?_
 first|refine δ (fj hT (ι ?_))|refine δ (gz hT (ι ?_))
 refine δ (rk hit rfl ?_);have hown:iK "dict_itemiterator" = true:=by decide
 simp only[hown,if_true];show ρ _ _ (if (aF d==aU)=true then _ else _) _ _ s;rw[if_neg (show ¬((aF d==aU)=true) from az)];refine δ (ι ?_);refine δ (oq wo hdd ?_);rw[if_neg (by simp)];refine δ (ι ?_);refine δ (ql wo hdd ?_);rw[if_neg (by simp)];refine ι ?_;simp only[show ¬((i:Int)<0) from by lia,if_false,cB,Array.getElem?_eq_none hge];refine δ ?_
 first|refine δ (fj hT (ι ?_))|refine δ (gz hT (ι ?_))
 show ρ _ _ (setField (.ref it) 2 .none >>= _) _ _ s;refine δ (fI hit rfl (by simp) ?_);show ρ _ _ (newExc (.type "StopIteration") [] >>= _) _ _ _;refine δ ?_;simp only[newExc,newTuple];refine δ (bC ?_ (by size_fits));refine δ (m:=firstArgMember _ _) (kJ (a:=aU) (by first|rfl|(simp only[firstArgMember];rfl)) ?_)
 refine bC ?_ (by size_fits);simp only[raiseNew];refine δ (sZ ?_);rw[show A.in1.handled=none from hh];refine δ (ι (wpAny_throw ?_));refine δ (lp (T:="StopIteration") (b:=true) ⟨_,ag _ rfl,rfl⟩ rm ?_);exact ι (hQ _ (((dj ..).extBut.push _).push _))
end
theorem eK.get{K:η}{H:Hp}:∀{kvs:List KD} {xs:List jH} {i:Nat} {q:KD},eK K H kvs xs->kvs[i]?=some q->∃x,xs[i]?=some x/\BZ K H q x
 |[],_,_,_,_,e=>by cases e
 |p::ps,x::xs,0,q,h,e=>by
  cases e;exact⟨x,rfl,h.1⟩
 |p::ps,x::xs,i+1,q,h,e=>eK.get (i:=i) h.2 e
 |_::_,[],_,_,h,_=>h.elim
theorem HR{K:η}{H:Hp}:∀k:List Int,aO K H (k.map D.int) (k.map V.int)
 |[]=>by simp[aO]
 |n::ns=>aO.cons (by simp[Hv]) (HR ns)
def Ep(d:ζ)(o:aK)(xs:List jH)(vs:List V):It:=
 ⟨fun i H=>H d=some (.ext (gp d o))/\i<xs.length,
  fun i H x H'=>∃T e v,x=.ref T/\H T=none/\H'=upd H T (.tup [.ref e.2.1,v])/\xs[i]?=some e/\vs[i]?=some v,
  fun i H=>H d=some (.ext (gp d o))/\xs.length≤i⟩
theorem Qb{P P':ah}{w w':ax}{K:η}{es:List υ}{n0:Nat}{ps:aQ}(d it:ζ){o:aK}{xs:List jH}{vs:List V}{ees:Array jW}{ep:Nat}(hdat:o.data=.dict ees ep)(hes:ees.toList=xs.map (entryOfKey (tupleKind (intKind P' w'))))(hv:bj vs (xs.map (·.2.2))):
  Turn P w K (.Tuple es n0 ps) (Ep d o xs vs) [it] it (fun i h=>∃ok ov,iY h it d i ees.size ep ok ov) where
 mem:=by simp
 obj:=fun i h ⟨ok,ov,Z⟩ b hb=>by
  rw[cF.mp hb];exact⟨_,Z,fun v z=>by cases (show vA _=qu v from z)⟩
 keep:=fun i h h' ⟨ok,ov,Z⟩ k=>⟨ok,ov,k _ (by simp) _ Z⟩
 item:=by
  intro X hP hw hK hc i pins s σ H E I hf st hg;subst hP hw hK;obtain⟨ok,ov,Z⟩:=st;obtain⟨e1,hi⟩:=hg;have ho:=yi I e1;have hx:xs[i]?=some xs[i]:=aw hi;have hen:ees[i]?=some (entryOfKey (tupleKind (intKind P' w')) xs[i]):=by
   rw[entry_at hes i,hx];rfl
  have hlv:i<vs.length:=by
   rw[hv.length,π];exact hi
  obtain⟨u,hu1,hu2⟩:=hv.get (aw hlv);have eu:u=xs[i].2.2:=by
   rw[aE,hx] at hu1;exact (aJ hu1).symm
  subst eu;refine Qd Z ho hdat hen fun h' Zo T' sz kp=>⟨_,rfl,?_⟩;refine wpAny_letOwnedTupleGo_items (s:={ s with heap:=h' }) Zo fun h2 Z2 b2=>?_;have hn:H s.heap.objs.size=none:=I.bR.fresh (Ψ _);have I1:L2.Inv X pins σ (upd H s.heap.objs.size (.tup [.ref xs[i].2.1,vs[i]])) { s with heap:=s.heap.push { cls:=.type "tuple",data:=.seq #[.ref xs[i].2.1,xs[i].2.2]}}:=I.laid (t':=s.toks) (fun b o e=>μ _ e) (Ψ _) ⟨by show 2≤au;decide,[.ref xs[i].2.1,xs[i].2.2],.cons rfl (.cons hu2 .nil),⟨_,ag _ rfl,rfl,⟨_,rfl⟩,rfl⟩⟩;have lt:∀b∈[it],b<s.heap.objs.size:=fun b hb=>by
   rw[cF.mp hb];exact Θ Z
  have hf':∀b∈[it],kz X pins (upd H s.heap.objs.size (.tup [.ref xs[i].2.1,vs[i]])) b:=fun b hb=>⟨by rw[dz (bh (lt b hb))];exact (hf b hb).1,(hf b hb).2⟩;have I2:L2.Inv X pins σ (upd H s.heap.objs.size (.tup [.ref xs[i].2.1,vs[i]])) { s with heap:=h2 }:=uG (s:={ s with heap:=s.heap.push { cls:=.type "tuple",data:=.seq #[.ref xs[i].2.1,xs[i].2.2]}}) (t':=s.toks) I1 (fun b o hb e=>by
   simp only[aa,aZ,or_false] at hb;refine b2.extBut b o hb ?_;rcases sR e with⟨rfl,rfl⟩|e
   ·exact T'
   ·exact kp b o hb e) hf'
  exact⟨.ref s.heap.objs.size,_,I2,rfl,⟨_,xs[i],vs[i],rfl,hn,rfl,hx,aw hlv⟩,⟨_,_,Z2⟩,fun b hb=>(hf' b hb).1⟩
 done:=by
  intro X hP hw hK hc i pins s σ H E I hf st hg;subst hP hw hK;obtain⟨ok,ov,Z⟩:=st;obtain⟨e1,hl⟩:=hg;exact Qc (I.ok.hd hc) Z (yi I e1) hdat (by rw[size_of_entries hes];exact hl) fun h' kp=>⟨rfl,uG (t':=s.toks) I (fun b o hb e=>kp b o (by simpa using hb) e) hf⟩
 self:=fun A i s Q E ⟨ok,ov,Z⟩ h=>by
  have hT:s.TypeIs (.ref it) "dict_itemiterator":=⟨_,Z,rfl⟩;refine kB hT F.slot_dict_itemiterator_iter (bX F.slot_dict_itemiterator_iter hT (b:=df.«dict_keyiterator.__iter__») ?_ ?_ (F.args_dict_itemiterator_iter_1 _))
  ·exact rp (id':="dict_keyiterator.__iter__") (by kernel_rfl) (by decide +kernel) (by decide +kernel) (by kernel_rfl)
  ·show ρ _ _ (ret (.ref it)) _ _ s;exact ι ⟨_,rfl,"dict_itemiterator",_,hT,F.slot_dict_itemiterator_next.lookup,h⟩
section
variable {X:Cx} {es:List υ} {n0:Nat} {ps apos cpos:aQ} {o:υ}
theorem Po{to:TE}(ho:PE X o to)(jZ:attributeBase o "items" X.env (eval o X.env)=eval o X.env)(oG:(apos.endLine==cpos.line)=true):
  PI X (.Tuple es n0 ps) (.Call (.Attribute o "items" apos) [] [] cpos) (fun σ H R=>to σ H fun x H1=>∃a ob xs vs,x=.ref a/\H1 a=some (.ext (gp a ob))/\(a==sysModules)=false/\lN ob xs/\bj vs (xs.map (·.2.2))/\R (Ep a ob xs vs) H1):=by
 intro pins s σ H R I h;refine wpAny_Call_method0_late jZ oG (bN (ho pins s σ H _ I h) fun v s1 ⟨x,H1,I1,r1,a,ob,xs,vs,ex,e1,z0,RD,hv,q⟩=>?_);subst ex;obtain rfl:v=aF a:=r1;have hh:=yi I1 e1;have hT:s1.TypeIs (.ref a) "dict":=⟨ob,hh,RD.1.1⟩;refine⟨"dict","dict.items",F.plainAttrs_dict,F.slot_dict_items,F.type_dict_items,hT,fun a1 e=>by cases e;exact⟨ob,hh,RD.1.2.1⟩,kS rfl (PySem.evalArgs_none ?_)⟩;refine call_meetsIn F.slot_dict_items hT F.entry_dict_items (F.args_dict_items_1 _) (Qf a z0) ⟨hT,?_⟩;obtain⟨_,⟨P',w',ees,ep,r2,r3⟩,_⟩:=RD;refine Qe (s:={ s1 with heap:=s1.heap.push { cls:=.type "dict_items",data:=.fields #[.ref a]}}) (o:=ob) ⟨_,ag _ rfl,rfl,rfl⟩ (μ _ hh) r2 ?_
 refine⟨_,[_],_,Ep a ob xs vs,H1,rfl,I1.kept (t':=s1.toks) (fun b o e=>μ _ (μ _ e)),Qb a _ r2 r3 hv,⟨_,_,ag _ rfl⟩,fun b hb=>?_,q⟩;have hb:s1.heap.objs.size≤b:=by
  rw[cF.mp hb,dN];exact qP _
 exact I1.ud hb (I1.bR.fresh hb)
def ub(to:aP):pC:=fun τ G R=>to τ G fun x G1=>match x with
 |.obj p=>∃kvs ob,G1 p=some (.gen (gI kvs ob))/\R ⟨kvs.map (fun q=>.tup [tupI q.1,q.2]),fun G=>G p=some (.gen (gI kvs ob))⟩ G1
 |_=>False
theorem Pn{to:aP}(ho:bS X o to)(jZ:attributeBase o "items" X.env (eval o X.env)=eval o X.env:=by rfl)(oG:(apos.endLine==cpos.line)=true:=by rfl):
  xG X (.Tuple es n0 ps) (.Call (.Attribute o "items" apos) [] [] cpos) (ub to):=
 Eh (Po ho jZ oG) fun σ H R ⟨τ,G,R3,RS,RG,h,k⟩=>⟨τ,G,_,RS,RG,h,fun v H1 d G1 h1 S1 R1 q1=>by
  cases d with
  |obj p=>
   obtain⟨kvs,ob,e1,q⟩:=q1;obtain⟨⟨z1,z0,xs,z2,z3⟩,_⟩:=R1 p _ e1;obtain⟨vs,hv1,hv2⟩:=z3.vals;have hlen:xs.length=kvs.length:=by
    have:=congrArg fe z3.keys;rwa [π,π] at this
   refine⟨p,ob,xs,vs,iq h1,z1,z0,z2,hv2,k _ _ _ _ ⟨?_,?_⟩ S1 R1 q⟩
   ·intro i d H' G' E' RG' hg hi;have hi:(kvs.map fun q=>D.tup [tupI q.1,q.2])[i]?=some d:=hi;rw[aE] at hi;obtain⟨q,hq,rfl⟩:=Option.map_eq_some_iff.mp hi;obtain⟨x,hx,er⟩:=(z3.ext E').get hq;obtain⟨u,hu1,hu2⟩:=hv1.get (i:=i) (d:=q.2) (by rw[aE,hq];rfl);refine⟨⟨(RG' p _ hg).1.1,(aM.mp hx).1⟩,fun x' H'' hy=>?_⟩;obtain⟨T,e,v,rfl,hn,rfl,hx2,hv3⟩:=hy;rw[hx] at hx2;rw[hu1] at hv3;cases hx2;cases hv3;refine⟨?_,.laid hn,RG'.laid hn⟩;unfold Hv;refine⟨T,_,rfl,.of gW,.cons ?_ (.cons ((hu2.ext E').ext (.laid hn)) .nil)⟩;show Hv _ _ (.tup (q.1.map D.int)) _;unfold Hv;have ht:=cG.ext (.laid hn:Ext H' (upd H' T (.tup [.ref x.2.1,u]))) er.t;rw[er.k] at ht;exact⟨_,_,rfl,ht,HR q.1⟩
   ·intro i H' G' E' RG' hg hi;have hi:(kvs.map fun q=>D.tup [tupI q.1,q.2]).length≤i:=hi;rw[π] at hi;exact⟨(RG' p _ hg).1.1,by lia⟩
  |_=>exact q1.elim⟩
end
end L3
namespace L3
open PySem PySem.Spec PyProof.Rows L2
def pA(G:Gp)(a:ζ):Gp:=fun b=>if b=a then none else G b
theorem Dd{G:Gp}{a b:ζ}(h:b≠a):pA G a b=G b:=by simp[pA,h]
theorem cw.del{G G1:Gp}{p:ζ}{o:GO}(n:cw G p o G1):Sub G (pA G1 p):=fun a u e=>by
 rw[Dd]
 ·exact n.sub a u e
 ·intro z;rw[z,n.aC] at e;cases e
section
variable {X:Cx} {e:υ} {ta:aP} {pins:List (ζ×aK)} {σ:L2.St} {H:Hp} {s:θ} {a:ζ} {xs:List V}
theorem Pm(I:Inv X pins σ H s)(h:H a=some (.lst xs)):∃o,Inv X pins σ (upd H a (.eI o (.lst xs))) s:=by
 obtain⟨z,its,n,r,p⟩:=I.bR a _ h;exact⟨_,I.write (e:=a) (h':=s.heap) (t':=s.toks) (by rw[h];trivial) (.inl rfl) (fun b u _ q=>q) ⟨_,p⟩ ⟨p,z,its,n,r,p⟩⟩
def sy(ta:aP):aP:=fun τ G Q=>ta τ G fun x G1=>match x with
 |.obj a=>∃ds,G1 a=some (.lst ds)/\Q (.eS ds) (pA G1 a)
 |_=>False
theorem Pl(ha:bS X e ta):bS X e (sy ta):=by
 intro pins s σ H Q I ⟨τ,G,Q3,RS,RG,h,kk⟩;refine bN (ha pins s σ H (fun v H1=>∃d G1,Hv X.K H1 d v/\Step H G H1 G1/\aT X.K G1 H1/\(match d with
  |.obj a=>∃ds,G1 a=some (.lst ds)/\Q3 (.eS ds) (pA G1 a)
  | _=>False)) I ⟨τ,G,_,RS,RG,h,fun v H1 d G1 a b c q=>⟨d,G1,a,b,c,q⟩⟩) fun u s1 ⟨v,H1,I1,r1,d,G1,hd,S1,R1,q⟩=>?_
 cases d with
 |obj a=>
  obtain⟨ds,e1,q⟩:=q;obtain⟨vs,e2,e3⟩:=R1 a _ e1;obtain⟨o,I2⟩:=Pm I1 e2;refine⟨v,_,I2,r1,kk v _ (.eS ds) _ ?_ ⟨fun b u f n=>?_,fun b f=>?_,fun b n f=>?_⟩ (fun b u f=>?_) q⟩
  ·unfold Hv;exact⟨a,vs,iq hd,.inl ⟨o,gW⟩,e3.ext (.wrote e2)⟩
  ·by_cases z:b=a
   ·subst z;rw[S1.new b n (by rw[e1];exact nofun)] at f;cases f
   ·rw[dz z];exact S1.fr b u f n
  ·by_cases z:b=a
   ·subst z;rw[gW];exact nofun
   ·rw[dz z];exact S1.oi b f
  ·by_cases z:b=a
   ·subst z;exact absurd (show pA G1 b b=none by simp[pA]) f
   ·rw[Dd z] at f;exact S1.new b n f
  ·by_cases z:b=a
   ·subst z;rw[show pA G1 b b=none by simp[pA]] at f;cases f
   ·rw[Dd z] at f;exact (R1 b u f).ext (.wrote e2) (by rw[dz z])
 |_=>exact q.elim
theorem vI(ha:QE X e ta):QE X e (sy ta):=⟨Pl ha.of⟩
end
end L3
namespace L3
open PySem PySem.Spec PyProof.Rows L2
def CB(G:Gp):D->List D->Prop
 |.obj p,ds=>G p=some (.lst ds)
 |.eS es,ds=>ds=es
 |_,_=>False
def tT:R3:=fun x y G Q=>∃ds es,CB G x ds/\CB G y es/\ds.length+es.length≤au/\∀p G',cw G p (.lst (ds++es)) G'->Q (.obj p) G'
def Fc(K:η):R2:=fun x y H Q=>∃l b xs zs,x=.ref l/\y=.ref b/\eU K H l xs/\eU K H b zs/\xs.length+zs.length≤au/\∀p,H p=none->Q (.ref p) (upd H p (.lst (xs++zs)))
section
variable {X:Cx} {K:η}
theorem Ai:fi X (binaryOp .Add) (Fc X.K):=by
 intro pins s σ H x y v u Q I rx ry h;obtain⟨l,b,xs,zs,rfl,rfl,hH,hB,hz,q⟩:=h;cases rx;cases ry;obtain⟨its,r,⟨⟨cls,dd,data,sl⟩,n,e,h1,h2,h3⟩,_⟩:=I.list hH;obtain⟨its2,r2,⟨⟨cls2,dd2,data2,sl2⟩,n2,e2,g1,g2,g3⟩,_⟩:=I.list hB;simp only at h1 h2 h3 g1 g2 g3;subst h1 h2 h3 g1 g2 g3;have hsz:its.toArray.size+its2.toArray.size≤au:=by
  rw[ψ,ψ,←r.length,←r2.length];exact hz
 refine pL ⟨_,e,rfl⟩ ⟨_,e2,rfl⟩ noFill_list_add seq_list_add F.slot_list_add F.entry_list_add (F.args_list_add_2 _ _) (list_addW l b its.toArray its2.toArray n n2 none none sl sl2 hsz) ⟨e,e2,?_⟩;have ea:its.toArray++its2.toArray=(its++its2).toArray:=by simp
 rw[ea];exact⟨.ref _,_,I.A8 (t':=s.toks) (r.append r2) (by rw[Ω];omega),rfl,q _ I.fresh⟩
theorem HQ{H:Hp}{G:Gp}{x:D}{v:V}{ds:List D}(hv:Hv K H x v)(RG:aT K G H)(h:CB G x ds):∃a vs,v=.ref a/\eU K H a vs/\aO K H ds vs:=by
 cases x with
 |obj p=>
  obtain⟨vs,e2,e3⟩:=RG p _ h;exact⟨p,vs,iq hv,eU.of e2,e3⟩
 |eS es=>
  obtain⟨a,vs,rfl,e2,e3⟩:=t5 hv;cases (show ds=es from h);exact⟨a,vs,rfl,e2.l,e3⟩
 |_=>exact h.elim
theorem Ah:gq K tT (Fc K):=fun x y vx vy G H Q3 Q hx hy RG h k=>by
 obtain⟨ds,es,h1,h2,hz,q⟩:=h;obtain⟨a,vs,rfl,e1,e2⟩:=HQ hx RG h1;obtain⟨b,us,rfl,y1,y2⟩:=HQ hy RG h2;exact⟨a,b,vs,us,rfl,rfl,e1,y1,by rw[←e2.length,←y2.length];exact hz,fun p hp=>k _ _ (.obj p) _ rZ (.hJ hp) (RG.vT hp (e2.append y2)) (q p _ (.mk' (RG.free hp)))⟩
end
section
variable {X:Cx} {o i e f:υ} {pos pos' p apos cpos ps:aQ} {to ti tv tk td:aP} {es:List υ} {n0:Nat}
theorem Pk:QE X (.Dict [] [] pos) zf:=⟨PD⟩
theorem Pj(hu:X.A.units+64<cLine)(ho:QE X o to)(hi:QE X i ti)(hv:QE X e tv)(hs:swapsWith e (some (.Subscript o i pos')) pos.line X.env=pure false:=by rfl):
  QS X (.Assign [.Subscript o i pos'] e pos) (zQ to ti tv):=⟨Qk hu ho.of hi.of hv.of hs⟩
theorem Ph(hu:X.A.units+64<cLine)(ho:QE X o to)(he:QE X e tk)(hf:QE X f td)(m:M2 X o "get" apos e f cpos:=by exact⟨rfl,rfl,rfl,rfl⟩):QE X (.Call (.Attribute o "get" apos) [e,f] [] cpos) (Bw to tk td):=⟨Qi hu ho.of he.of hf.of m⟩
theorem Pg(hu:X.A.units+64<cLine)(hk:QE X i tk)(hv:QE X e tv):QE X (.Dict [some i] [e] pos) (Bx tk tv):=⟨Qg hu hk.of hv.of⟩
theorem HP(ho:QE X o to)(jZ:attributeBase o "items" X.env (eval o X.env)=eval o X.env:=by rfl)(oG:(apos.endLine==cpos.line)=true:=by rfl):
  QI X (.Tuple es n0 ps) (.Call (.Attribute o "items" apos) [] [] cpos) (ub to):=⟨Pn ho.of jZ oG⟩
end
end L3
namespace My
open PySem L2 L3
def vD(w:List Int):D:=.eS (w.map D.int)
def gX(kvs:WK):List KD:=kvs.map fun q=>(fb q.1,vD q.2)
theorem Pf(kvs:WK):(gX kvs).map (·.1)=(kvs.map (·.1)).map fb:=by
 unfold gX;rw[bV,bV];rfl
theorem zB{kvs:WK}{c:af}:fb c∈(gX kvs).map (·.1)↔c∈kvs.map (·.1):=by
 rw[Pf];constructor
 ·intro h;obtain⟨d,hd,e⟩:=br.mp h;rw[←AS e];exact hd
 ·exact fun h=>List.mem_map_of_mem h
theorem Pe(kvs:WK)(c:af)(v:List Int):xm (gX kvs) (fb c) (vD v)=gX (qB kvs c v):=by
 unfold xm qB;by_cases h:c∈kvs.map (·.1)
 ·rw[if_pos h,if_pos (zB.mpr h)];unfold gX;rw[bV,bV];refine eN fun q _=>?_;show (if fb q.1=fb c then (fb q.1,vD v) else (fb q.1,vD q.2))=_;by_cases e:q.1=c
  ·rw[if_pos (by rw[e])];show _=(fb (if q.1=c then (q.1,v) else q).1,vD (if q.1=c then (q.1,v) else q).2);rw[if_pos e]
  ·rw[if_neg (fun z=>e (AS z))];show _=(fb (if q.1=c then (q.1,v) else q).1,vD (if q.1=c then (q.1,v) else q).2);rw[if_neg e]
 ·rw[if_neg h,if_neg (fun z=>h (zB.mp z))];unfold gX;rw[bM];rfl
theorem Pd{G:Gp}{kvs:WK}{c:af}{p:ζ}{y:List Int}(h:G p=some (.lst (y.map D.int))):lM G (m6 (gX kvs) (fb c) (.obj p)) ((fN kvs c y).map D.int):=by
 unfold m6 fN gX;rw[List.find?_map];have e:((fun p:KD=>decide (p.1=fb c)) ∘ fun q:af×List Int=>(fb q.1,vD q.2))=fun q:af×List Int=>decide (q.1=c):=by
  funext q;show decide (fb q.1=fb c)=_;by_cases z:q.1=c
  ·rw[decide_eq_true z,decide_eq_true (by rw[z])]
  ·rw[decide_eq_false z,decide_eq_false fun w=>z (AS w)]
 rw[e];cases kvs.find? fun q=>decide (q.1=c) with
 |none=>exact h
 |some q=>rfl
theorem HN(n:Nat):(aj n [D.int 0]).flatten=(aj n (0:Int)).map D.int:=by
 induction n with
 |zero=>rfl
 |succ n ih=>
  rw[di,gx,ih,di,ak];rfl
def xf:fc:=fun ds G Q=>∃(p r:ζ) (kvs:WK) (ob:aK) (c:af) (w:List Int),ds=[.obj p,cD c,.obj r]/\G p=some (.gen (gI (gX kvs) ob))/\G r=some (.lst (w.map D.int))/\w.length≤100/\kvs.length≤1000 ∧
 ∀ob' G',Sub (du G p (.gen (gI (gX (addW kvs c w)) ob'))) G'->Q .aC G'
def Pc:ao:=zQ (ο 0) (ο 1) (sy (gf ["one","other"] [] (vV (ν (ο 3) (ν (ο 2) (ae)))) (mT 2 (eZ (hName 0) (eZ (hName 1) (mU)))) (eQ) (aq dy (ο 0) (ο 1))))
def IH:ao:=aX (bz (Bw (ο 0) (ο 1) (aq eY (fh (ν (eC (.int 0)) (ae))) (eL kv (ν (ο 2) (ae))))) (hName 3)) Pc
theorem Pb{A B:Gp}{p:ζ}{o:GO}(h:Sub A B):Sub (du A p o) (du B p o):=fun a u e=>by
 by_cases z:a=p
 ·subst z;rw[mF] at e ⊢;exact e
 ·rw[ny z] at e ⊢;exact h a u e
theorem Pa:∀ds G Q,xf ds G Q->IH (bo Q) (bD ["weights","met","weight","ahead"] ds) G:=by
 rintro ds G Q ⟨p,r,kvs,ob,c,w,rfl,hp,hr,hw,hk,q⟩;have hwl:(w.map D.int).length=w.length:=π ..;refine⟨⟨_,_,hp⟩,fun p0 G0 n0=>⟨_,n0.sub _ _ hr,_,n0.at_,⟨?_,?_⟩,?_,fun p1 G1 n1=>⟨gX kvs,ob,fb c,n1.sub _ _ (n0.sub _ _ hp),rfl,?_⟩⟩⟩
 ·rw[hwl];lia
 ·rw[hwl];lia
 ·rw[hwl,cB];exact av (show 1*w.length≤100 by lia) (by decide)
 rw[hwl,cB,HN] at n1;have s1:=n0.sub.trans n1.sub;have hsq:=Pd (kvs:=kvs) (c:=c) n1.at_;refine⟨_,_,hsq,s1 _ _ hr,?_⟩;rw[Al D.int D.int];generalize hA:fN kvs c (aj w.length 0)=a at hsq;refine⟨?_,?_⟩
 ·show ((a.zip w).map _).length≤au;rw[π,ib];exact da (by lia)
 refine nP (guard:=fun G'=>lM G' (m6 (gX kvs) (fb c) (.obj p1)) (a.map D.int)/\lM G' (.obj r) (w.map D.int)) (fun τ=>∃x y,τ=[x,y]) (fun p:Int×Int=>D.tup [D.int p.1,D.int p.2]) (fun _=>true) (fun p=>D.int (p.1+p.2)) (G:=G1) ⟨hsq,s1 _ _ hr⟩ (a.zip w) [] _ ⟨none,none,rfl⟩ ?_ ?_
 ·rintro⟨x,y⟩ hm τ K1 K2 ⟨_,_,rfl⟩ g1 g2;exact⟨rfl,fun _=>g1 rfl _ ⟨_,_,rfl⟩,nofun⟩
 intro p2 G2 n2;rw[filter_all,cX] at n2;have ez:((a.zip w).map fun p:Int×Int=>D.int (p.1+p.2))=(mJ a w).map D.int:=by
  unfold mJ;rw[←lJ,bV];rfl
 rw[ez] at n2;have s2:Sub G (pA G2 p2):=s1.trans n2.del;refine⟨_,n2.at_,gX kvs,ob,fb c,s2 _ _ hp,rfl,by unfold gX;rw[π];exact hk,fun ob'=>?_⟩;refine⟨_,Sub.refl _,q ob' _ ?_⟩;have e:xm (gX kvs) (fb c) (.eS ((mJ a w).map D.int))=gX (addW kvs c w):=by
  unfold addW;rw[hA];exact Pe kvs c (mJ a w)
 rw[e];exact Pb s2
def xc:fc:=fun ds G Q=>∃cs:List af,ds=[gY cs]/\(∀c∈cs,Valid c/\c.1≤1000)/\cs.length≤9/\∀p ob G',cw G p (.gen (gI (gX (i4 cs)) ob)) G'->Q (.obj p) G'
def O9:ao:=kf (cN (aq (CJ true) (ο 6) (eC .aC))) (qg (bx xf (ν (ο 3) (ν (ο 6) (ν (gf ["more","less"] [] (vV (ν (aq tT (fh (ν (eC (.int 0)) (ae))) (ο 5)) (ν (aq tT (ο 5) (fh (ν (eC (.int 0)) (ae)))) (ae)))) (mT 2 (eZ (hName 0) (eZ (hName 1) (mU)))) (eQ) (aq gb (ο 0) (ο 1))) (ae)))))) (fZ)
def O8:ao:=aX (bz (bx yk (ν (ο 4) (ν (ο 2) (ae)))) (hName 6)) O9
def IG:ao:=aX (qg (bx xf (ν (ο 3) (ν (ο 4) (ν (aq tT (ο 5) (fh (ν (eC (.int 0)) (ae)))) (ae)))))) O8
def O7:ao:=bz (ο 3) (hName 1)
def O6:ao:=aX (kr (ub (ο 1)) (mT 2 (eZ (hName 4) (eZ (hName 5) (mU)))) (IG)) O7
def IF:ao:=aX (bz (zf) (hName 3)) O6
def O5:ao:=dh (ο 1)
def O4:ao:=aX (kr (lg (ο 0)) (hName 2) (IF)) O5
def IE:ao:=aX (bz (Bx (ky (ν (eC (.int 1)) (ν (eC (.int 0)) (ae)))) (sy (fh (ν (eC (.int 1)) (ae))))) (hName 1)) O4
theorem ID{G0 G1 G2 G':Gp}{p:ζ}{o o':GO}(m:cw G0 p o G1)(s:Sub G1 G2)(h:Sub (du G2 p o') G'):cw G0 p o' G':=⟨m.aC,(Sub.tO (m.sub.trans s) m.aC).trans h,h _ _ mF⟩
theorem O3{D3:gg}{G0 G1:Gp}{x0 x1 x6:Option D}{pg:ζ}{ob:aK}{g:WK}{c:af}{q:af×List Int}(m:cw G0 pg (.gen (gI (gX g) ob)) G1)(hg:g.length≤900)(hq:q.2.length≤50)(vq:Valid q.1)(vc:Valid c)(bq:q.1.1<10^60)(bc:c.1≤1000)
  (hN:∀ob' G' x6',cw G0 pg (.gen (gI (gX (g9 c g q)) ob')) G'->D3.nx [x0,x1,some (cD c),some (.obj pg),some (cD q.1),some (vD q.2),x6'] G'):
  IG D3 [x0,x1,some (cD c),some (.obj pg),some (cD q.1),some (vD q.2),x6] G1:=by
 intro p0 G2 n0;refine⟨_,_,rfl,n0.at_,?_,fun r G3 n3=>⟨pg,r,g,ob,q.1,q.2++[(0:Int)],rfl,n3.sub _ _ (n0.sub _ _ m.at_),?_,?_,by lia,fun ob1 G4 s4=>?_⟩⟩
 ·rw[π];exact da (show q.2.length+1≤1000 by lia)
 ·rw[n3.at_,bM];rfl
 ·rw[Ω];show q.2.length+1≤100;lia
 have m4:=ID m (n0.sub.trans n3.sub) s4;have ha:=DV g q.1 (q.2++[(0:Int)]);refine⟨q.1,c,rfl,vq,vc,bq,jV bc (by decide),?_⟩;unfold g9 at hN;cases e:kT q.1 c with
 |none=>
  rw[e] at hN;exact⟨nofun,fun _=>hN _ _ _ m4⟩
 |some b=>
  rw[e] at hN;refine⟨fun _=>?_,nofun⟩;intro p5 G5 n5;refine⟨_,_,n5.at_,rfl,?_,fun r6 G6 n6=>?_⟩
  ·rw[π];exact da (show 1+q.2.length≤1000 by lia)
  intro p7 G7 n7;refine⟨_,_,rfl,n7.at_,?_,fun r8 G8 n8=>?_⟩
  ·rw[π];exact da (show q.2.length+1≤1000 by lia)
  have s8:Sub G4 G8:=(n5.sub.trans n6.sub).trans (n7.sub.trans n8.sub);have e6:G8 r6=some (.lst ((0::q.2).map D.int)):=n8.sub _ _ (n7.sub _ _ n6.at_);have e8:G8 r8=some (.lst ((q.2++[(0:Int)]).map D.int)):=by
   rw[n8.at_,bM];rfl
  refine⟨_,_,e6,e8,?_⟩;rw[Al D.int D.int];refine⟨?_,?_⟩
  ·show (((0::q.2).zip (q.2++[(0:Int)])).map _).length≤au;rw[π,ib,aB];exact da (by lia)
  refine nP (guard:=fun G'=>lM G' (.obj r6) ((0::q.2).map D.int)/\lM G' (.obj r8) ((q.2++[(0:Int)]).map D.int)) (fun τ=>∃x y,τ=[x,y]) (fun p:Int×Int=>D.tup [D.int p.1,D.int p.2]) (fun _=>true) (fun p=>D.int (p.1-p.2)) (G:=G8) ⟨e6,e8⟩ ((0::q.2).zip (q.2++[(0:Int)])) [] _ ⟨none,none,rfl⟩ ?_ ?_
  ·rintro⟨x,y⟩ hm τ K1 K2 ⟨_,_,rfl⟩ g1 g2;exact⟨rfl,fun _=>g1 rfl _ ⟨_,_,rfl⟩,nofun⟩
  intro r9 G9 n9;rw[filter_all,cX] at n9;have ez:(((0::q.2).zip (q.2++[(0:Int)])).map fun p:Int×Int=>D.int (p.1-p.2))=(km (0::q.2) (q.2++[(0:Int)])).map D.int:=by
   unfold km;rw[←lJ,bV];rfl
  rw[ez] at n9;refine⟨pg,r9,addW g q.1 (q.2++[(0:Int)]),ob1,b,km (0::q.2) (q.2++[(0:Int)]),rfl,n9.sub _ _ (s8 _ _ m4.at_),n9.at_,by rw[HY];lia,by lia,fun ob2 GA sA=>hN ob2 GA _ (ID m4 (s8.trans n9.sub) sA)⟩
theorem IC{n:Nat}(h:n≤9):(1000:Int)^n<10^60:=by
 have h1:1000^n≤1000^9:=cW (by decide) h;have h2:(((1000^n:Nat)):Int)≤((1000^9:Nat):Int):=uD.mpr h1;rw[Int.natCast_pow] at h2;exact jV h2 (by decide)
theorem O1(cs:List af)(c:af):i4 (cs++[c])=xP c (i4 cs):=by
 unfold i4;rw[List.foldl_append];rfl
theorem O0{D3:gg}{G G1:Gp}{x0 x3 x4 x5 x6:Option D}{p:ζ}{ob:aK}{done:List af}{c:af}(W:pB done (i4 done))(hl:done.length≤8)(hc:Valid c/\c.1≤1000)(m:cw G p (.gen (gI (gX (i4 done)) ob)) G1)
  (hN:∀p' ob' G' x3 x4 x5 x6,cw G p' (.gen (gI (gX (i4 (done++[c]))) ob')) G'->D3.nx [x0,some (.obj p'),some (cD c),x3,x4,x5,x6] G'):
  IF D3 [x0,some (.obj p),some (cD c),x3,x4,x5,x6] G1:=by
 intro pg obg Gg ng;have hB:(0:Int)≤1000^done.length:=rM (by decide);have hkl:(i4 done).length≤256:=av W.many (av (cW (by decide) hl) (by decide));refine⟨gX (i4 done),ob,ng.sub _ _ m.at_,?_⟩;have ei:(gX (i4 done)).map (fun q=>D.tup [tupI q.1,q.2])=(i4 done).map fun q=>D.tup [cD q.1,vD q.2]:=by
  unfold gX;rw[bV];rfl
 rw[ei];refine nS (fun ds τ G'=>∃(dn rs:WK) (obg':aK) (y4 y5 y6:Option D),dn++rs=i4 done/\ds=rs.map (fun q=>D.tup [cD q.1,vD q.2])/\τ=[x0,some (.obj p),some (cD c),some (.obj pg),y4,y5,y6]/\cw G1 pg (.gen (gI (gX (dn.foldl (g9 c) [])) obg')) G') (fun _ _ _ h=>?_) ?_ ?_ _ _ _ ⟨[],i4 done,obg,x4,x5,x6,rfl,rfl,rfl,ng⟩
 ·obtain⟨_,_,_,_,_,_,_,_,_,mm⟩:=h;exact mm.sub _ _ m.at_
 ·rintro d ds τ G2 N ⟨dn,rs,obg',y4,y5,y6,ek,e,rfl,mm⟩ hN2;cases rs with
  |nil=>cases e
  |cons q rs=>
   cases e;have hqm:q∈i4 done:=by rw[←ek];exact aV _ Γ
   have hdm:∀z∈dn,z∈i4 done:=fun z hz=>by rw[←ek];exact eG _ hz
   have hdl:dn.length≤256:=by
    have:=congrArg fe ek;rw[Ω] at this;lia
   obtain⟨_,_,_,t4⟩:=DT hc hB (kvs:=dn) (g:=[]) (fun z hz=>W.ok.len z (hdm z hz)) (fun z hz=>W.ok.val z (hdm z hz)) ⟨nofun,nofun,j8⟩;have t4:(dn.foldl (g9 c) []).length≤0+2*dn.length:=t4;have vq:=W.ok.val q hqm;have lq:=W.ok.len q hqm;refine⟨rfl,?_⟩;refine O3 mm (by lia) (by lia) vq.1 hc.1 (jV vq.2 (IC (by lia))) hc.2 fun ob' G' x6' m'=>hN2 _ _ ⟨dn++[q],rs,ob',_,_,_,by rw[dO];exact ek,rfl,rfl,?_⟩;rw[List.foldl_append];exact m'
 ·rintro τ G2 ⟨dn,rs,obg',y4,y5,y6,ek,e,rfl,mm⟩;have e0:rs=[]:=by
   cases rs with
   |nil=>rfl
   |cons z zs=>cases e
  subst e0;rw[bB] at ek;subst ek;refine hN pg obg' G2 _ _ _ _ ?_;rw[O1];exact⟨m.sub.of_none mm.aC,m.sub.trans mm.sub,mm.at_⟩
theorem OZ:∀ds G Q,xc ds G Q->IE (bo Q) (bD ["clocks","weights","clock","grown","met","weight","both"] ds) G:=by
 rintro ds G Q ⟨cs,rfl,hc,hl,q⟩;intro p o0 G0 n0 p1 G1 n1;refine⟨_,n1.at_,[1,0],rfl,n1.del _ _ n0.at_,fun o'=>?_⟩;refine nS (fun ds τ G'=>∃(dn rs:List af) (p:ζ) (ob:aK) (x2 x3 x4 x5 x6:Option D),dn++rs=cs/\ds=rs.map cD/\τ=[some (gY cs),some (.obj p),x2,x3,x4,x5,x6]/\cw G p (.gen (gI (gX (i4 dn)) ob)) G') (fun _ _ _ _=>trivial) ?_ ?_ _ _ _ ⟨[],cs,p,o',_,_,_,_,_,rfl,rfl,rfl,n0.aC,Sub.tO (n0.sub.trans n1.del) n0.aC,mF⟩
 ·rintro d ds τ G2 N ⟨dn,rs,p,ob,x2,x3,x4,x5,x6,ek,e,rfl,m⟩ hN;cases rs with
  |nil=>cases e
  |cons c rs=>
   cases e;have hcm:c∈cs:=by rw[←ek];exact aV _ Γ
   have hdm:∀z∈dn,z∈cs:=fun z hz=>by rw[←ek];exact eG _ hz
   have hdl:dn.length≤8:=by
    have:=congrArg fe ek;rw[Ω,aB] at this;lia
   exact O0 (HW fun z hz=>hc z (hdm z hz)) hdl (hc c hcm) m fun p' ob' G' x3 x4 x5 x6 m'=>hN _ _ ⟨dn++[c],rs,p',ob',_,_,_,_,_,by rw[dO];exact ek,rfl,rfl,m'⟩
 ·rintro τ G2 ⟨dn,rs,p,ob,x2,x3,x4,x5,x6,ek,e,rfl,m⟩;have e0:rs=[]:=by
   cases rs with
   |nil=>rfl
   |cons z zs=>cases e
  subst e0;rw[bB] at ek;subst ek;exact fK (q p ob G2 m)
def xb:fc:=fun ds G Q=>∃(c:af) (b:Int),ds=[cD c,.int b]/\Valid c/\c.1<10^60/\0≤b/\Q (.int (ip c b)) G
def IB:ao:=dh (eL wY (ν (eC (.int 0)) (ν (aq dy (aq lO (aq gb (aq gb (ο 1) (aq dE (ο 0) (eC (.int 1)))) (eC (.int 1))) (aq dE (ο 0) (eC (.int 0)))) (eC (.int 1))) (ae))))
theorem Iz{c:af}{b:Int}(h:Valid c)(hb:0≤b):0≤ip c b:=by
 have h1:=h.1;have h2:=h.2.2;have:(-1:Int)≤(b-c.2-1) / c.1:=Int.le_ediv_of_mul_le h1 (by lia);unfold ip;lia
theorem OY:∀ds G Q,xb ds G Q->IB (bo Q) (bD ["clock","bound"] ds) G:=by
 rintro ds G Q ⟨c,b,rfl,hv,h1,h0,q⟩;have hp:=hv.1;have h2:=hv.2.1;have h3:=hv.2.2;have hr:=Iz hv h0;refine⟨_,rfl,_,rfl,⟨hp,ff (by lia) (by lia)⟩,?_⟩;have e:(if ip c b > 0 then ip c b else 0)=ip c b:=by
  split<;>lia
 show (bo Q).rt (.int (if ip c b > 0 then ip c b else 0)) G;rw[e];exact fK q
theorem Iy{α:Type}(f:α->Int):∀xs:List α,intsOf (xs.map fun x=>D.int (f x))=some (xs.map f)
 |[]=>rfl
 |x::xs=>by
  show intsOf (D.int (f x)::xs.map fun x=>D.int (f x))=_;simp only[intsOf,Iy f xs];rfl
theorem OX{c:af}{b:Nat}(h:Valid c)(hb:b<10^60):gh (ip c b):=by
 have h0:=Iz h (eX b);have:ip c b≤b+1:=by
  unfold ip;have h1:=h.1;have h2:=h.2.1;have:(((b:Nat):Int)-c.2-1) / c.1≤b:=by
   by_cases hn:0≤((b:Nat):Int)-c.2-1
   ·exact gR (Int.ediv_le_self _ hn) (by lia)
   ·exact gR (Int.le_of_lt (Int.ediv_neg_of_neg_of_pos (by lia) h1)) (eX _)
  lia
 have hb':((b:Nat):Int)<10^60:=by exact_mod_cast hb
 exact ff (by lia) (by lia)
theorem PB{cs:List af}{kvs:WK}(W:pB cs kvs)(hl:cs.length≤9){q:af×List Int}(hq:q∈kvs)(j:Nat):gh (q.2.getD j 0):=by
 have h1:=PV q.2 j;have h2:=PU hq;have h3:=W.abs;have h4:3^cs.length≤3^9:=cW (by decide) hl;have h5:(3:Nat)^9=19683:=by decide
 exact ff (by lia) (by lia)
end My
namespace My
open PySem L2 L3
def wR(cs:List af)(b:Nat):List Int:=(aA (cs.length+1)).map fun j=>((dR cs j b:Nat):Int)
def jJ(n:Nat)(kvs:WK)(b:Nat):List Int:=(aA (n+1)).map fun j=>tW kvs j b
theorem Dc(n:Nat)(kvs:WK)(b:Nat):(jJ n kvs b).length=n+1:=by
 unfold jJ;rw[π,cb]
theorem Pz(kvs:WK)(q:af×List Int)(j:Nat)(b:Int):tW (kvs++[q]) j b=tW kvs j b+q.2.getD j 0*ip q.1 b:=by
 unfold tW;rw[bM,jz];simp
theorem Py{n:Nat}(kvs:WK){q:af×List Int}(hq:q.2.length=n+1)(b:Nat):((jJ n kvs b).zip q.2).map (fun p:Int×Int=>p.1+ip q.1 b*p.2)=jJ n (kvs++[q]) b:=by
 refine iz fun j=>?_;by_cases hj:j<n+1
 ·have hz:((jJ n kvs b).zip q.2)[j]?=some (tW kvs j b,q.2[j]'(by lia)):=by
   rw[oP];refine⟨?_,aw _⟩;unfold jJ;rw[aE,fF hj];rfl
  rw[aE,hz];unfold jJ;rw[aE,fF hj];show some (tW kvs j b+ip q.1 b*q.2[j]'(by lia))=some (tW (kvs++[q]) j b);rw[Pz,bw,aw (by lia),dH];rfl
 ·rw[dw (by rw[π,ib,Dc];lia),dw (by rw[Dc];lia)]
theorem Px(n b:Nat):jJ n [] b=aj (n+1) 0:=by
 unfold jJ;refine iz fun j=>?_;rw[aE,fA];by_cases hj:j<n+1
 ·rw[fF hj,if_pos hj];rfl
 ·rw[dw (by rw[cb];lia),if_neg hj];rfl
theorem Pw{cs:List af}(W:pB cs (i4 cs))(b:Nat):jJ cs.length (i4 cs) b=wR cs b:=by
 unfold jJ wR;refine eN fun j _=>?_;exact PK W j b
theorem Pu{cs:List af}{kvs:WK}(W:pB cs kvs)(hl:cs.length≤9){q:af×List Int}(hq:q∈kvs){y:Int}(hy:y∈q.2):gh y:=by
 obtain⟨j,hj,e⟩:=tI hy;have:=PB W hl hq j;rw[bw,aw hj,e] at this;exact this
def Pt:ao:=bz (gf ["counted","part"] [5] (vV (ν (ο 2) (ν (ο 4) (ae)))) (mT 2 (eZ (hName 0) (eZ (hName 1) (mU)))) (eQ) (aq dy (ο 0) (aq eY (ο 2) (ο 1)))) (hName 2)
def Pr:ao:=aX (bz (bx xb (ν (ο 3) (ν (ο 1) (ae)))) (hName 5)) Pt
def Pq:ao:=dh (ο 2)
def Pp:ao:=aX (kr (ub (bx xc (ν (ο 0) (ae)))) (mT 2 (eZ (hName 3) (eZ (hName 4) (mU)))) (Pr)) Pq
theorem OM{Q:V3}{G G1:Gp}{cs:List af}{b:Nat}{p0:ζ}{x3 x4 x5:Option D}(hc:∀c∈cs,Valid c/\c.1≤1000)(hl:cs.length≤9)(hb:b<10^60)(m0:cw G p0 (.lst ((aj (cs.length+1) (0:Int)).map D.int)) G1)
  (q:∀p G',cw G p (.lst ((wR cs b).map D.int)) G'->Q (.obj p) G'):Pp (bo Q) [some (gY cs),some (.int b),some (.obj p0),x3,x4,x5] G1:=by
 have W:=HW hc;refine⟨cs,rfl,hc,hl,fun pw ob G2 n2=>⟨gX (i4 cs),ob,n2.at_,?_⟩⟩;have ei:(gX (i4 cs)).map (fun q=>D.tup [tupI q.1,q.2])=(i4 cs).map fun q=>D.tup [cD q.1,vD q.2]:=by
  unfold gX;rw[bV];rfl
 rw[ei];refine nS (fun ds τ G'=>∃(dn rs:WK) (pt:ζ) (y3 y4 y5:Option D),dn++rs=i4 cs/\ds=rs.map (fun q=>D.tup [cD q.1,vD q.2])/\τ=[some (gY cs),some (.int b),some (.obj pt),y3,y4,y5]/\cw G pt (.lst ((jJ cs.length dn b).map D.int)) G'/\Sub G2 G') (fun _ _ _ h=>?_) ?_ ?_ _ _ _ ⟨[],i4 cs,p0,x3,x4,x5,rfl,rfl,rfl,?_,Sub.refl _⟩
 ·obtain⟨_,_,_,_,_,_,_,_,_,_,s⟩:=h;exact s _ _ n2.at_
 ·rintro d ds τ G3 N ⟨dn,rs,pt,y3,y4,y5,ek,ed,rfl,m,s⟩ hN;cases rs with
  |nil=>cases ed
  |cons e rs=>
   cases ed;have hem:e∈i4 cs:=by rw[←ek];exact aV _ Γ
   have ve:=W.ok.val e hem;have le:=W.ok.len e hem;refine⟨rfl,e.1,b,rfl,ve.1,jV ve.2 (IC hl),eX _,?_⟩;refine⟨_,_,m.at_,rfl,?_⟩;rw[Al D.int D.int];refine⟨?_,?_⟩
   ·show (((jJ cs.length dn b).zip e.2).map _).length≤au;rw[π,ib,Dc];exact da (by lia)
   refine nP (guard:=fun G'=>lM G' (.obj pt) ((jJ cs.length dn b).map D.int)/\lM G' (vD e.2) (e.2.map D.int)) (fun τ=>∃x y,τ=[x,y,some (.int (ip e.1 b))]) (fun p:Int×Int=>D.tup [D.int p.1,D.int p.2]) (fun _=>true) (fun p=>D.int (p.1+ip e.1 b*p.2)) (G:=G3) ⟨m.at_,rfl⟩ ((jJ cs.length dn b).zip e.2) [] _ ⟨none,none,rfl⟩ ?_ ?_
   ·rintro⟨x,y⟩ hm τ K1 K2 ⟨_,_,rfl⟩ g1 g2;exact⟨rfl,fun _=>⟨⟨OX ve.1 hb,Pu W hl hem (fm hm).2⟩,g1 rfl _ ⟨_,_,rfl⟩⟩,nofun⟩
   ·intro p4 G4 n4;rw[filter_all,cX] at n4;have ez:(((jJ cs.length dn b).zip e.2).map fun p:Int×Int=>D.int (p.1+ip e.1 b*p.2))=(jJ cs.length (dn++[e]) b).map D.int:=by
     rw[←Py dn le b,bV];rfl
    rw[ez] at n4;exact hN _ _ ⟨dn++[e],rs,p4,_,_,_,by rw[dO];exact ek,rfl,rfl,⟨m.sub.of_none n4.aC,m.sub.trans n4.sub,n4.at_⟩,s.trans n4.sub⟩
 ·rintro τ G3 ⟨dn,rs,pt,y3,y4,y5,ek,e,rfl,m,s⟩;have e0:rs=[]:=by
   cases rs with
   |nil=>rfl
   |cons z zs=>cases e
  subst e0;rw[bB] at ek;subst ek;rw[Pw W] at m;exact fK (q pt G3 m)
 ·rw[Px];exact⟨m0.aC,m0.sub.trans n2.sub,n2.sub _ _ m0.at_⟩
end My
namespace L2
open PySem
open Sem (wp)
section
variable {prog:ah} {w:ax} {A:aL} {E:ε->θ->Prop} {h:Φ} {g:Array GenState} {d:Drawn} {t:Nat} {os:OsState}
variable {nm q:ξ} {C N:ζ} {bs bm bmB:List ε} {hdct:Bool} {sn:List ξ} {sub:List ε} {ab:Bool} {col:Option Bool} {dd:Option ζ} {k0 k1 k2 k3 k5:Option ε} {B newId initId:String}
def gd(h:Φ)(C:ζ)(rest:List ε):Φ:=(h.push { cls:=.type "tuple",data:=.seq rest.toArray }).push { cls:=.ref C,data:=.fields #[.ref h.objs.size,.none,.none,.none,.bool false,.none]}
theorem OL(F:ExcBaseFacts B newId initId bmB)(T:OwnTail h bmB bm){mN:ξ->Option ε}{rest:List ε}{f:ζ}{of:aK}{Q:Fin->θ->Prop}
  (hC:h.get? C=some (excClassObj nm q C N bs bm hdct sn sub ab col dd k0 k1 k2 k3 k5 newId)) (hn:h.Ns N mN) (hni:mN "__init__" = some (.ref f)) (hf:h.get? f=some of) (hfc:of.cls=.type "function")
  (hq:iG (model prog w) A (.call (.ref f) ⟨.ref (h.objs.size+1)::rest,[]⟩) (fun r s'=>match r with
   |.ok (.ret v)=>v=.none/\Q (.done (.ret (.ref (h.objs.size+1)))) s'
   |.ok _=>False
   | .error e=>E e s') ⟨gd h C rest,g,d,t,os⟩) (hrest:rest.length≤au:=by size_fits):
  ρ (model prog w) A (df.«type.__call__» ⟨.ref C::rest,[]⟩) Q E ⟨h,g,d,t,os⟩:=by
 repeat (first|with_reducible refine fx hC ?_|with_reducible refine wpAny_madeBy_exc hC ?_|wp_step)
 refine codeAny_call_builtin_code (nL _ F.quiet) (wpAny_check_new_subT F T hC ?_);refine codeAny_exc_new_subT F T hC ?_ hrest;show ρ _ _ _ _ _ _;have hC₁:=μ { cls:=.ref C,data:=.fields #[.ref h.objs.size,.none,.none,.none,.bool false,.none]}
  (μ { cls:=.type "tuple",data:=.seq rest.toArray } hC)
 have hf₁:=μ { cls:=.ref C,data:=.fields #[.ref h.objs.size,.none,.none,.none,.bool false,.none]}
  (μ { cls:=.type "tuple",data:=.seq rest.toArray } hf)
 have hn₁:((h.push { cls:=.type "tuple",data:=.seq rest.toArray }).push { cls:=.ref C,data:=.fields #[.ref h.objs.size,.none,.none,.none,.bool false,.none]}).Ns N mN:=
  let ⟨o,es,ep,e,r⟩:=hn;⟨o,es,ep,μ _ (μ _ e),r⟩
 have hget:((h.push { cls:=.type "tuple",data:=.seq rest.toArray }).push
   { cls:=.ref C,data:=.fields #[.ref h.objs.size,.none,.none,.none,.bool false,.none]}).get? (h.objs.size+1)=some
   { cls:=.ref C,data:=.fields #[.ref h.objs.size,.none,.none,.none,.bool false,.none]}:=by heap_get
 have hcC:(aF C::bm).contains (.ref C)=true:=by simp
 have T₁:=T.keeps (h':=(h.push { cls:=.type "tuple",data:=.seq rest.toArray }).push { cls:=.ref C,data:=.fields #[.ref h.objs.size,.none,.none,.none,.bool false,.none]})
  fun b o e=>μ _ (μ _ e)
 unfold isInstance
 repeat (first|with_reducible refine fx hget ?_|(with_reducible refine jo hC₁ ?_;rw[hcC])|wp_step)
 show ρ _ _ (typeLookup (.ref C) _) _ _ _;refine wpAny_typeLookup_tail hC₁ hn₁ T₁ F.mroIs F.init.lookup ?_;rw[hni];refine bO (δ (wpAny_bindSpecial_def hf₁ hfc ?_));refine δ (iT (fS hq fun r s' hr=>?_));cases r with
 |error e=>exact hr
 |ok fl=>
  cases fl with
  |ret v=>
   obtain⟨rfl,hr⟩:=hr;refine ι ?_;show ρ _ _ (ret (aF (h.objs.size+1))) _ _ _;exact ι hr
  |next=>exact hr.elim
  |brk=>exact hr.elim
  |cont=>exact hr.elim
theorem OK(F:ExcBaseFacts B newId initId bmB)(T:OwnTail h bmB bm){mN:ξ->Option ε}{rest:List ε}{f:ζ}{of:aK}{Q:ε->θ->Prop}
  (hC:h.get? C=some (excClassObj nm q C N bs bm hdct sn sub ab col dd k0 k1 k2 k3 k5 newId)) (hn:h.Ns N mN) (hni:mN "__init__" = some (.ref f)) (hf:h.get? f=some of) (hfc:of.cls=.type "function")
  (hq:iG (model prog w) (A.under (.builtin "type.__call__" ⟨.ref C::rest,[]⟩)) (.call (.ref f) ⟨.ref (h.objs.size+1)::rest,[]⟩) (fun r s'=>match r with
   |.ok (.ret v)=>v=.none/\Q (.ref (h.objs.size+1)) s'
   |.ok _=>False
   | .error e=>E e s') ⟨gd h C rest,g,d,t,os⟩) (hrest:rest.length≤au:=by size_fits):
  ρ (model prog w) A (call (.ref C) rest) Q E ⟨h,g,d,t,os⟩:=by
 have f1:=tc_lookup;have f2:=tc_bind (.ref C);have hT:(⟨h,g,d,t,os⟩:θ).TypeIs (.ref C) "type":=⟨_,hC,rfl⟩;refine iT (qm ?_);show ρ _ _ (callAny (.ref C) _) _ _ _
 repeat (any_goals (first|assumption|with_reducible refine fx hC ?_|wp_step))
 refine⟨rfl,?_⟩;refine codeAny_call_builtin_at (nL _ (by decide +kernel)) entry_typeCall (wpAny_check_type_call_sub hC ?_);refine OL F T hC hn hni hf hfc (fS hq fun r s' hr=>?_) hrest;cases r with
 |error e=>exact hr
 |ok fl=>
  cases fl with
  |ret v=>exact hr
  |next=>exact hr.elim
  |brk=>exact hr.elim
  |cont=>exact hr.elim
end
end L2
namespace L2
open PySem
open Sem (wp)
structure oU(base h:Φ)(e T:ζ)(cls:ε)(dx:Option ζ):Prop where
 obj:∃oe vs,h.get? e=some oe/\oe.cls=cls/\oe.dict=dx/\oe.data=.fields vs/\vs[1]?=some (.ref T)/\vs[2]?=some .none
 fresh:base.get? T=none
 ne:T≠e
 ent:∃oT ts,h.get? T=some oT/\oT.data=.fields ts/\ts[3]?=some .none
structure sJ(base:Φ)(l:List dm)(e T₀:ζ)(cls:ε)(dx:Option ζ)(h h':Φ):Prop where
 stays:base.StaysIn h'
 lW:h'.FunFrames base l
 xZ:∃T,oU base h' e T cls dx/\h.get? T=none
 keep:∀b o,b≠e->b≠T₀->b∉fQ l->h.get? b=some o->h'.get? b=some o
 slot:∀b o,b∈fQ l->h.get? b=some o->∃sl,h'.get? b=some { o with slots:=sl }
section
variable {M:Model} {A:aL} {E:ε->θ->Prop} {s:θ}
theorem t8{base:Φ}{env:dm}{outer:List dm}{L e:ζ}{oe:aK}{vs:Array ε}{head:ε}{hadNext:Bool}{Q:Unit->θ->Prop}
  (lV:A.frames=some (env::outer)) (hl:s.heap.FunFrames base (env::outer)) (hf:env.frame=some L)
  (he:s.heap.get? e=some oe) (hkb:base.StaysIn s.heap) (hen:base.get? e=none) (hd:oe.data=.fields vs) (hsz:1<vs.size) (h2:vs[2]?=some .none)
  (h:∀h',sJ base (env::outer) e e oe.cls oe.dict s.heap h'->Q () { s with heap:=h' }):
  ρ M A (do let a ←frameOf env;let pl ←entryPlaceOf L hadNext;let b ←tN head a .none (rawInt L) .none pl;setField (.ref e) 1 b) (fun _ s'=>ρ M A (setFlight (.ref e) none) Q E s') E s:=by
 have hene:e∉(env::outer).filterMap (·.frame):=fun hm=>by
  obtain⟨_,o,ho,hnf⟩:=hl.mem hm;rw[he] at ho;injection ho with ho;subst ho;exact hnf vs hd
 refine δ (wpAny_frameOf_fun lV hl hf fun h₁ hs₁=>?_);refine δ (wpAny_entryPlaceOf fun pl hpl=>?_);unfold tN newFields;refine δ (bC ?_ (hpl.sizeOk5 _ _ _ _ _));have he₁:h₁.get? e=some oe:=(hs₁.2.1 e hene).trans he;have kb₁:base.StaysIn h₁:=fun b o hbo=>(hs₁.2.1 b fun hm=>by rw[(hl.mem hm).1] at hbo;cases hbo).trans (hkb b o hbo);have he₂:=μ (h:=h₁) { cls:=.type "traceback",dict:=none,data:=.fields ([head,.ref L,.none,rawInt L,.none]++(if pl.isEmpty then aj 6 aU else pl)).toArray } he₁;refine fI he₂ hd hsz ?_;have hTe:h₁.objs.size≠e:=eA (Θ he₁);have hd₃:=dC hd (·.setIfInBounds 1 (aF h₁.objs.size));have he₃:=cg (gs (·.setIfInBounds 1 (aF h₁.objs.size))) he₂ (eW hd₃);have hT₃:=(bH (h₁.push { cls:=.type "traceback",dict:=none,data:=.fields ([head,.ref L,.none,rawInt L,.none]++(if pl.isEmpty then aj 6 aU else pl)).toArray })
  (gs (·.setIfInBounds 1 (aF h₁.objs.size))) (de hTe)).trans (ag h₁ rfl)
 unfold setFlight;refine δ (bG he₃ hd₃ (x:=.ref h₁.objs.size) (by simp[hsz]) ?_);rw[if_pos (show (aF h₁.objs.size != aU)=true from by simp)];refine fI hT₃ rfl (by simp only[ψ,Ω,aB,fo]<;>lia) (h _ ?_)
 have keep:∀b o,b≠e->h₁.get? b=some o ->
   (((h₁.push { cls:=.type "traceback",dict:=none,data:=.fields ([head,.ref L,.none,rawInt L,.none]++(if pl.isEmpty then aj 6 aU else pl)).toArray }).update e (gs (·.setIfInBounds 1 (aF h₁.objs.size)))).update h₁.objs.size
    (gs (·.setIfInBounds 3 ((none:Option ζ).elim aU fun f=>rawInt f)))).get? b=some o:=fun b o hbe hb=>by
  have hbT:h₁.objs.size≠b:=eA (Θ hb);rw[bH _ _ hbT,bH _ _ (de hbe)];exact μ _ hb
 have noRecord:∀b o,s.heap.get? b=some o->(∀vs,o.data≠.fields vs)->b≠e:=fun b o hb hnf q=>by
  rw[q,he] at hb;injection hb with hb;subst hb;exact hnf vs hd
 refine⟨fun b o hbo=>keep b o (fun q=>by rw[q,hen] at hbo;cases hbo) (kb₁ b o hbo),hl.of_keeps fun b o hb hnf=>?_,⟨h₁.objs.size,⟨⟨_,_,?_,aK.cls_mapFields _ _,?_,hd₃,by simp[hsz],by rw[Array.getElem?_setIfInBounds_ne (by decide)];exact h2⟩,kb₁.fresh,hTe,_,_,cg _ hT₃ (eW (dC rfl _)),dC rfl _,by first|(simp;done)|(rcases hpl with rfl|⟨_,_,_,_,_,_,_,rfl⟩<;>simp)⟩,?_⟩,fun b o hbe _ hbf hb=>?_,fun b o hbf hb=>?_⟩
 ·obtain⟨sl,hs⟩:=hs₁.2.2 b o hb;exact⟨_,keep b _ (noRecord b o hb hnf) hs,rfl⟩
 ·rw[bH _ _ hTe];exact he₃
 ·obtain⟨c0,d0,dt0,s0⟩:=oe;cases dt0<;>rfl
 ·exact ft (by rw[hs₁.1];exact Ψ _)
 ·exact keep b o hbe ((hs₁.2.1 b hbf).trans hb)
 ·obtain⟨sl,hs⟩:=hs₁.2.2 b o hb;refine⟨sl,keep b _ (fun q=>?_) hs⟩;rw[q] at hbf;exact hene hbf
theorem OJ{base:Φ}{env:dm}{outer:List dm}{L e:ζ}{oe:aK}{vs:Array ε}{Q:Unit->θ->Prop}
  (lV:A.frames=some (env::outer)) (hl:s.heap.FunFrames base (env::outer)) (hf:env.frame=some L)
  (he:s.heap.get? e=some oe) (hkb:base.StaysIn s.heap) (hen:base.get? e=none) (hd:oe.data=.fields vs) (h1:vs[1]?=some .none) (h2:vs[2]?=some .none)
  (h:∀h',sJ base (env::outer) e e oe.cls oe.dict s.heap h'->Q () { s with heap:=h' }):ρ M A (leaving env (.ref e)) Q E s:=by
 unfold leaving noteFrame;simp only[hf];refine δ (δ (bG he hd h1 ?_));rw[if_neg (by decide)];exact t8 lV hl hf he hkb hen hd (aG.mp h1).1 h2 h
theorem OI{base:Φ}{env:dm}{outer:List dm}{L e T:ζ}{cls:ε}{dx:Option ζ}{Q:Unit->θ->Prop}
  (lV:A.frames=some (env::outer)) (hl:s.heap.FunFrames base (env::outer)) (hf:env.frame=some L) (ht:oU base s.heap e T cls dx) (hkb:base.StaysIn s.heap) (hen:base.get? e=none)
  (h:∀h',sJ base (env::outer) e T cls dx s.heap h'->Q () { s with heap:=h' }):ρ M A (leaving env (.ref e)) Q E s:=by
 obtain⟨⟨oe,vs,he,hcls,hdx,hd,h1,h2⟩,hnT,hTe,oT,ts,hT,hdT,h3⟩:=ht;subst hcls hdx;unfold leaving noteFrame;simp only[hf];refine δ (δ (bG he hd h1 ?_));rw[if_pos (show (aF T != aU)=true from by simp)];refine δ (bG hT hdT h3 ?_);rw[if_neg (show ¬((aU==rawInt L)=true) from by simp[rawInt])];refine δ (fI hT hdT (aG.mp h3).1 ?_);have other:∀b,b≠T->(s.heap.update T (gs (·.setIfInBounds 3 aU))).get? b=s.heap.get? b:=fun b hb=>bH _ _ (de hb);have noRecord:∀b o,s.heap.get? b=some o->(∀vs,o.data≠.fields vs)->b≠T:=fun b o hb hnf q=>by
  rw[q,hT] at hb;injection hb with hb;subst hb;exact hnf ts hdT
 have hTf:T∉fQ (env::outer):=fun hm=>by
  obtain⟨_,o,ho,hnf⟩:=hl.mem hm;rw[hT] at ho;injection ho with ho;subst ho;exact hnf ts hdT
 refine t8 lV (hl.of_keeps fun b o hb hnf=>⟨o,(other b (noRecord b o hb hnf)).trans hb,rfl⟩) hf ((other e (de hTe)).trans he)
  (fun b o hbo=>(other b fun q=>by rw[q,hnT] at hbo;cases hbo).trans (hkb b o hbo)) hen hd (aG.mp h1).1 h2
  fun h' ⟨x1,x2,⟨T',x3,x3'⟩,x4,x5⟩=>h h' ⟨x1,x2,⟨T',x3,?_⟩,fun b o hbe hbT hbf hb=>x4 b o hbe hbe hbf ((other b hbT).trans hb),fun b o hbf hb=>x5 b o hbf ((other b fun q=>hTf (q▸hbf)).trans hb)⟩
 by_cases hq:T'=T
 ·subst hq;obtain⟨o2,e2⟩:∃o2,(s.heap.update T' (gs (·.setIfInBounds 3 aU))).get? T'=some o2:=⟨_,cg _ hT (eW (dC hdT _))⟩;rw[e2] at x3';cases x3'
 ·rw[←other T' hq];exact x3'
end
end L2
namespace L2
open PySem PySem.Spec PyProof.Rows
def gJ(P:ah)(w:ax)(base:Φ):rj:=fun outer H s E ev s'=>∃(e T C:ζ) (dx:Option ζ) (H':Hp),ev=.ref e/\s'.os=s.os/\kc s'.gens/\Un (fQ outer) [] H H' s.heap s'.heap/\fD P w H' s'.heap ∧
 oU base s'.heap e T (.ref C) dx/\(H' e=none/\H' T=none)/\base.get? e=none/\(s.heap.get? e=none/\s.heap.get? T=none)/\E (.ref C) dx H'
theorem cH.there{P:ah}{w:ax}{H:Hp}{h:Φ}{a:ζ}{o:HO}(x:cH P w H h a o):∃ob,h.get? a=some ob:=by
 cases o with
 |lst xs=>obtain⟨_,_,_,_,e⟩:=x;exact⟨_,e⟩
 |tup xs=>obtain⟨_,_,_,ob,e,_⟩:=x;exact⟨_,e⟩
 |dK kvs=>obtain⟨_,_,_,_,o,_,_,e,_⟩:=x;exact⟨_,e⟩
 |dT kvs=>obtain⟨_,_,_,_,o,_,_,e,_⟩:=x;exact⟨_,e⟩
 |set S n=>obtain⟨o,_,_,_,e,_⟩:=x;exact⟨_,e⟩
 |ins C dx fs=>obtain⟨_,_,_,e,_⟩:=x;exact⟨_,e⟩
 |own y=>exact x
 |xd fs=>obtain⟨_,⟨_,_,_,e,_⟩,_⟩:=x;exact⟨_,e⟩
 |Cd lo hi=>obtain⟨_,_,_,e⟩:=x;exact⟨_,e⟩
 |eI ob u=>obtain⟨e,_⟩:=x;exact⟨_,e⟩
 |wb ps=>exact⟨_,(show h.get? a=some _ from x)⟩
 |met f y=>exact⟨_,(show h.get? a=some _ from x)⟩
 |ext φ=>exact x.2.1
section
variable {X:Cx} {pins:List (ζ×aK)} {σ:St} {H:Hp} {s:θ}
theorem Inv.left(I:Inv X pins σ H s)(hex:X.ex=[])(hst:X.stack=X.env::X.outer)(lV:X.env.frame=some X.env.locals){e T₀:ζ}{cls:ε}{dx:Option ζ}{h':Φ}(L:sJ X.base X.stack e T₀ cls dx s.heap h')
  (he:X.s₀.heap.get? e=none) (hT:X.s₀.heap.get? T₀=none) (hHe:H e=none) (hHT:H T₀=none):
  Un (fQ X.outer) [] X.H₀ H X.s₀.heap h'/\fD X.prog X.w H h':=by
 have hloc:X.s₀.heap.get? X.env.locals=none:=ft I.ok.above;have sub:∀b,b∈fQ X.stack->b=X.env.locals∨b∈fQ X.outer:=fun b hb=>aa.mp (I.tP b hb);have ne:∀{b c:ζ} {o:aK},X.s₀.heap.get? b=some o->X.s₀.heap.get? c=none->b≠c:=fun h1 h2 z=>by
  rw[z,h2] at h1;cases h1
 have mH:∀b:ζ,b∉X.ex:=fun b z=>by
  rw[hex] at z;cases z
 have supF:∀b,b∈fQ X.outer->b∈fQ X.stack:=fun b hb=>by
  rw[hst];unfold fQ;rw[fG,lV];exact Δ _ hb
 refine⟨⟨fun b o h1 h2 h3 _=>?_,fun b o h1 h2 h3 _=>?_,fun b o h1 h2 _=>I.base.free b o h1 h2 (mH b),fun b o h1 _=>?_,I.base.iB,I.base.kx,I.base.nO⟩,fun a o ha=>?_⟩
 ·have k1:=I.base.keep b o h1 h2 h3 (mH b);refine L.keep b o (ne h1 he) (ne h1 hT) (fun z=>?_) k1;rcases sub b z with z|z
  ·exact ne h1 hloc z
  ·exact h3 z
 ·obtain⟨sl,k1⟩:=I.base.slot b o h1 h2 h3 (mH b);obtain⟨sl',k2⟩:=L.slot b _ (supF b h3) k1;exact⟨sl',k2⟩
 ·obtain⟨o',k1⟩:=I.base.there b o h1 (mH b);by_cases hb:b∈fQ X.stack
  ·obtain⟨sl,k2⟩:=L.slot b o' hb k1;exact⟨_,k2⟩
  ·exact⟨o',L.keep b o' (ne h1 he) (ne h1 hT) hb k1⟩
 ·refine (I.bR a o ha).mK (fun b u hb q=>?_) (fun _ q=>q) fun _ _ q=>q;have hHb:H b≠none:=by
   rcases hb with rfl|hb
   ·rw[ha];simp
   ·rw[hb];simp
  exact L.keep b u (fun z=>hHb (z▸hHe)) (fun z=>hHb (z▸hHT)) (fun z=>hHb (I.lA b z)) q
theorem Inv.Zb(I:Inv X pins σ H s)(hex:X.ex=[])(hst:X.stack=X.env::X.outer)(lV:X.env.frame=some X.env.locals){e C:ζ}{oe:aK}{vs:Array ε}{E:XK}(he:s.heap.get? e=some oe)(hc:oe.cls=.ref C)(hd:oe.data=.fields vs)(h1:vs[1]?=some .none)(h2:vs[2]?=some .none)
  (h0:X.s₀.heap.get? e=none) (hHe:H e=none) (q:E (.ref C) oe.dict H) {R:ε->θ->Prop}:
  ρ (model X.prog X.w) X.A (leaving X.env (.ref e)) (fun _ s'=>gJ X.prog X.w X.base X.outer X.H₀ X.s₀ E (.ref e) s') R s:=by
 have hen:X.base.get? e=none:=by
  cases hq:X.base.get? e with
  |none=>rfl
  |some o=>
   have:=(I.ok.bs e o hq).1;rw[h0] at this;cases this
 refine OJ (base:=X.base) (by rw[I.ok.frames,hst]) (by rw[←hst];exact I.stack) lV he I.bk hen hd h1 h2 fun h' L=>?_;rw[←hst,hc] at L;obtain⟨u,ok⟩:=I.left hex hst lV L h0 h0 hHe hHe;obtain⟨T,tr,hT⟩:=L.xZ;have hTs:X.s₀.heap.get? T=none:=by
  cases hq:X.s₀.heap.get? T with
  |none=>rfl
  |some o=>
   obtain⟨o',e'⟩:=I.base.there T o hq (by rw[hex];simp);rw[hT] at e';cases e'
 have hHT:H T=none:=by
  cases hq:H T with
  |none=>rfl
  |some o=>
   obtain⟨ob,e'⟩:=cH.there (I.bR T o hq);rw[hT] at e';cases e'
 exact⟨e,T,C,oe.dict,H,rfl,I.os,I.bare,u,ok,tr,⟨hHe,hHT⟩,hen,⟨h0,hTs⟩,q⟩
theorem OH{E:XK}(hex:X.ex=[])(hst:X.stack=X.env::X.outer)(lV:X.env.frame=some X.env.locals)
  (YO:∀e s',ρ (model X.prog X.w) X.A (leaving X.env e) (fun _ s''=>gJ X.prog X.w X.base X.outer X.H₀ X.s₀ E e s'') (fun e' s''=>gJ X.prog X.w X.base X.outer X.H₀ X.s₀ E e' s'') s'->X.xe e s'):md (gJ X.prog X.w X.base) X E:=by
 intro pins σ H s ev s' I h;obtain⟨e,T,C,dx,H',rfl,os,bare,u,ok,tr,⟨hHe,hHT⟩,hen,⟨he0,hT0⟩,q⟩:=h;have I':Inv X pins σ H' s':=I.BP (ch:=[]) os u ok bare (fun b z=>absurd z (by simp));have s0:∀{b:ζ},s.heap.get? b=none->X.s₀.heap.get? b=none:=fun {b} hb=>by
  cases hq:X.s₀.heap.get? b with
  |none=>rfl
  |some o=>
   obtain⟨o',e'⟩:=I.base.there b o hq (by rw[hex];simp);rw[hb] at e';cases e'
 refine YO _ _ (OI (base:=X.base) (by rw[I.ok.frames,hst]) (by rw[←hst];exact I'.stack) lV tr I'.bk hen fun h' L=>?_);rw[←hst] at L;obtain⟨u',ok'⟩:=I'.left hex hst lV L (s0 he0) (s0 hT0) hHe hHT;obtain⟨T',tr',hT'⟩:=L.xZ;have hTs:X.s₀.heap.get? T'=none:=by
  cases hq:X.s₀.heap.get? T' with
  |none=>rfl
  |some o=>
   obtain⟨o',e'⟩:=I'.base.there T' o hq (by rw[hex];simp);rw[hT'] at e';cases e'
 have hHT':H' T'=none:=by
  cases hq:H' T' with
  |none=>rfl
  |some o=>
   obtain⟨ob,e'⟩:=cH.there (I'.bR T' o hq);rw[hT'] at e';cases e'
 exact⟨e,T',C,dx,H',rfl,I'.os,I'.bare,u',ok',tr',⟨hHe,hHT'⟩,hen,⟨s0 he0,hTs⟩,q⟩
theorem OG{P:ah}{w:ax}{K:η}{mg:ξ->Option ε}{base:Φ}{N:List ξ}{qual:ξ}{scope:dZ}{f:ζ}{cd:ε}{A:aL}{outer:List dm}{s:θ}{H:Hp}{E:XK}:
  md (gJ P w base) (iF (gJ P w base) P w K mg base N qual scope f cd A outer s H E) E:=OH rfl rfl rfl fun e s' h=>h
theorem OF{P:ah}{w:ax}{K:η}{mg:ξ->Option ε}{base:Φ}{N:List ξ}{qual:ξ}{scope:dZ}{f:ζ}{cd:ε}{A:aL}{outer:List dm}{s:θ}{H:Hp}{E:XK}:
  lG (model P w) (iF (gJ P w base) P w K mg base N qual scope f cd A outer s H E).A (iF (gJ P w base) P w K mg base N qual scope f cd A outer s H E).env (iF (gJ P w base) P w K mg base N qual scope f cd A outer s H E).xe:=lG.leaving
end
end L2
namespace L2
open PySem PySem.Spec PyProof.Rows
structure Body(X:Cx)(E:XK):Prop where
 ex:X.ex=[]
 st:X.stack=X.env::X.outer
 fr:X.env.frame=some X.env.locals
 xe:∀e s',ρ (model X.prog X.w) X.A (leaving X.env e) (fun _ s''=>gJ X.prog X.w X.base X.outer X.H₀ X.s₀ E e s'') (fun e' s''=>gJ X.prog X.w X.base X.outer X.H₀ X.s₀ E e' s'') s'->X.xe e s'
theorem OE{P:ah}{w:ax}{K:η}{mg:ξ->Option ε}{base:Φ}{N:List ξ}{qual:ξ}{scope:dZ}{f:ζ}{cd:ε}{A:aL}{outer:List dm}{s:θ}{H:Hp}{E:XK}:
  Body (iF (gJ P w base) P w K mg base N qual scope f cd A outer s H E) E:=⟨rfl,rfl,rfl,fun _ _ h=>h⟩
section
variable {X:Cx} {E:XK}
theorem Body.throw(B:Body X E){pins:List (ζ×aK)}{σ:St}{H:Hp}{s:θ}{e C:ζ}{oe:aK}{vs:Array ε}(I:Inv X pins σ H s)(he:s.heap.get? e=some oe)(hc:oe.cls=.ref C)(hd:oe.data=.fields vs)(h1:vs[1]?=some .none)(h2:vs[2]?=some .none)
  (h0:X.s₀.heap.get? e=none) (hHe:H e=none) (q:E (.ref C) oe.dict H):X.xe (.ref e) s:=B.xe _ _ (I.Zb B.ex B.st B.fr he hc hd h1 h2 h0 hHe q)
theorem Iw{pins:List (ζ×aK)}{σ:St}{H:Hp}{s:θ}(I:Inv X pins σ H s){e:ζ}(h:s.heap.get? e=none):H e=none:=by
 cases hq:H e with
 |none=>rfl
 |some o=>
  obtain⟨ob,e'⟩:=cH.there (I.bR e o hq);rw[h] at e';cases e'
theorem HC{pins:List (ζ×aK)}{σ:St}{H:Hp}{s:θ}(B:Body X E)(I:Inv X pins σ H s){e:ζ}(h:s.heap.get? e=none):X.s₀.heap.get? e=none:=by
 cases hq:X.s₀.heap.get? e with
 |none=>rfl
 |some o=>
  obtain⟨o',e'⟩:=I.base.there e o hq (by rw[B.ex];simp);rw[h] at e';cases e'
end
end L2
namespace L3
open PySem PySem.Spec PyProof.Rows L2
def lL:HO->Bool
 |.tup _=>true
 |.eI _ (.lst _)=>true
 |.eI _ (.tup _)=>true
 |.eI _ (.xd _)=>true
 |.eI _ (.ext _)=>true
 |_=>false
def hide(H:Hp):Hp:=fun a=>match H a with
 |some o=>if lL o then some o else none
 |none=>none
def joined(H H':Hp):Hp:=fun a=>match H a with
 |some o=>if lL o then H' a else some o
 |none=>H' a
section
variable {P:ah} {w:ax} {H H':Hp} {h h':Φ} {a b:ζ} {o:HO} {fs:List ζ}
theorem yh(e:H a=none):hide H a=none:=by simp[hide,e]
theorem qD(e:H a=some o)(v:lL o=true):hide H a=some o:=by simp[hide,e,v]
theorem HB(e:H a=some o)(v:lL o=false):hide H a=none:=by simp[hide,e,v]
theorem C9(e:hide H a=some o):H a=some o/\lL o=true:=by
 unfold hide at e;cases q:H a with
 |none=>simp[q] at e
 |some u=>
  simp only[q] at e;cases v:lL u with
  |true=>
   rw[v,if_pos rfl] at e;cases e;exact⟨rfl,v⟩
  |false=>
   rw[v] at e;simp at e
theorem yP(e:H a=none):joined H H' a=H' a:=by simp[joined,e]
theorem Ag(e:H a=some o)(v:lL o=true):joined H H' a=H' a:=by simp[joined,e,v]
theorem vH(e:H a=some o)(v:lL o=false):joined H H' a=some o:=by simp[joined,e,v]
theorem OD{H2:Hp}(v:lL o=true)(x:cH P w H h a o):cH P w H2 h a o:=by
 cases o with
 |tup xs=>obtain⟨z,its,r,p⟩:=x;exact⟨z,its,r,p⟩
 |eI ob u=>
  cases u with
  |lst xs=>obtain⟨e,z,its,n,r,p⟩:=x;exact⟨e,z,its,n,r,p⟩
  |tup xs=>obtain⟨e,z,its,r,p⟩:=x;exact⟨e,z,its,r,p⟩
  |xd fs=>obtain⟨e,mA,r,p⟩:=x;exact⟨e,mA,r,p⟩
  |ext φ=>exact x
  |_=>cases v
 |_=>cases v
theorem OC(ok:fD P w H h):fD P w (hide H) h:=fun a o e=>by
 obtain⟨e1,v⟩:=C9 e;exact OD v (ok a o e1)
variable (ok:fD P w H h) (hfs:∀b∈fs,H b=none) (u:Un fs [] (hide H) H' h h') (ok':fD P w H' h')
include ok u
theorem HA(e:H b=some o)(v:lL o=false):H' b=none:=by
 obtain⟨ob,q⟩:=cH.there (ok b o e);exact u.free b ob q (HB e v) (by simp)
theorem tV(e:H' b=some o):joined H H' b=some o:=by
 cases q:H b with
 |none=>rw[yP q];exact e
 |some x=>
  cases v:lL x with
  |true=>rw[Ag q v];exact e
  |false=>
   rw[HA ok u q v] at e;cases e
include hfs ok'
theorem C8:Un fs [] H (joined H H') h h'/\fD P w (joined H H') h':=by
 have kept:∀b x ob,H b=some x->lL x=false->h.get? b=some ob->h'.get? b=some ob:=fun b x ob e v q=>
  u.keep b ob q (HB e v) (fun z=>by rw[hfs b z] at e;cases e) (by simp)
 refine⟨⟨fun b ob q n h3 h4=>u.keep b ob q (yh n) h3 h4,fun b ob q n h3 h4=>u.slot b ob q (yh n) h3 h4,fun b ob q n h3=>by rw[yP n];exact u.free b ob q (yh n) h3,
  fun b ob q h3=>u.there b ob q h3,fun b xs e=>tV ok u (u.iB b xs (qD e rfl)),fun b ob x e=>?_,fun b ps e=>⟨#[],by rw[Array.append_empty];exact vH e rfl⟩⟩,fun b x e=>?_⟩
 ·cases v:lL (.eI ob x) with
  |true=>exact tV ok u (u.kx b ob x (qD e v))
  |false=>exact vH e v
 ·have mono:H' b=some x->cH P w (joined H H') h' b x:=fun z=>(ok' b x z).mK (fun _ _ _ q=>q) (fun c q=>tV ok u q) (fun c xs q=>tV ok u q);cases q:H b with
  |none=>
   rw[yP q] at e;exact mono e
  |some y=>
   cases v:lL y with
   |true=>
    rw[Ag q v] at e;exact mono e
   |false=>
    rw[vH q v] at e;obtain rfl:=aJ e;refine (ok b _ q).mK (fun c ob hc z=>?_) (fun c z=>vH z rfl) (fun c xs z=>tV ok u (u.iB c xs (qD z rfl)));rcases hc with rfl|hc
    ·exact kept _ _ _ q v z
    ·exact kept _ _ _ hc rfl z
end
section
variable {K:η} {H:Hp}
theorem cG.pq{a:ζ}{xs:List V}(h:cG K H a xs):cG K (hide H) a xs:=by
 rcases h with (h|⟨o,h⟩)|h
 ·exact .inl (.inl (qD h rfl))
 ·exact .inl (.inr ⟨o,qD h rfl⟩)
 ·exact .inr h
theorem oo.pq{a:ζ}{xs:List V}(h:oo K H a xs):oo K (hide H) a xs:=by
 rcases h with⟨o,h⟩|h
 ·exact .inl ⟨o,qD h rfl⟩
 ·exact .inr h
mutual
theorem Hv.pq:∀{d:D} {v:V},Hv K H d v->Hv K (hide H) d v
 |.aC,_,h=>by simpa [Hv] using h
 |.bl _,_,h=>by simpa [Hv] using h
 |.int _,_,h=>by simpa [Hv] using h
 |.str _,_,h=>by simpa [Hv] using h
 |.obj _,_,h=>by simpa [Hv] using h
 |.dc a,v,h=>by
  unfold Hv at h ⊢;obtain⟨e,ob,φ,q,c⟩:=h;exact⟨e,ob,φ,qD q rfl,c⟩
 |.tup ds,v,h=>by
  unfold Hv at h ⊢;obtain⟨a,vs,e,q,r⟩:=h;exact⟨a,vs,e,cG.pq q,aO.pq r⟩
 |.eS ds,v,h=>by
  unfold Hv at h ⊢;obtain⟨a,vs,e,q,r⟩:=h;exact⟨a,vs,e,oo.pq q,aO.pq r⟩
theorem aO.pq:∀{ds:List D} {vs:List V},aO K H ds vs->aO K (hide H) ds vs
 |[],_,h=>by simpa [aO] using h
 |d::ds,vs,h=>by
  unfold aO at h ⊢;obtain⟨v,r,e,q,z⟩:=h;exact⟨v,r,e,Hv.pq q,aO.pq z⟩
end
end
abbrev nz:Gp:=fun _=>none
def both(G1 G':Gp):Gp:=fun a=>match G1 a with
 |some o=>some o
 |none=>G' a
abbrev E3:=ξ->List (ξ×Int)->Prop
def dQ(K:η)(x:ξ)(C:ζ):Prop:=bt K aN x=some (some (.ref C))
def uo(H:Hp)(dx:Option ζ)(fs:List (ξ×Int)):Prop:=(dx=none/\fs=[])∨∃d o,dx=some d/\H d=some (.eI o (.xd (fs.map fun p=>(p.1,V.int p.2))))
def lT(K:η)(E:E3):XK:=fun cls dx H=>∃x C fs,cls=.ref C/\dQ K x C/\E x fs/\uo H dx fs
abbrev uk:=List D->V3->E3->Prop
def La(K:η)(sp:uk):Sp:=fun vs H Q E=>∃ds Q3 E',aO K H ds vs/\(∀a o,H a=some o->lL o=true)/\sp ds Q3 E'/\(∀v H' d G',Hv K H' d v->Step H nz H' G'->aT K G' H'->Q3 d G'->Q v H')/\∀cls dx H',lT K E' cls dx H'->E cls dx H'
abbrev wC(P:ah)(w:ax)(K:η)(mg:ξ->Option ε)(base:Φ)(k:Nat)(f:ζ)(fd:ay)(ps:List ξ)(sp:uk):Prop:=jn P w K mg base (gJ P w base) k f fd ps (La K sp)
structure Joins(G1 G' G2:Gp):Prop where
 old:Sub G1 G2
 new:Sub G' G2
 out:∀a,G' a≠none->G1 a=none
theorem Joins.cw{G1 G' G2:Gp}(j:Joins G1 G' G2){p:ζ}{o:GO}(h:G' p=some o):cw G1 p o G2:=⟨j.out p (by rw[h];simp),j.old,j.new p o h⟩
def nA(sp:uk)(E:E3)(t:dF):aP:=fun τ G Q=>t τ G fun ds G1=>sp ds (fun d G'=>∀G2,Joins G1 G' G2->Q d G2) E
section
variable {X:Cx} {k:Nat} {f:ζ} {fd:ay} {ps:List ξ} {sp:uk} {E:E3} {x:ξ} {p pos:aQ} {e:υ} {es:List υ} {t:dF}
theorem Hz{K:η}{P:ah}{w:ax}{fs:List ζ}{H H':Hp}{h h':Φ}{G1 G':Gp}{d:D}{v:V}(ok:fD P w H h)(hfs:∀b∈fs,H b=none)(u:Un fs [] (hide H) H' h h')(ok':fD P w H' h')
  (R1:aT K G1 H) (hv:Hv K H' d v) (S:Step (hide H) nz H' G') (R':aT K G' H'):
  Hv K (joined H H') d v/\Step H G1 (joined H H') (both G1 G')/\aT K (both G1 G') (joined H H')/\Joins G1 G' (both G1 G'):=by
 have E2:Ext H' (joined H H'):=⟨fun b xs e=>tV ok u e,fun b o x e=>tV ok u e⟩;have E1:Ext H (joined H H'):=by
  obtain⟨u2,_⟩:=C8 ok hfs u ok';exact⟨u2.iB,u2.kx⟩
 have outG:∀a,G' a≠none->H a=none:=fun a n=>by
  have z:hide H a=none:=S.new a rfl n;cases q:H a with
  |none=>rfl
  |some o=>
   cases v:lL o with
   |true=>rw[qD q v] at z;cases z
   |false=>
    have:=HA ok u q v;cases q':G' a with
    |none=>exact absurd q' n
    |some g=>
     obtain⟨o',z',_⟩:=(R' a g q').mut;rw[this] at z';cases z'
 have out1:∀a,G' a≠none->G1 a=none:=fun a n=>R1.free (outG a n);refine⟨hv.ext E2,⟨fun a o e n=>?_,fun a n=>?_,fun a n q=>?_⟩,fun a g e=>?_,⟨fun a o e=>by simp[both,e],fun a o e=>by simp[both,out1 a (by rw[e];simp),e],out1⟩⟩
 ·cases v:lL o with
  |true=>
   rw[Ag e v];exact S.fr a o (qD e v) rfl
  |false=>exact vH e v
 ·cases q:H a with
  |none=>exact absurd q n
  |some o=>
   cases v:lL o with
   |true=>
    rw[Ag q v];exact S.oi a (by rw[qD q v];simp)
   |false=>rw[vH q v];simp
 ·simp only[both,n] at q;exact outG a q
 ·cases q:G1 a with
  |some o=>
   simp only[both,q] at e;cases e;obtain⟨o',z,h1,h2⟩:=(R1 a g q).mut;have hv:lL o'=false:=by
    cases o' with
    |tup xs=>exact absurd rfl (h1 xs)
    |eI ob y=>exact absurd rfl (h2 ob y)
    |_=>rfl
   exact (R1 a g q).ext E1 (by rw[vH z hv,z])
  |none=>
   simp only[both,q] at e;have hn:=outG a (by rw[e];simp);exact (R' a g e).ext E2 (by rw[yP hn])
theorem OB(G1:Gp):both G1 nz=G1:=by
 funext a;unfold both;cases G1 a<;>rfl
theorem OA{H H':Hp}{fs:List ζ}{h h':Φ}(u:Un fs [] (hide H) H' h h'):Step (hide H) nz H' nz:=by
 have fr:∀a o,hide H a=some o->H' a=some o:=fun a o e=>by
  obtain⟨_,v⟩:=C9 e;cases o with
  |tup xs=>exact u.iB a xs e
  |eI ob y=>exact u.kx a ob y e
  |_=>cases v
 refine⟨fun a o e _=>fr a o e,fun a n=>?_,fun a _ q=>absurd rfl q⟩;cases q:hide H a with
 |none=>exact absurd q n
 |some o=>rw[fr a o q];simp
def A7(K:η)(E:E3)(H:Hp)(G:Gp):XK:=fun cls dx H'=>lT K E cls dx H'/\aT K G H'/\Step H G H' G
theorem gJ.mono{P:ah}{w:ax}{base:Φ}{outer:List dm}{H:Hp}{s s':θ}{E E':XK}{ev:ε}(h:gJ P w base outer H s E ev s')(m:∀cls dx H',E cls dx H'->E' cls dx H'):gJ P w base outer H s E' ev s':=by
 obtain⟨e,T,C,dx,H',a1,a2,a3,a4,a5,a6,a7,a8,a9,q⟩:=h;exact⟨e,T,C,dx,H',a1,a2,a3,a4,a5,a6,a7,a8,a9,m _ _ _ q⟩
theorem gJ.pq{P:ah}{w:ax}{K:η}{base:Φ}{outer:List dm}{H:Hp}{s s':θ}{G1:Gp}{ev:ε}(ok:fD P w H s.heap)(hfs:∀b∈fQ outer,H b=none)(R1:aT K G1 H)(h:gJ P w base outer (hide H) s (lT K E) ev s'):
  gJ P w base outer H s (A7 K E H G1) ev s':=by
 obtain⟨e,T,C,dx,H',rfl,os,bare,u,ok',tr,⟨hHe,hHT⟩,hen,⟨he0,hT0⟩,x,C',fs,ec,cn,q,dd⟩:=h;obtain⟨u2,ok2⟩:=C8 ok hfs u ok';obtain⟨_,z2,z3,_⟩:=Hz (G':=nz) (d:=.aC) (v:=.aC) ok hfs u ok' R1 (by simp[Hv]) (OA u) (fun _ _ e=>nomatch e);rw[OB] at z2 z3;have out:∀b,s.heap.get? b=none->H' b=none->joined H H' b=none:=fun b hb hn=>by
  cases hq:H b with
  |none=>rw[yP hq];exact hn
  |some o=>
   obtain⟨ob,e'⟩:=cH.there (ok b o hq);rw[hb] at e';cases e'
 refine⟨e,T,C,dx,joined H H',rfl,os,bare,u2,ok2,tr,⟨out _ he0 hHe,out _ hT0 hHT⟩,hen,⟨he0,hT0⟩,⟨x,C',fs,ec,cn,q,?_⟩,z3,z2⟩;rcases dd with⟨d1,d2⟩|⟨d,o,d1,d2⟩
 ·exact .inl ⟨d1,d2⟩
 ·exact .inr ⟨d,o,d1,tV ok u d2⟩
theorem Hy{pins:List (ζ×aK)}{σ:L2.St}{H:Hp}{s:θ}{Q:VK}{G1:Gp}{Q3:V3}{ds:List D}{us:List ε}{vs:List V}{XE:ε->θ->Prop}(F:wC X.prog X.w X.K X.mg X.base k f fd ps sp)(hr:eD k X.A)(hb:Binds X.K fd ps [])
  (hx:∀ev s',gJ X.prog X.w X.base X.stack H s (A7 X.K E H G1) ev s'->XE ev s')
  (I:Inv X pins σ H s) (r:bj vs us) (hd:aO X.K H ds vs) (R1:aT X.K G1 H) (h:sp ds (fun d G'=>∀G2,Joins G1 G' G2->Q3 d G2) E) (kk:∀v H' d G',Hv X.K H' d v->Step H G1 H' G'->aT X.K G' H'->Q3 d G'->Q v H'):
  ρ (model X.prog X.w) X.A (call (.ref f) us) (EP X pins σ Q) XE s:=by
 have hq:La X.K sp vs (hide H) (fun v H'=>∃d G',Hv X.K H' d v/\Step (hide H) nz H' G'/\aT X.K G' H'/\∀G2,Joins G1 G' G2->Q3 d G2) (lT X.K E):=
  ⟨ds,_,E,hd.pq,fun a o e=>(C9 e).2,h,fun v H' d G' a b c q=>⟨d,G',a,b,c,q⟩,fun _ _ _ z=>z⟩
 have hl:(us++[]).length=ps.length:=by rw[bB,←r.length];exact F.len _ _ _ _ hq
 have e0:v8 X.prog X.w X.K X.mg X.base X.A X.stack s (hide H):=⟨I.ok.frames,I.ok.mod,fun b o e=>⟨(I.bs b o e).1,yh (I.bs b o e).2⟩,av I.ok.ug I.sz,I.stack,fun b hb=>yh (I.lA b hb),OC I.bR,I.bare⟩;have hb':=hb s us I.ir hl;rw[bB] at hb';refine iT (fS (F.run X.A X.stack s (hide H) ⟨us,[]⟩ us vs _ (lT X.K E) hr e0 hb' r hq) fun r s' hq'=>?_);cases r with
 |error e=>exact hx e s' (gJ.pq I.bR I.lA R1 hq')
 |ok fl=>
  cases fl with
  |ret u=>
   obtain⟨v,H',os,bare,un,bR,rv,d,G',a,b,c,q⟩:=hq';obtain⟨un2,ok2⟩:=C8 I.bR I.lA un bR;obtain⟨z1,z2,z3,z4⟩:=Hz I.bR I.lA un bR R1 a b c;exact I.after ⟨v,joined H H',os,bare,un2,ok2,rv,kk v _ d _ z1 z2 z3 (q _ z4)⟩
  |next=>exact cC hq'
  |brk=>exact cC hq'
  |cont=>exact cC hq'
theorem Oz(F:wC X.prog X.w X.K X.mg X.base k f fd ps sp)(hr:eD k X.A)(hx:md (gJ X.prog X.w X.base) X (lT X.K E))(hm:X.mg x=some (.ref f))(hk:cp X.K (.ref f)=true)(hb:Binds X.K fd ps [])(ha:ki X (e::es) t)(hg:Gl X x:=by rfl)
  (hdb:(x==("__debug__":ξ))=false:=by decide) (he:notStar e=true:=by rfl) (hpl:es.all notStar=true:=by rfl):
  bS X (.Call (.Name x p) (e::es) [] pos) (nA sp E t):=by
 intro pins s σ H Q I ⟨τ,G,Q3,RS,RG,h,kk⟩;refine eV (vR I hg hm ?_ hdb);refine ia (h₀:=X.base) I.ok.mod.t9 hk (bN (ha pos pins s σ H (fun vs H1=>∃ds G1,aO X.K H1 ds vs/\Step H G H1 G1/\aT X.K G1 H1/\sp ds (fun d G'=>∀G2,Joins G1 G' G2->Q3 d G2) E) I
  ⟨τ,G,_,RS,RG,h,fun vs H1 ds G1 a b c q=>⟨ds,G1,a,b,c,q⟩⟩) fun us s1 ⟨vs,H1,I1,r,ds,G1,hd,S1,R1,q⟩=>⟨I1.ir,?_⟩) (gu he) (lC hpl)
 exact Hy F hr hb (fun ev s' h=>hx pins σ H1 s1 ev s' I1 (gJ.mono h fun _ _ _ z=>z.1)) I1 r hd R1 q fun v H' d G' a b c q=>kk v H' d G' a (S1.trans b) c q
end
section
variable {P:ah} {w:ax} {K:η} {mg:ξ->Option ε} {base:Φ}
theorem fnX{x qual:ξ}{st:aR}{f:ζ}{fd:ay}{N ps:List ξ}{k:Nat}{sp:uk}(F:eP K x qual st f fd)(S:bF N ps (Ξ st))(hN:ps.length≤N.length)(len:∀ds Q E,sp ds Q E->ds.length=ps.length)(tb:E3->ao)
  (hU:∀(cdv:ε) (A:aL) (outer:List dm) (s:θ) (H:Hp) (E:XK) (E':E3),eD k (A.deeper (envOfC qual (Ξ st) s.heap.objs.size f cdv))->(∀cls dx H',lT K E' cls dx H'->E cls dx H') ->
   jm (iF (gJ P w base) P w K mg base N qual (Ξ st) f cdv A outer s H E) (fu st) (tb E'))
  (sX:∀ds Q E,sp ds Q E->tb E (bo Q) (bD N ds) nz):wC P w K mg base (k+1) f fd ps sp:=by
 obtain⟨oc,od,kV,doc,pm,an,cdv,ct,osl,rfl,lk,iL⟩:=F.ex;refine Kl lk iL S (fun vs H Q E h=>?_) (fun A outer s H vs Q E hr h=>?_)
 ·obtain⟨ds,Q3,E',h1,_,h3,_⟩:=h;rw[←h1.length];exact len _ _ _ h3
 ·obtain⟨ds,Q3,E',h1,h2,h3,h4,h5⟩:=h;refine⟨_,hU cdv A outer s H E E' hr h5,bD N ds,nz,bo Q3,.start h1 ?_,(fun _ _ e=>nomatch e),sX _ _ _ h3,⟨?_,?_,?_,?_⟩⟩
  ·rw[←h1.length,len _ _ _ h3];exact hN
  ·exact fun τ σ G' H' a b c ⟨G0,s0,q⟩=>h4 _ H' .aC G0 (by simp[Hv]) (b.trans (.sub s0)) (c.sub s0) q
  ·exact fun τ σ G' H' a b c q=>q.elim
  ·exact fun τ σ G' H' a b c q=>q.elim
  ·exact fun d v G' H' a b c ⟨G0,s0,q⟩=>h4 _ H' d G0 a (b.trans (.sub s0)) (c.sub s0) q
end
theorem LR{P:ah}{w:ax}{K:η}{mg:ξ->Option ε}{base:Φ}{N:List ξ}{qual:ξ}{scope:dZ}{f:ζ}{cd:ε}{A:aL}{outer:List dm}{s:θ}{H:Hp}{E:XK}{E':E3}(h:∀cls dx H',lT K E' cls dx H'->E cls dx H'):
  md (gJ P w base) (iF (gJ P w base) P w K mg base N qual scope f cd A outer s H E) (lT K E'):=fun pins σ H1 s1 ev s' I q=>OG pins σ H1 s1 ev s' I (gJ.mono q h)
end L3
namespace L2
open PySem PySem.Spec PyProof.Rows
structure fz(k:Nat)(A:aL):Prop where
 dp:A.depth+3*k+5<recursionLimit
 un:A.units+16*k+200<cLine
theorem fz.mono{j k:Nat}{A:aL}(r:fz k A)(h:j≤k):fz j A:=⟨by have:=r.dp;lia,by have:=r.un;lia⟩
theorem fz.deeper{k:Nat}{A:aL}(r:fz (k+1) A)(env:dm):fz k (A.deeper env):=
 ⟨by have:=r.dp;show A.depth+1+3*k+5<_;lia,by have:=r.un;show A.units+3+16*k+200<_;lia⟩
theorem fz.depth{k:Nat}{A:aL}(r:fz k A):A.depth<recursionLimit:=by have:=r.dp;lia
theorem fz.units{k:Nat}{A:aL}(r:fz k A):A.units+64<cLine:=by have:=r.un;lia
theorem fz.mark{k:Nat}{A:aL}{v:Option ε}(r:fz k A):fz k (A.mark v):=⟨r.dp,r.un⟩
theorem eD.h{k:Nat}{A:aL}(r:eD k A):fz k A:=⟨r.dp,r.un⟩
structure oM(P:ah)(w:ax)(K:η)(mg:ξ->Option ε)(base:Φ)(k:Nat)(f:ζ)(fd:ay)(ps:List ξ)(sp:Sp):Prop where
 len:∀vs H Q E,sp vs H Q E->vs.length=ps.length
 run:∀(A:aL) (outer:List dm) (s:θ) (H:Hp) (args:Args) (us:List ε) (vs:List V) (Q:VK) (E:XK),fz k A->v8 P w K mg base A outer s H->oY s fd args (ps.zip us)->bj vs us->sp vs H Q E ->
  iG (model P w) A (.call (.ref f) args) (CR qk outer P w H s Q E) s
section
variable {P:ah} {w:ax} {K:η} {mg:ξ->Option ε} {base:Φ} {j k:Nat} {f:ζ} {fd:ay} {ps:List ξ} {sp:Sp}
theorem oM.calm(F:oM P w K mg base k f fd ps sp):jn P w K mg base qk k f fd ps sp:=⟨F.len,fun A outer s H args us vs Q E hr=>F.run A outer s H args us vs Q E hr.h⟩
theorem oM.mono(F:oM P w K mg base j f fd ps sp)(h:j≤k):oM P w K mg base k f fd ps sp:=⟨F.len,fun A outer s H args us vs Q E hr=>F.run A outer s H args us vs Q E (hr.mono h)⟩
end
def Cr(P:ah)(w:ax)(K:η)(mg:ξ->Option ε)(base:Φ)(N:List ξ)(qual:ξ)(scope:dZ)(f:ζ)(cd:ε)(A:aL)(outer:List dm)(s:θ)(H:Hp)(E:XK):Cx:=
 { iF qk P w K mg base N qual scope f cd A outer s H E with calm:=false,xe:=fun _ _=>False }
section
variable {P:ah} {w:ax} {K:η} {mg:ξ->Option ε} {base:Φ} {N:List ξ} {qual:ξ} {scope:dZ} {f:ζ} {cd:ε} {A:aL} {outer:List dm} {s s1:θ} {H H1:Hp} {E:XK} {pins:List (ζ×aK)} {σ:St}
theorem Inv.loud(I:Inv (iF qk P w K mg base N qual scope f cd { A with handled:=none } outer s H E) pins σ H1 s1)(hf:A.frames=some outer):Inv (Cr P w K mg base N qual scope f cd A outer s H E) pins σ H1 s1:=by
 obtain⟨ok,a1,a2,a3,a4,a5,a6,a7,a8,a9,a10⟩:=I;obtain⟨o1,o2,o3,o4,o5,o6,o7,o8,_,_,o11,o12,o13,o14,o15,o16,o17,o18⟩:=ok;exact⟨⟨o1,o2,o3,o4,o5,o6,o7,o8,(fun z=>nomatch z),sU hf,o11,o12,o13,o14,o15,o16,o17,o18⟩,a1,a2,a3,a4,a5,a6,a7,a8,a9,a10⟩
end
theorem Oy{P:ah}{w:ax}{K:η}{mg:ξ->Option ε}{base:Φ}{k:Nat}{x qual:ξ}{st:aR}{f:ζ}{fd:ay}{N ps:List ξ}{sp:Sp}(F:eP K x qual st f fd)(S:bF N ps (Ξ st))(len:∀vs H Q E,sp vs H Q E->vs.length=ps.length)
  (hU:∀(cdv:ε) (A:aL) (outer:List dm) (s:θ) (H:Hp) (vs:List V) (Q:VK) (E:XK),fz k (A.deeper (envOfC qual (Ξ st) s.heap.objs.size f cdv))->sp vs H Q E ->
   ∃t,nB (Cr P w K mg base N qual (Ξ st) f cdv A outer s H E) (fu st) t/\t { nx:=fun _ H'=>Q .aC H',rt:=Q } (start N vs) H):
  oM P w K mg base (k+1) f fd ps sp:=by
 obtain⟨oc,od,kV,doc,pm,an,cdv,ct,osl,rfl,lk,iL⟩:=F.ex;refine⟨len,fun A outer s H args us vs Q E hr e0 hb r uc=>?_⟩;have hl:=len _ _ _ _ uc;have KX:K.In s.heap:=e0.mod.t9.keeps fun b o e=>(e0.bs b o e).1;have lim:s.heap.NoLimit:=e0.mod.nolimit.keeps fun b o e=>(e0.bs b o e).1;have hkind:∀y∈ps.zip us,(Ξ st).names.lookup y.1=some .local∨((Ξ st).names.lookup y.1=some .cell/\((cellsFrom (s.heap.objs.size+1) (Ξ st).names []).lookup y.1).isSome=true):=fun⟨n,v⟩ hy=>by
  rcases S.par n (fm hy).1 with q|q
  ·exact .inl q
  ·exact .inr ⟨q,kM _ _ _ (.inl q)⟩
 refine lF hr.depth (KX _ _ lk) rfl S.co S.gen rfl (nG KX iL) (hb _ _ _ _ ?_);refine i9 S.kind hkind fun env he s1 x=>?_;subst he;refine⟨lim.keeps x.toInCall.keep,codeAny_func ?_⟩;obtain⟨t,ht,hq⟩:=hU cdv A outer s H vs Q E (hr.deeper _) uc;have e1:v8 P w K mg base { A with handled:=none } outer s H:=⟨e0.frames,e0.mod,e0.bs,e0.ug,e0.lW,e0.xB,e0.bR,e0.bare⟩;have I0:Inv (iF qk P w K mg base N qual (Ξ st) f cdv { A with handled:=none } outer s H E) [] (start N vs) H s1:=Km S rfl e1 hl r x;have I:=I0.loud (A:=A) e0.frames;refine cO (ht [] s1 (start N vs) H _ I hq) (fun fl s' hs=>?_) fun e s' hs=>hs.elim;have fin:∀{σ':St} {H':Hp} {v:V} {u:ε},Inv (Cr P w K mg base N qual (Ξ st) f cdv A outer s H E) [] σ' H' s'->RelV v u->Q v H'->CE outer P w H s Q u s':=
  fun {σ' H' v u} J rv q=>⟨v,H',J.os,J.bare,J.base,J.bR,rv,q⟩
 cases fl with
 |ret u=>
  obtain⟨v,σ',H',J,rv,q⟩:=hs;exact fin J rv q
 |next=>
  obtain⟨σ',H',J,q⟩:=hs;exact fin (v:=V.aC) (u:=aU) J rfl q
 |brk=>
  obtain⟨_,_,_,q⟩:=hs;exact cC q
 |cont=>
  obtain⟨_,_,_,q⟩:=hs;exact cC q
section
variable {X:Cx} {k:Nat} {f:ζ} {fd:ay} {ps:List ξ} {sp:Sp} {E:XK} {x:ξ} {p pos:aQ} {e:υ} {es:List υ} {t:TA}
theorem Ox{pins:List (ζ×aK)}{σ:St}{H:Hp}{s:θ}{Q:VK}{us:List ε}{vs:List V}(F:oM X.prog X.w X.K X.mg X.base k f fd ps sp)(hr:fz k X.A)(hb:Binds X.K fd ps [])
  (I:Inv X pins σ H s) (r:bj vs us) (h:sp vs H Q E):ρ (model X.prog X.w) X.A (call (.ref f) us) (EP X pins σ Q) X.xe s:=by
 have hl:(us++[]).length=ps.length:=by rw[bB,←r.length];exact F.len _ _ _ _ h
 have hb':=hb s us I.ir hl;rw[bB] at hb';refine iT (fS (F.run X.A X.stack s H ⟨us,[]⟩ us vs Q E hr I.Li hb' r h) fun r s' hq=>?_);cases r with
 |error e=>exact cC hq
 |ok fl=>
  cases fl with
  |ret u=>exact I.after hq
  |next=>exact cC hq
  |brk=>exact cC hq
  |cont=>exact cC hq
theorem Ow(F:oM X.prog X.w X.K X.mg X.base k f fd ps sp)(hr:fz k X.A)(hg:Gl X x)(hm:X.mg x=some (.ref f))(hk:cp X.K (.ref f)=true)(hb:Binds X.K fd ps [])
  (ha:PA X (e::es) t) (hdb:(x==("__debug__":ξ))=false:=by decide) (he:bW (e::es) X.env=(false,eval e X.env)::bW es X.env:=by rfl) (hpl:(backTo pos (bW es X.env)).any (·.1)=false:=by rfl):
  PE X (.Call (.Name x p) (e::es) [] pos) (zO sp [] E t):=by
 intro pins s σ H Q I h;refine eV (vR I hg hm ?_ hdb);refine ia (h₀:=X.base) I.ok.mod.t9 hk (bN (ha pos pins s σ H _ I h) fun us s1 ⟨vs,H1,I1,r,q⟩=>⟨I1.ir,?_⟩) he hpl;have q':sp (vs++[]) H1 Q E:=q;rw[bB] at q';exact Ox F hr hb I1 r q'
end
end L2
namespace L3
open PySem PySem.Spec PyProof.Rows L2
abbrev xw(P:ah)(w:ax)(K:η)(mg:ξ->Option ε)(base:Φ)(k:Nat)(f:ζ)(fd:ay)(ps:List ξ)(sp:fc):Prop:=oM P w K mg base k f fd ps (mZ K sp)
theorem Ov{X:Cx}{k:Nat}{f:ζ}{fd:ay}{ps:List ξ}{sp:fc}{x:ξ}{p pos:aQ}{e:υ}{es:List υ}{t:dF}(F:xw X.prog X.w X.K X.mg X.base k f fd ps sp)(hr:fz k X.A)(hm:X.mg x=some (.ref f))(hk:cp X.K (.ref f)=true)(hb:Binds X.K fd ps [])(ha:ki X (e::es) t)(hg:Gl X x:=by rfl)
  (hdb:(x==("__debug__":ξ))=false:=by decide) (he:notStar e=true:=by rfl) (hpl:es.all notStar=true:=by rfl):
  bS X (.Call (.Name x p) (e::es) [] pos) (bx sp t):=jG (Ow (E:=E0) F hr hg hm hk hb ha hdb (gu he) (lC hpl)) fun σ H Q h=>Kx h
theorem Yo{P:ah}{w:ax}{K:η}{mg:ξ->Option ε}{base:Φ}{x qual:ξ}{st:aR}{f:ζ}{fd:ay}{N ps:List ξ}{k:Nat}{sp:fc}(F:eP K x qual st f fd)(S:bF N ps (Ξ st))(hN:ps.length≤N.length)(len:∀ds G Q,sp ds G Q->ds.length=ps.length)(tb:ao)
  (hU:∀(cdv:ε) (A:aL) (outer:List dm) (s:θ) (H:Hp) (E:XK),fz k (A.deeper (envOfC qual (Ξ st) s.heap.objs.size f cdv)) ->
   jm (Cr P w K mg base N qual (Ξ st) f cdv A outer s H E) (fu st) tb)
  (sX:∀ds G Q,sp ds G Q->tb (bo Q) (bD N ds) G):xw P w K mg base (k+1) f fd ps sp:=by
 refine Oy F S (fun vs H Q E h=>?_) (fun cdv A outer s H vs Q E hr h=>?_)
 ·obtain⟨ds,G,Q3,h1,h2,h3,h4⟩:=h;rw[←h1.length];exact len _ _ _ h3
 ·obtain⟨ds,G,Q3,h1,h2,h3,h4⟩:=h;refine⟨_,hU cdv A outer s H E hr,bD N ds,G,bo Q3,.start h1 ?_,h2,sX _ _ _ h3,⟨?_,?_,?_,?_⟩⟩
  ·rw[←h1.length,len _ _ _ h3];exact hN
  ·exact fun τ σ G' H' a b c ⟨G0,s0,q⟩=>h4 _ H' .aC G0 (by simp[Hv]) (b.trans (.sub s0)) (c.sub s0) q
  ·exact fun τ σ G' H' a b c q=>q.elim
  ·exact fun τ σ G' H' a b c q=>q.elim
  ·exact fun d v G' H' a b c ⟨G0,s0,q⟩=>h4 _ H' d G0 a (b.trans (.sub s0)) (c.sub s0) q
end L3
namespace L3
open PySem PySem.Spec PyProof.Rows L2
abbrev zG:=S3->Gp->E3
abbrev zH:=zG->aP
abbrev uj:=zG->ao
def wF(X:Cx)(pins:List (ζ×aK))(H:Hp)(G:Gp)(KX:zG)(XE:ε->θ->Prop):Prop:=
 ∀(σ1:L2.St) (τ1:S3) (H1:Hp) (s1:θ) (G1:Gp) (ev:ε) (s':θ),Inv X pins σ1 H1 s1->eJ X.K τ1 σ1 H1->aT X.K G1 H1->Step H G H1 G1->gJ X.prog X.w X.base X.stack H1 s1 (A7 X.K (KX τ1 G1) H1 G1) ev s'->XE ev s'
theorem wF.step{X:Cx}{pins:List (ζ×aK)}{H H1:Hp}{G G1:Gp}{KX:zG}{XE:ε->θ->Prop}(x:wF X pins H G KX XE)(S:Step H G H1 G1):wF X pins H1 G1 KX XE:=
 fun σ1 τ1 H2 s2 G2 ev s' a b c d e=>x σ1 τ1 H2 s2 G2 ev s' a b c (S.trans d) e
def Lo(X:Cx)(e:υ)(t:zH):Prop:=
 ∀(pins:List (ζ×aK)) (s:θ) (σ:L2.St) (H:Hp) (Q:VK) (XE:ε->θ->Prop) (τ:S3) (G:Gp) (Q3:V3) (KX:zG),Inv X pins σ H s->eJ X.K τ σ H->aT X.K G H->t KX τ G Q3 ->
  (∀v H' d G',Hv X.K H' d v->Step H G H' G'->aT X.K G' H'->Q3 d G'->Q v H')->wF X pins H G KX XE->ρ (model X.prog X.w) X.A (eval e X.env) (EP X pins σ Q) XE s
def zI(X:Cx)(st:List aR)(t:uj):Prop:=
 ∀(pins:List (ζ×aK)) (s:θ) (σ:L2.St) (H:Hp) (D2:Ends) (XE:ε->θ->Prop) (τ:S3) (G:Gp) (D3:gg) (KX:zG),Inv X pins σ H s->eJ X.K τ σ H->aT X.K G H->t KX D3 τ G->oV X.K H G D3 D2->wF X pins H G KX XE ->
  ρ (model X.prog X.w) X.A (execs st X.env) (SP X pins D2) XE s
section
variable {X:Cx} {k:Nat} {f:ζ} {fd:ay} {ps:List ξ} {sp:uk} {x:ξ} {p pos:aQ} {a b e c:υ} {es:List υ} {t:dF} {te:aP} {tx:zH} {tax:TAX} {tc:cS} {ta tb tr:uj} {sa sb rest:List aR}
def zd(sp:uk)(t:dF):zH:=fun KX τ G Q=>t τ G fun ds G1=>sp ds (fun d G'=>∀G2,Joins G1 G' G2->Q d G2) (KX τ G1)
theorem Ou(F:wC X.prog X.w X.K X.mg X.base k f fd ps sp)(hr:eD k X.A)(hm:X.mg x=some (.ref f))(hk:cp X.K (.ref f)=true)(hb:Binds X.K fd ps [])(ha:ki X.mH (e::es) t)(hg:Gl X x:=by rfl)
  (hdb:(x==("__debug__":ξ))=false:=by decide) (he:notStar e=true:=by rfl) (hpl:es.all notStar=true:=by rfl):
  Lo X (.Call (.Name x p) (e::es) [] pos) (zd sp t):=by
 intro pins s σ H Q XE τ G Q3 KX I RS RG h kk xx;refine eV (vR I hg hm ?_ hdb);refine ia (h₀:=X.base) I.ok.mod.t9 hk (cO (ha pos pins s σ H (fun vs H1=>∃ds G1,aO X.K H1 ds vs/\Step H G H1 G1/\aT X.K G1 H1/\sp ds (fun d G'=>∀G2,Joins G1 G' G2->Q3 d G2) (KX τ G1)) (I.oZ _)
  ⟨τ,G,_,RS,RG,h,fun vs H1 ds G1 a b c q=>⟨ds,G1,a,b,c,q⟩⟩) (fun us s1 ⟨vs,H1,I1,r,ds,G1,hd,S1,R1,q⟩=>⟨I1.ir,?_⟩) fun _ _ z=>cC z) (gu he) (lC hpl)
 exact Hy F hr hb (fun ev s' h=>xx σ τ H1 s1 G1 ev s' I1.kD (RS.ext (S1.ext RG)) R1 S1 h) I1.kD r hd R1 q fun v H' d G' a b c q=>kk v H' d G' a (S1.trans b) c q
def yb(tx:zH)(tr:uj):uj:=fun KX D τ G=>tx KX τ G fun _ G1=>tr KX D τ G1
theorem Ot(h:Lo X e tx)(hr:zI X rest tr)(hs:swapsWith e none pos.line X.env=pure false:=by rfl):zI X (.Expr e pos::rest) (yb tx tr):=by
 intro pins s σ H D2 XE τ G D3 KX I RS RG ht EL xx;refine iS (wpAny_Expr_any (bN (h pins s σ H (fun v H1=>∃d G1,Hv X.K H1 d v/\Step H G H1 G1/\aT X.K G1 H1/\tr KX D3 τ G1) XE τ G _ KX I RS RG ht (fun v H' d G' a b c q=>⟨d,G',a,b,c,q⟩) xx) fun v s1 ⟨x,H1,I1,r1,d,G1,hd,S1,R1,q1⟩=>?_) I.quiet hs);exact hr pins s1 σ H1 D2 XE τ G1 D3 KX I1 (RS.ext (S1.ext RG)) R1 q1 (EL.step S1) (xx.step S1)
def ya:uj:=fun _ D τ G=>D.nx τ G
theorem Oq:zI X [] ya:=fun _ _ σ H D2 XE τ G D3 KX I RS RG h EL _=>gj ⟨σ,H,I,EL.nx τ σ G H RS (.refl H G) RG h⟩
end
end L3
namespace L2
open PySem PySem.Spec PyProof.Rows
open Builtin Builtin.ObjectAttr
open Sem (wp)
abbrev iA:List ε:=[.type "ValueError",.type "Exception",.type "BaseException",.type "object"]
def yc(es:Array jW):Bool:=es.toList.all fun e=>match e.key with
 |.str _ _=>true
 |_=>false
theorem Oo{es:Array jW}(h:yc es=true):StrKeys es:=fun e he=>by
 have:=iX.mp h e (by simpa using he);cases q:e.key with
 |str n t=>exact⟨n,t,rfl⟩
 |_=>rw[q] at this;cases this
def KW(K:η)(N:ζ)(init:Option ε):Bool:=match K.lookup N with
 |some ⟨_,_,.dict es _,_⟩=>yc es&&nsFind es "__init__" == init
 |_=>false
theorem Om{K:η}{h:Φ}{N:ζ}{init:Option ε}(X:K.In h)(e:KW K N init=true):∃m,h.Ns N m/\m "__init__" = init:=by
 unfold KW at e;split at e
 ·rename_i c d es ep sl ho;rw[cM] at e;exact⟨nsFind es,⟨_,es,ep,X _ _ ho,rfl,Oo e.1,fun _=>rfl⟩,beq_iff_eq.mp e.2⟩
 ·cases e
def excIn(K:η)(C:ζ)(bm:List ε)(init:Option ε)(newId:String):Bool:=match K.lookup C with
 | some ⟨.type "type",_,.cls cd,sl⟩=>(match cd.mro,sl.toList with
  |.ref C'::bm',[_,_,_,_,some (.builtin n),_]=>C'==C&&bm'==bm && !cd.hasDel&&cd.hasDict&&n==newId&&KW K cd.ns init
  | _,_=>false)
 |_=>false
theorem Af{K:η}{h:Φ}{C:ζ}{bm:List ε}{init:Option ε}{newId:String}(X:K.In h)(q:excIn K C bm init newId=true):∃nm qn N bs sn sub ab col dd k0 k1 k2 k3 k5 mN,
  h.get? C=some (excClassObj nm qn C N bs bm true sn sub ab col dd k0 k1 k2 k3 k5 newId)/\h.Ns N mN/\mN "__init__" = init:=by
 unfold excIn at q;split at q
 ·rename_i dd cd sl ho;split at q
  ·rename_i C' bm' k0 k1 k2 k3 n k5 hm hs;simp only[cM,beq_iff_eq,Bool.not_eq_true'] at q;obtain⟨⟨⟨⟨⟨rfl,rfl⟩,hdel⟩,hdct⟩,rfl⟩,hns⟩:=q;obtain⟨nm,bs,mro,ns,qn,hd,sn,sub,ab,col,del⟩:=cd;dsimp only at hm hdel hdct hns;subst hm hdel hdct;have hsl:sl = #[k0,k1,k2,k3,some (.builtin n),k5]:=by
    obtain⟨l⟩:=sl;simp only at hs;rw[hs]
   subst hsl;obtain⟨m,h1,h2⟩:=Om X hns;exact⟨nm,qn,ns,bs,sn,sub,ab,col,dd,k0,k1,k2,k3,k5,m,X _ _ ho,h1,h2⟩
  ·cases q
 ·cases q
structure wH(K:η)(C B:ζ)(init:Option ε):Prop where
 cls:excIn K C (.ref B::iA) init "ValueError.__new__" = true
 base:excIn K B iA none "ValueError.__new__" = true
theorem wH.own{K:η}{C B:ζ}{init:Option ε}(x:wH K C B init){h:Φ}(X:K.In h):∃nm qn N bs sn sub ab col dd k0 k1 k2 k3 k5 mN,
  h.get? C=some (excClassObj nm qn C N bs (.ref B::iA) true sn sub ab col dd k0 k1 k2 k3 k5 "ValueError.__new__")/\h.Ns N mN/\mN "__init__" = init/\OwnTail h iA (.ref B::iA):=by
 obtain⟨nm,qn,N,bs,sn,sub,ab,col,dd,k0,k1,k2,k3,k5,mN,h1,h2,h3⟩:=Af X x.cls;obtain⟨nm',qn',N',bs',sn',sub',ab',col',dd',k0',k1',k2',k3',k5',mN',h1',h2',h3'⟩:=Af X x.base;exact⟨nm,qn,N,bs,sn,sub,ab,col,dd,k0,k1,k2,k3,k5,mN,h1,h2,h3,.own h1' h2' h3' .base⟩
structure wG(K:η)(C B:ζ)(names:List ξ):Prop where
 sa:dM K (.ref C) "__setattr__" = some (some (.builtin "object.__setattr__"))
 obj:nW K C (.type "object")=some true
 mro:∃cd,jb K C=some cd/\cd.mro=.ref C::.ref B::iA/\cd.hasDict=true
 nm:∀n∈names,dM K (.ref C) n=some none
section
variable {prog:ah} {w:ax} {A:aL} {E:ε->θ->Prop} {s:θ} {K:η} {C B x:ζ} {names:List ξ} {name:ξ} {v:ε} {mA:ξ->Option ε}
theorem Ol{h:Φ}(I:h.Inst x C mA):∃ox od,mY h x ox C od:=by
 obtain⟨o,hx,hc,hnc,hd⟩:=I;have hn:j6 o=true:=by
  unfold j6;split
  ·rename_i c q;exact absurd q (hnc c)
  ·rfl
 rcases hd with⟨hd,_⟩|⟨d,hd,_,od,es,ep,wo,_⟩
 ·exact⟨o,none,hx,hc,hn,by rw[hd];trivial⟩
 ·exact⟨o,some od,hx,hc,hn,by rw[hd];exact wo⟩
theorem Oj{ns:List ξ}{Q:Unit->θ->Prop}(S:wG K C B names)(hn:name∈names)(X:K.In s.heap)(I:s.heap.Inst x C mA)(hw:Within mA ns)(hsz:ns.length≤1000)
  (hq:∀h' tk',h'.Inst x C (fun y=>if y=name then some v else mA y) ->
   (∀b o,b≠x->(∀o₀ dx,s.heap.get? x=some o₀->o₀.dict=some dx->b≠dx)->s.heap.get? b=some o->h'.get? b=some o) ->
   (∀o₀,s.heap.get? x=some o₀->∃o₁,h'.get? x=some o₁/\o₁.cls=o₀.cls/\o₁.data=o₀.data/\o₁.slots=o₀.slots/\(∀dx,o₀.dict=some dx->o₁.dict=some dx)/\(o₀.dict=none->o₁.dict=some s.heap.objs.size))->Q () { s with heap:=h',toks:=tk' }):
  ρ (model prog w) A (setAttr (.ref x) name v) Q E s:=by
 obtain⟨ox,od,IA⟩:=Ol I;obtain⟨cd,iL,hmro,hdct⟩:=S.mro;refine PySem.W.set_plain X IA S.sa ?_;have X':K.In ({ s with toks:=s.toks+1 }:θ).heap:=X;have IA':mY ({ s with toks:=s.toks+1 }:θ).heap x ox C od:=IA;have SF:=PySem.F.store_object;have sub:PySem.W.Looks (model prog w) ({ s with toks:=s.toks+1 }:θ).heap (isInstance (.ref x) (.type "object")) true:=IA'.type.andThen (PySem.W.looks_mroIn X' S.obj);have hm:PySem.W.Looks (model prog w) ({ s with toks:=s.toks+1 }:θ).heap (mroOf (.ref C)) cd.mro:=(tG X' iL).andThen .now;refine mj SF.slot.plain SF.entry (@PySem.W.check_slot (model prog w) _ _ { s with toks:=s.toks+1 } "object.__setattr__" "object" "__setattr__" (.ref x) [.str name s.toks,v] [] _ SF.kind SF.split sub (SF.args (.ref x) (.str name s.toks) v) ?_);rw[PySem.W.osa_eq,refuse_eq];refine δ (δ (IA'.type.here (δ (hm.here ?_))));rw[hmro,refuseLoop_ref,refuseLoop_ref,PySem.F.store_ValueError.passes];refine ι (δ (IA'.type.here (δ ((PySem.W.looks_findIn X' (S.nm name hn)).here (δ (ι ?_))))));obtain⟨o,hx,hc,hnc,hd⟩:=I;obtain⟨hp,g,dr,tk0,os⟩:=s;dsimp only at hx X IA hq hd X' IA';have LC:=tG (M:=model prog w) X' iL;obtain⟨oc,odi,oda,osl⟩:=o;dsimp only at hc hnc hd;subst hc;show ρ _ _ (storeInOwnDict (.ref x) (.ref C) (.str name tk0) name v false) _ _ _;refine δ (ι (δ (δ (wpAny_loadPart hx (δ (LC.here ?_))))));rw[hdct];rcases hd with⟨hdn,hmA⟩|⟨dx,hdx,cQ,hns⟩
 ·subst hdn;have hx₁:(hp.push { cls:=.type "dict",data:=.dict #[]}).get? x=some ⟨.ref C,none,oda,osl⟩:=μ _ hx;have hxs:x≠hp.objs.size:=bh (Θ hx);have hgd:((hp.push { cls:=.type "dict",data:=.dict #[]}).update x fun o=>{ o with dict:=some hp.objs.size }).get? hp.objs.size
     = some { cls:=.type "dict",data:=.dict #[]}:=
    (tM _ _ _ _ hxs.symm).trans (Φ.get?_push_at rfl rfl)
  have hnd:((hp.push { cls:=.type "dict",data:=.dict #[]}).update x fun o=>{ o with dict:=some hp.objs.size }).Ns hp.objs.size (fun _=>none):=
    ⟨_,#[],_,hgd,rfl,fun e he=>absurd he (by simp),fun _=>rfl⟩
  have core:ρ (model prog w) A.in1 (storeInDict hp.objs.size (.str name tk0) name v) (fun fin s'=>match fin with | .done f=>(match f with | .ret _=>Q () s' | _=>False) | .again c'=>False) (fun e s'=>E e s') ⟨(hp.push { cls:=.type "dict",data:=.dict #[]}).update x fun o=>{ o with dict:=some hp.objs.size },g,dr,tk0+1,os⟩:=by
   unfold storeInDict newKeyGuard;refine δ (ι (δ (wpAny_nsSet1 (Φ.Ns1.of_empty hnd) fun h' hn' hs=>?_)));obtain⟨oD,esD,epD,hoD,hdD,hcD⟩:=hn'.count (vm name v Within.nil);refine δ (wpAny_lookBehind hoD (by rw[hdD];exact pastItsLine_dict (av hcD (by rw[aB,fo,cq];lia))) ?_);refine ι ?_;have hx':h'.get? x=some ⟨.ref C,some hp.objs.size,oda,osl⟩:=by
    refine (hs.2 x hxs).trans (cg _ hx₁ ?_);have lV:=(Φ.get?_some_iff.mp hx).2;cases oda<;>first|rfl|exact lV
   refine hq h' _ ⟨_,hx',rfl,hnc,.inr ⟨hp.objs.size,rfl,hxs.symm,?_⟩⟩ (fun b ob hbx _ hb=>?_)
    (fun o₀ h₀=>by obtain rfl:=aJ (hx.symm.trans h₀);exact⟨_,hx',rfl,rfl,rfl,fun dx e=>(nomatch e),fun _=>rfl⟩)
   ·obtain⟨o',es,ep,e1,e2,e3,eu,e4⟩:=hn';exact⟨o',es,ep,e1,e2,e3,eu,fun y=>by rw[e4 y];by_cases hy:y=name<;>simp[hy,hmA]⟩
   ·exact (hs.2 b (bh (Θ hb))).trans ((tM _ _ _ _ hbx).trans (μ _ hb))
  rw[if_neg (by decide)];dsimp only;rw[if_neg (by simp[typeHasDict])];split
  ·first
    | (rename_i q;exact absurd q (hnc _))
    | (rename_i q _;exact absurd q (hnc _))
    | (rename_i q _ _;exact absurd q (hnc _))
    | (exfalso;simp_all)
  ·refine δ (wpAny_alloc' ?_);refine δ (wpAny_update' hx₁ ?_);refine ι (a:=some hp.objs.size) ?_;show ρ _ _ (storeInDict hp.objs.size (.str name tk0) name v) _ _ _;refine cO core (fun fin s' z=>?_) fun _ _ z=>z;cases fin with
   |done f=>
    cases f with
    |ret r=>exact z
    |_=>exact z.elim
   |again c=>exact z.elim
 ·subst hdx;refine ι (a:=some dx) ?_;show ρ _ _ (storeInDict dx (.str name tk0) name v) _ _ _;unfold storeInDict newKeyGuard;refine δ (ι (δ (wpAny_nsSet1 hns fun h' hn' hs=>?_)));obtain⟨oD,esD,epD,hoD,hdD,hcD⟩:=hn'.count (vm name v hw);refine δ (wpAny_lookBehind hoD (by rw[hdD];exact pastItsLine_dict (av hcD (by rw[aB,cq];lia))) ?_);refine ι ?_;have hx':=(hs.2 x cQ.symm).trans hx;refine hq h' _ ⟨_,hx',rfl,hnc,.inr ⟨dx,rfl,cQ,hn'⟩⟩ (fun b ob _ hbd hb=>(hs.2 b (hbd _ dx hx rfl)).trans hb)
   (fun o₀ h₀=>by obtain rfl:=aJ (hx.symm.trans h₀);exact⟨_,hx',rfl,rfl,rfl,fun _ e=>e,fun e=>(nomatch e)⟩)
end
end L2
namespace L2
open PySem PySem.Spec PyProof.Rows
open Sem (wp)
structure Ft(l:List dm)(e T:ζ)(h h':Φ):Prop where
 keep:∀b o,b≠e->b≠T->b∉fQ l->h.get? b=some o->h'.get? b=some o
 slot:∀b o,b∈fQ l->h.get? b=some o->∃sl,h'.get? b=some { o with slots:=sl }
theorem sJ.LH{base:Φ}{l:List dm}{e T:ζ}{cls:ε}{dx:Option ζ}{h h':Φ}(L:sJ base l e T cls dx h h'):Ft l e T h h':=⟨L.keep,L.slot⟩
section
variable {M:Model} {A:aL} {E:ε->θ->Prop} {s:θ}
theorem Oi{base:Φ}{env:dm}{outer:List dm}{L e T:ζ}{cls:ε}{dx:Option ζ}{Q:Unit->θ->Prop}
  (lV:A.frames=some (env::outer)) (hl:s.heap.FunFrames base (env::outer)) (hf:env.frame=some L) (ht:oU base s.heap e T cls dx) (hkb:base.StaysIn s.heap) (hen:base.get? e=none)
  (h:∀h',sJ base (env::outer) e T cls dx s.heap h'->Q () { s with heap:=h' }):ρ M A (noteFrame (.ref e) env) (fun _ s'=>ρ M A (setFlight (.ref e) none) Q E s') E s:=by
 obtain⟨⟨oe,vs,he,hcls,hdx,hd,h1,h2⟩,hnT,hTe,oT,ts,hT,hdT,h3⟩:=ht;subst hcls hdx;unfold noteFrame;simp only[hf];refine δ (bG he hd h1 ?_);rw[if_pos (show (aF T != aU)=true from by simp)];refine δ (bG hT hdT h3 ?_);rw[if_neg (show ¬((aU==rawInt L)=true) from by simp[rawInt])];refine δ (fI hT hdT (aG.mp h3).1 ?_);have other:∀b,b≠T->(s.heap.update T (gs (·.setIfInBounds 3 aU))).get? b=s.heap.get? b:=fun b hb=>bH _ _ (de hb);have noRecord:∀b o,s.heap.get? b=some o->(∀vs,o.data≠.fields vs)->b≠T:=fun b o hb hnf q=>by
  rw[q,hT] at hb;injection hb with hb;subst hb;exact hnf ts hdT
 have hTf:T∉fQ (env::outer):=fun hm=>by
  obtain⟨_,o,ho,hnf⟩:=hl.mem hm;rw[hT] at ho;injection ho with ho;subst ho;exact hnf ts hdT
 refine t8 lV (hl.of_keeps fun b o hb hnf=>⟨o,(other b (noRecord b o hb hnf)).trans hb,rfl⟩) hf ((other e (de hTe)).trans he)
  (fun b o hbo=>(other b fun q=>by rw[q,hnT] at hbo;cases hbo).trans (hkb b o hbo)) hen hd (aG.mp h1).1 h2
  fun h' ⟨x1,x2,⟨T',x3,x3'⟩,x4,x5⟩=>h h' ⟨x1,x2,⟨T',x3,?_⟩,fun b o hbe hbT hbf hb=>x4 b o hbe hbe hbf ((other b hbT).trans hb),fun b o hbf hb=>x5 b o hbf ((other b fun q=>hTf (q▸hbf)).trans hb)⟩
 by_cases hq:T'=T
 ·subst hq;obtain⟨o2,e2⟩:∃o2,(s.heap.update T' (gs (·.setIfInBounds 3 aU))).get? T'=some o2:=⟨_,cg _ hT (eW (dC hdT _))⟩;rw[e2] at x3';cases x3'
 ·rw[←other T' hq];exact x3'
theorem FU{base:Φ}{e T:ζ}{cls:ε}{dx:Option ζ}{Q:Unit->θ->Prop}(ht:oU base s.heap e T cls dx)
  (h:∀h',(∀b o,b≠T->s.heap.get? b=some o->h'.get? b=some o)->oU base h' e T cls dx->Q () { s with heap:=h' }):ρ M A (setFlight (.ref e) none) Q E s:=by
 obtain⟨⟨oe,vs,he,hcls,hdx,hd,h1,h2⟩,hnT,hTe,oT,ts,hT,hdT,h3⟩:=ht;unfold setFlight;refine δ (bG he hd h1 ?_);rw[if_pos (show (aF T != aU)=true from by simp)];have hz:=(aG.mp h3).1;refine fI hT hdT hz (h _ (fun b o hb q=>(bH _ _ (de hb)).trans q) ⟨⟨oe,vs,(bH _ _ hTe).trans he,hcls,hdx,hd,h1,h2⟩,hnT,hTe,_,_,cg _ hT (eW (dC hdT _)),dC hdT _,?_⟩);simp[hz]
theorem zo{nm q:ξ}{C N B:ζ}{bs bm:List ε}{hdct:Bool}{sn:List ξ}{sub:List ε}{ab:Bool}{col:Option Bool}{dd:Option ζ}{k0 k1 k2 k3 k5:Option ε}{newId:String}
  {nm' q':ξ} {N':ζ} {bs' bm':List ε} {hdct':Bool} {sn':List ξ} {sub':List ε} {ab':Bool} {col':Option Bool} {dd':Option ζ} {k0' k1' k2' k3' k5':Option ε} {newId':String}
  {h:Φ} {g:Array GenState} {d:Drawn} {t:Nat} {os:OsState} {e:ζ} {oe:aK} {Q:Bool->θ->Prop}
  (hC:h.get? C=some (excClassObj nm q C N bs bm hdct sn sub ab col dd k0 k1 k2 k3 k5 newId)) (hB:h.get? B=some (excClassObj nm' q' B N' bs' bm' hdct' sn' sub' ab' col' dd' k0' k1' k2' k3' k5' newId'))
  (he:h.get? e=some oe) (hcls:oe.cls=.ref C) (jZ:bm'.contains (.type "BaseException")=true) (hsub:(aF C::bm).contains (.ref B)=true)
  (hq:Q true ⟨h,g,d,t,os⟩):ρ M A (excMatches (.ref e) (.ref B)) Q E ⟨h,g,d,t,os⟩:=by
 have hcB:(aF B::bm').contains (.type "BaseException")=true:=by rw[nK,jZ,uE]
 have f:=tc_notTuple;unfold excMatches
 repeat (first|(with_reducible refine fx he ?_;rw[hcls])|with_reducible refine fx hB ?_|(with_reducible refine jo hB ?_;rw[hcB])|(with_reducible refine jo hC ?_;rw[hsub])|wp_step)
 exact hq
end
section
variable {X:Cx} {pins:List (ζ×aK)} {σ:St} {H:Hp} {s:θ} {h':Φ} {e T:ζ}
structure Frame(X:Cx):Prop where
 ex:X.ex=[]
 st:X.stack=X.env::X.outer
 fr:X.env.frame=some X.env.locals
theorem Inv.zu(I:Inv X pins σ H s)(F:Frame X)(L:Ft X.stack e T s.heap h')(he:X.s₀.heap.get? e=none)(hT:X.s₀.heap.get? T=none)(hHe:H e=none)(hHT:H T=none)
  (hp:∀p∈X.pn++pins,p.1≠e/\p.1≠T) (eo:∃oe vs,s.heap.get? e=some oe/\oe.data=.fields vs) (To:∃oe vs,s.heap.get? T=some oe/\oe.data=.fields vs):Inv X pins σ H { s with heap:=h' }:=by
 have hloc:X.s₀.heap.get? X.env.locals=none:=ft I.ok.above;have sub:∀b,b∈fQ X.stack->b=X.env.locals∨b∈fQ X.outer:=fun b hb=>aa.mp (I.tP b hb);have ne:∀{b c:ζ} {o:aK},X.s₀.heap.get? b=some o->X.s₀.heap.get? c=none->b≠c:=fun h1 h2 z=>by
  rw[z,h2] at h1;cases h1
 have mH:∀b:ζ,b∉X.ex:=fun b z=>by
  rw[F.ex] at z;cases z
 have inStk:X.env.locals∈fQ X.stack:=by
  rw[F.st];unfold fQ;rw[fG,F.fr];exact Γ
 have supF:∀b,b∈fQ X.outer->b∈fQ X.stack:=fun b hb=>by
  rw[F.st];unfold fQ;rw[fG,F.fr];exact Δ _ hb
 have noF:∀{b:ζ} {o:aK},s.heap.get? b=some o->(∀vs,o.data≠.fields vs)->b≠e/\b≠T:=fun {b o} hb hn=>⟨fun z=>by
  obtain⟨oe,vs,q1,q2⟩:=eo;rw[z,q1] at hb;cases hb;exact hn vs q2,fun z=>by
  obtain⟨oe,vs,q1,q2⟩:=To;rw[z,q1] at hb;cases hb;exact hn vs q2⟩
 have cellK:∀c v,s.heap.IsCell c v->h'.IsCell c v:=fun c v hc=>by
  obtain⟨o,ho,hd⟩:=hc;by_cases hb:c∈fQ X.stack
  ·obtain⟨sl,k2⟩:=L.slot c o hb ho;exact⟨_,k2,hd⟩
  ·obtain⟨n1,n2⟩:=noF ho (fun vs q=>by rw[hd] at q;cases q);exact⟨o,L.keep c o n1 n2 hb ho,hd⟩
 refine⟨I.ok,I.os,I.bare,⟨fun b o h1 h2 h3 _=>?_,fun b o h1 h2 h3 _=>?_,I.base.free,fun b o h1 hx=>?_,I.base.iB,I.base.kx,I.base.nO⟩,?_,fun x c hc=>?_,I.free,I.j0,fun p hp'=>?_,fun a o ha=>?_,I.len⟩
 ·have k1:=I.base.keep b o h1 h2 h3 (mH b);refine L.keep b o (ne h1 he) (ne h1 hT) (fun z=>?_) k1;rcases sub b z with z|z
  ·exact ne h1 hloc z
  ·exact h3 z
 ·obtain⟨sl,k1⟩:=I.base.slot b o h1 h2 h3 (mH b);obtain⟨sl',k2⟩:=L.slot b _ (supF b h3) k1;exact⟨sl',k2⟩
 ·obtain⟨o',k1⟩:=I.base.there b o h1 (mH b);by_cases hb:b∈fQ X.stack
  ·obtain⟨sl,k2⟩:=L.slot b o' hb k1;exact⟨_,k2⟩
  ·exact⟨o',L.keep b o' (ne h1 he) (ne h1 hT) hb k1⟩
 ·obtain⟨m,⟨o,es,ep,ho,r⟩,hl⟩:=I.loc;obtain⟨sl,k2⟩:=L.slot _ o inStk ho;refine⟨m,⟨_,es,ep,k2,r⟩,fun i x v h1 h2 h3=>?_⟩;obtain⟨u,ru,lk⟩:=hl i x v h1 h2 h3;refine⟨u,ru,?_⟩;rcases lk with lk|⟨kd,c,hc,ic⟩
  ·exact .inl lk
  ·exact .inr ⟨kd,c,hc,cellK c _ ic⟩
 ·obtain⟨v,hv⟩:=I.cell x c hc;exact⟨v,cellK c v hv⟩
 ·obtain⟨q1,q2,q3,q4,q5⟩:=I.pin p hp';refine⟨L.keep p.1 p.2 (hp p hp').1 (hp p hp').2 (fun z=>?_) q1,q2,q3,q4,q5⟩;rcases sub _ z with z|z
  ·exact q3 z
  ·exact q4 z
 ·refine (I.bR a o ha).mK (fun b u hb q=>?_) (fun _ q=>q) fun _ _ q=>q;have hHb:H b≠none:=by
   rcases hb with rfl|hb
   ·rw[ha];simp
   ·rw[hb];simp
  exact L.keep b u (fun z=>hHb (z▸hHe)) (fun z=>hHb (z▸hHT)) (fun z=>hHb (I.lA b z)) q
theorem Inv.forget{m':ξ->Option ε}{t':Nat}(I:Inv X pins σ H s)(hs:cL X.env.locals s.heap h')(hn:h'.Ns X.env.locals m'):Inv X pins (aj X.N.length none) H { s with heap:=h',toks:=t' }:=by
 have hloc:X.s₀.heap.get? X.env.locals=none:=ft I.ok.above;have k:∀b o,b≠X.env.locals->s.heap.get? b=some o->h'.get? b=some o:=fun b o hb q=>(hs.2 b hb).trans q;have ne:∀{b:ζ} {o:aK},X.s₀.heap.get? b=some o->b≠X.env.locals:=fun h1 z=>by
  rw[z,hloc] at h1;cases h1
 refine⟨I.ok,I.os,I.bare,⟨fun b o h1 h2 h3 h4=>k b o (ne h1) (I.base.keep b o h1 h2 h3 h4),fun b o h1 h2 h3 h4=>?_,I.base.free,fun b o h1 h2=>?_,I.base.iB,I.base.kx,I.base.nO⟩,⟨m',hn,fun i x v h1 h2 h3=>?_⟩,fun x c hc=>?_,I.free,I.j0,fun p hp=>?_,fun a o ha=>?_,by simp⟩
 ·obtain⟨sl,q⟩:=I.base.slot b o h1 h2 h3 h4;exact⟨sl,k _ _ (ne h1) q⟩
 ·obtain⟨o',q⟩:=I.base.there b o h1 h2;exact⟨o',k _ _ (ne h1) q⟩
 ·rw[fA] at h2;split at h2<;>cases h2
 ·obtain⟨v,o,ho,hd⟩:=I.cell x c hc;exact⟨v,o,k _ _ (I.xC x c hc) ho,hd⟩
 ·obtain⟨q1,q2,q3,q4,q5⟩:=I.pin p hp;exact⟨k _ _ q3 q1,q2,q3,q4,q5⟩
 ·refine (I.bR a o ha).mK (fun b u hb q=>k b u (fun z=>?_) q) (fun _ q=>q) fun _ _ q=>q;rcases hb with hb|hb
  ·rw[←hb,z,I.free] at ha;cases ha
  ·rw[z,I.free] at hb;cases hb
abbrev Cx.kF(X:Cx)(e:ζ):Cx:={ X with A:=X.A.mark (some (.ref e)),calm:=false,xe:=fun _ _=>False }
theorem Inv.kF(I:Inv X pins σ H s)(e:ζ):Inv (X.kF e) pins σ H s:=by
 obtain⟨ok,a1,a2,a3,a4,a5,a6,a7,a8,a9,a10⟩:=I;obtain⟨o1,o2,o3,o4,o5,o6,o7,o8,_,o10,o11,o12,o13,o14,o15,o16,o17,o18⟩:=ok;exact⟨⟨o1,o2,o3,o4,o5,o6,o7,o8,(fun z=>nomatch z),o10,o11,o12,o13,o14,o15,o16,o17,o18⟩,a1,a2,a3,a4,a5,a6,a7,a8,a9,a10⟩
theorem Inv.uncaught{e:ζ}(I:Inv (X.kF e) pins σ H s)(ok:X.Ok):Inv X pins σ H s:=by
 obtain⟨_,a1,a2,a3,a4,a5,a6,a7,a8,a9,a10⟩:=I;exact⟨ok,a1,a2,a3,a4,a5,a6,a7,a8,a9,a10⟩
theorem Cz{P:ah}{w:ax}{h:Φ}{a:ζ}{o:HO}(ok:fD P w H h)(hn:H a=none)(new:cH P w (upd H a o) h a o):fD P w (upd H a o) h:=fun b u e=>by
 by_cases z:b=a
 ·subst z;rw[gW] at e;cases e;exact new
 ·rw[dz z] at e;refine (ok b u e).mK (fun _ _ _ q=>q) (fun c q=>?_) fun c xs q=>?_
  ·rw[dz (fun z=>by rw[z,hn] at q;cases q)];exact q
  ·rw[dz (fun z=>by rw[z,hn] at q;cases q)];exact q
theorem Inv.EY{a:ζ}{o:HO}(I:Inv X pins σ H s)(hn:H a=none)(h0:X.s₀.heap.get? a=none)(new:cH X.prog X.w (upd H a o) s.heap a o)(hl:a≠X.env.locals)(hc:∀x c,X.env.cells.lookup x=some c->c≠a)(hp:∀p∈X.pn++pins,p.1≠a):Inv X pins σ (upd H a o) s:=by
 refine⟨I.ok,I.os,I.bare,⟨I.base.keep,I.base.slot,fun b ob h1 h2 h3=>?_,I.base.there,fun b xs e=>?_,fun b x u e=>?_,fun b ps e=>?_⟩,I.loc,I.cell,by rw[dz hl.symm];exact I.free,fun x c e=>by rw[dz (hc x c e)];exact I.j0 x c e,fun p hp'=>?_,Cz I.bR hn new,I.len⟩
 ·rw[dz (fun z=>by rw[z,h0] at h1;cases h1)];exact I.base.free b ob h1 h2 h3
 ·have:=I.base.iB b xs e;rw[dz (fun z=>by rw[z,hn] at this;cases this)];exact this
 ·have:=I.base.kx b x u e;rw[dz (fun z=>by rw[z,hn] at this;cases this)];exact this
 ·obtain⟨more,q⟩:=I.base.nO b ps e;refine⟨more,?_⟩;rw[dz (fun z=>by rw[z,hn] at q;cases q)];exact q
 ·obtain⟨q1,q2,q3,q4,q5⟩:=I.pin p hp';exact⟨q1,by rw[dz (hp p hp')];exact q2,q3,q4,q5⟩
end
end L2
namespace L3
open PySem PySem.Spec PyProof.Rows L2
def vY(a C:ζ)(dx:Option ζ):Φ->Prop:=fun h=>∃oe vs,h.get? a=some oe/\oe.cls=.ref C/\oe.dict=dx/\oe.data=.fields vs/\vs[2]?=some .none
def lh(x:ξ)(fs:List (ξ×Int)):η->ζ->Hp->Prop:=fun K a H=>∃C dx,dQ K x C/\H a=some (.ext (vY a C dx))/\uo H dx fs
theorem uo.keep{H H':Hp}{dx:Option ζ}{fs:List (ξ×Int)}(h:uo H dx fs)(k:∀b o u,H b=some (.eI o u)->H' b=some (.eI o u)):uo H' dx fs:=by
 rcases h with h|⟨d,o,h1,h2⟩
 ·exact .inl h
 ·exact .inr ⟨d,o,h1,k _ _ _ h2⟩
theorem OW{K:η}{H:Hp}{a:ζ}{x:ξ}{fs:List (ξ×Int)}(h:lh x fs K a H):um K H a (.gen (lh x fs)):=
 ⟨h,by obtain⟨C,dx,_,e,_⟩:=h;exact⟨_,e,fun _=>nofun,fun _ _=>nofun⟩,fun H1 H2 t f e ⟨C,dx,h1,h2,h3⟩=>⟨C,dx,h1,e.trans h2,h3.keep f⟩⟩
def xT(K:η)(names:List ξ)(B:ζ):Prop:=∀x∈names,∀C,dQ K x C->∃init,wH K C B init
def LO(names:List ξ)(i:Nat)(tx:uj)(th:ζ->ao)(tr:ao):ao:=fun D τ G=>
 tx (fun τ1 G1 x fs=>x∈names/\∀p G2,cw G1 p (.gen (lh x fs)) G2->th p { nx:=fun _ _=>False,rt:=D.rt } (ko τ1 i (.obj p)) G2) { D with nx:=tr D } τ G
theorem OV{X:Cx}{i:Nat}{cx en:ξ}{names:List ξ}{body suite rest:List aR}{b₀:aR}{np hpos pos:aQ}{tx:uj}{th:ζ->ao}{tr:ao}{B:ζ}(F:Frame X)(T7:xT X.K names B)(hm:X.mg cx=some (.ref B))(hN:X.N.Nodup)(hb:zI X body tx)(hh:∀e,jm (X.kF e) (b₀::suite) (th e))(hr:jm X rest tr)
  (hi:X.N[i]?=some en:=by rfl) (hl:X.env.scope.names.lookup en=some .local:=by rfl) (hg:Gl X cx:=by rfl) (hdb:(cx==("__debug__":ξ))=false:=by decide):
  jm X (.Try body [.ExceptHandler (some (.Name cx np)) (some en) (b₀::suite) hpos] [] [] pos::rest) (LO names i tx th tr):=by
 intro pins s σ H D2 I ⟨τ,G,D3,RS,RG,ht,EL⟩;refine iS (wpAny_Try_except ?_);have EL':oV X.K H G { D3 with nx:=tr D3 } { D2 with nx:=fun σ' H'=>En X.K tr D2 σ' H' }:=⟨fun τ' σ' G' H' a b c q=>⟨τ',G',D3,a,c,q,EL.step b⟩,EL.bk,EL.ct,EL.rt⟩;refine cO (hb pins s σ H _ _ τ G _ _ I RS RG ht EL' ?exc) (fun fl s1 q=>?fin) (fun e s1 q=>q)
 case fin=>
  cases fl with
  |next=>
   obtain⟨σ',H',I',q⟩:=q;exact gj (hr pins s1 σ' H' D2 I' q)
  |ret u=>exact q
  |brk=>exact q
  |cont=>exact q
 case exc=>
  intro σ1 τ1 H1 s1 G1 ev s' I1 RS1 R1 S1 cxx;obtain⟨e,T,C,dx,H',rfl,os,bare,u,ok,tr',⟨hHe,hHT⟩,hen,⟨he0,hT0⟩,⟨x,C',fs,ec,cn,⟨hxn,kq⟩,dd⟩,R2,S2⟩:=cxx;cases ec;have I':Inv X pins σ1 H' s':=I1.BP (ch:=[]) os u ok bare (fun b z=>absurd z (by simp));have s0:∀{b:ζ},s1.heap.get? b=none->X.s₀.heap.get? b=none:=fun {b} hb=>by
   cases hq:X.s₀.heap.get? b with
   |none=>rfl
   |some o=>
    obtain⟨o',e'⟩:=I1.base.there b o hq (by rw[F.ex];simp);rw[hb] at e';cases e'
  have pne:∀p∈X.pn++pins,p.1≠e/\p.1≠T:=fun p hp=>by
   have q:=(I1.pin p hp).1;refine⟨fun z=>?_,fun z=>?_⟩
   ·rw[z,he0] at q;cases q
   ·rw[z,hT0] at q;cases q
  have eo:=tr'.obj;have To:=tr'.ent;refine Oi (base:=X.base) (by rw[I'.ok.frames,F.st]) (by rw[←F.st];exact I'.stack) F.fr tr' I'.bk hen fun h2 L=>?_;rw[←F.st] at L;have I2:=I'.zu F L.LH (s0 he0) (s0 hT0) hHe hHT pne (by obtain⟨oe,vs,q1,_,_,q2,_⟩:=eo;exact⟨oe,vs,q1,q2⟩) (by obtain⟨oe,vs,q1,q2,_⟩:=To;exact⟨oe,vs,q1,q2⟩);obtain⟨T2,tr2,hT2⟩:=L.xZ;obtain⟨oe,vs,q1,q2,q3,q4,q5,q6⟩:=tr2.obj;obtain⟨oT,ts,r1,r2,r3⟩:=tr2.ent;have Ic:=I2.kF e;obtain⟨init,ec⟩:=T7 x hxn C cn;refine wpAny_handleBy_cons (codeAny_handlers_test (vR (X:=X.kF e) Ic hg hm ?_ hdb)) (by intro q;cases q);obtain⟨nm,qn,N,bs,sn,sub,ab,col,dd',k0,k1,k2,k3,k5,mN,hC,_⟩:=Af Ic.ir ec.cls;obtain⟨nm',qn',N',bs',sn',sub',ab',col',dd'',k0',k1',k2',k3',k5',mN',hB,_⟩:=Af Ic.ir ec.base;refine zo hC hB q1 q2 (by decide +kernel) (by simp) ?_;refine codeAny_handlers_suite_as ?_;refine FU tr2 fun h3 kp tr3=>?_;have sT2:X.s₀.heap.get? T2=none:=by
   cases hq:X.s₀.heap.get? T2 with
   |none=>rfl
   |some o=>
    obtain⟨o',e'⟩:=I'.base.there T2 o hq (by rw[F.ex];simp);rw[hT2] at e';cases e'
  have hHT2:H' T2=none:=by
   cases hq:H' T2 with
   |none=>rfl
   |some o=>
    obtain⟨ob,e'⟩:=cH.there (I'.bR T2 o hq);rw[hT2] at e';cases e'
  have I3:=I2.zu (h':=h3) F (e:=e) (T:=T2) ⟨fun b o _ hT _ q=>kp b o hT q,fun b o hb q=>⟨o.slots,kp b o (fun z=>by
   obtain⟨_,o',ho',hd⟩:=I2.stack.mem hb;rw[z,r1] at ho';cases ho';exact hd _ r2) q⟩⟩ (s0 he0) sT2 hHe hHT2 (fun p hp=>⟨(pne p hp).1,fun z=>by
   have:=(I'.pin p hp).1;rw[z,hT2] at this;cases this⟩) ⟨oe,vs,q1,q4⟩ ⟨oT,ts,r1,r2⟩
  obtain⟨oe,vs,q1,q2,q3,q4,q5,q6⟩:=tr3.obj;refine D9 (X:=X.kF e) (i:=i) (v:=.ref e) (I3.kF e) hN hi (.inl hl) rfl (fun s4 I4 sb=>?_) (.inr hl);have nl:e≠X.env.locals:=fun z=>by
   obtain⟨m,⟨o,es,ep,ho,hd,_⟩,_⟩:=I3.loc;rw[←z] at ho;rw[show h3.get? e=_ from q1] at ho;cases ho;rw[q4] at hd;cases hd
  have nc:∀y c,X.env.cells.lookup y=some c->c≠e:=fun y c hc z=>by
   obtain⟨v,o,ho,hd⟩:=I3.cell y c hc;rw[z] at ho;rw[show h3.get? e=_ from q1] at ho;cases ho;rw[q4] at hd;cases hd
  obtain⟨a,sb1,sb2⟩:=sb;have q1':s4.heap.get? e=some oe:=(sb1.2 e (fun z=>by
   rcases sb2 with sb2|sb2
   ·exact nl (z.trans sb2)
   ·exact nc _ _ sb2 z.symm)).trans q1
  have I5:=I4.EY (o:=.ext (vY e C dx)) hHe (s0 he0) ⟨⟨oe,vs,q1',q2,q3,q4,q6⟩,⟨oe,q1'⟩,fun h1 h2 ⟨oe,vs,a,b⟩ k=>⟨oe,vs,k _ a,b⟩⟩ nl nc (fun p hp=>(pne p hp).1);have E2:=S2.ext R1;have RG5:aT X.K (du G1 e (.gen (lh x fs))) (upd H' e (.ext (vY e C dx))):=R2.hJ hHe (OW ⟨C,dx,cn,gW,dd.keep (Ext.laid hHe).eI⟩);have S5:Step H1 G1 (upd H' e (.ext (vY e C dx))) (du G1 e (.gen (lh x fs))):=S2.trans (.hJ hHe);have RS5:eJ X.K (ko τ1 i (.obj e)) (σ1.set i (some (.ref e))) (upd H' e (.ext (vY e C dx))):=((RS1.ext E2).ext (.laid hHe)).set (by simp[Hv]);refine cO (hh e pins s4 _ _ { nx:=fun _ _=>False,rt:=D2.rt } I5 ⟨_,_,{ nx:=fun _ _=>False,rt:=D3.rt },RS5,RG5,kq e _ (.mk' (R2.free hHe)),⟨fun _ _ _ _ _ _ _ q=>q.elim,fun _ _ _ _ _ _ _ q=>q.elim,fun _ _ _ _ _ _ _ q=>q.elim,fun d v G' H' a b c q=>EL.rt d v G' H' a (S1.trans (S5.trans b)) c q⟩⟩) (fun fl s5 q=>?_) (fun _ _ z=>z.elim);cases fl with
  |ret u=>
   obtain⟨v,σ',H6,I6,rv,qv⟩:=q;obtain⟨m,hn,_⟩:=I6.loc;refine wpAny_nameGoes hl hn (by rw[I.ok.kind];rfl) fun h7 m7 hn7 hs7=>?_;exact⟨v,_,H6,(I6.uncaught I.ok).forget hs7 hn7,rv,qv⟩
  |next=>
   obtain⟨_,_,_,q⟩:=q;exact q.elim
  |brk=>
   obtain⟨_,_,_,q⟩:=q;exact q.elim
  |cont=>
   obtain⟨_,_,_,q⟩:=q;exact q.elim
def CC(names:List ξ)(i:Nat)(tx:uj)(th tr:ao):ao:=fun D τ G=>
 tx (fun τ1 G1 x fs=>x∈names/\∀p G2,cw G1 p (.gen (lh x fs)) G2->th { nx:=fun _ _=>False,rt:=D.rt } (ko τ1 i (.obj p)) G2) { D with nx:=tr D } τ G
theorem OU{X:Cx}{i:Nat}{cx en:ξ}{names:List ξ}{body suite rest:List aR}{b₀:aR}{np hpos pos:aQ}{tx:uj}{th tr:ao}{B:ζ}(F:Frame X)(T7:xT X.K names B)(hm:X.mg cx=some (.ref B))(hN:X.N.Nodup)(hb:zI X body tx)(hh:∀e,jm (X.kF e) (b₀::suite) th)(hr:jm X rest tr)
  (hi:X.N[i]?=some en:=by rfl) (hl:X.env.scope.names.lookup en=some .local:=by rfl) (hg:Gl X cx:=by rfl) (hdb:(cx==("__debug__":ξ))=false:=by decide):
  jm X (.Try body [.ExceptHandler (some (.Name cx np)) (some en) (b₀::suite) hpos] [] [] pos::rest) (CC names i tx th tr):=OV (th:=fun _=>th) F T7 hm hN hb hh hr hi hl hg hdb
end L3
namespace L2
open PySem PySem.Spec PyProof.Rows
open Sem (wp)
structure rg(s1:Φ)(e C:ζ)(mA:ξ->Option ε)(h:Φ):Prop where
 keep:∀b o,b≠e->s1.get? b=some o->h.get? b=some o
 inst:h.Inst e C mA
 obj:∃o1 o2,s1.get? e=some o1/\h.get? e=some o2/\o2.cls=o1.cls/\o2.data=o1.data
 fresh:∀o dx,h.get? e=some o->o.dict=some dx->s1.get? dx=none
def putN(mA:ξ->Option ε)(p:ξ×ε):ξ->Option ε:=fun y=>if y=p.1 then some p.2 else mA y
def zK(n:ξ)(st:aR):Prop:=∃p1 p2 p3 p4,st=.Assign [.Attribute (.Name "self" p1) n p2] (.Name n p3) p4
section
variable {prog:ah} {w:ax} {A:aL} {E:ε->θ->Prop} {K:η} {C B e:ζ} {names:List ξ} {env:dm} {s1:Φ} {m:ξ->Option ε}
theorem rg.store{mA:ξ->Option ε}{ns:List ξ}{n:ξ}{v:ε}{Q:Unit->θ->Prop}{s:θ}(S:wG K C B names)(hn:n∈names)(X:K.In s.heap)(T:rg s1 e C mA s.heap)(hw:Within mA ns)(hsz:ns.length≤1000)
  (hq:∀h' tk',rg s1 e C (putN mA (n,v)) h'->Q () { s with heap:=h',toks:=tk' }):ρ (model prog w) A (setAttr (.ref e) n v) Q E s:=by
 refine Oj S hn X T.inst hw hsz fun h' tk' I' hk hs=>hq h' tk' ⟨fun b o hb q=>?_,I',?_,fun o dx q1 q2=>?_⟩
 ·exact hk b o hb (fun o₀ dx h0 hd z=>by
   have:=T.fresh o₀ dx h0 hd;rw[←z,q] at this;cases this) (T.keep b o hb q)
 ·obtain⟨o1,o2,a1,a2,a3,a4⟩:=T.obj;obtain⟨o3,b1,b2,b3,_⟩:=hs o2 a2;exact⟨o1,o3,a1,b1,b2.trans a3,b3.trans a4⟩
 ·obtain⟨o1,o2,a1,a2,a3,a4⟩:=T.obj;obtain⟨o3,b1,b2,b3,b4,b5,b6⟩:=hs o2 a2;rw[b1] at q1;cases q1;cases hd:o2.dict with
  |some dx0=>
   rw[b5 dx0 hd] at q2;obtain rfl:=aJ q2;exact T.fresh o2 _ a2 hd
  |none=>
   rw[b6 hd] at q2;cases q2;cases q3:s1.get? s.heap.objs.size with
   |none=>rfl
   |some o=>
    have cQ:s.heap.objs.size≠e:=fun z=>by
     have:=Θ a2;rw[←z] at this;exact absurd this (cy _)
    have:=Θ (T.keep _ _ cQ q3);exact absurd this (cy _)
theorem OT{L:ζ}(S:wG K C B names)(hk:env.scope.kind=.function)(hloc:env.locals=L)(hLe:L≠e)(hself:env.kindOf "self" = some .local)(hds:(("self":ξ)==("__debug__":ξ))=false)(hms:m "self" = some (.ref e))(hns:s1.Ns L m)(t9:∀h:Φ,(∀b o,b≠e->s1.get? b=some o->h.get? b=some o)->K.In h):
  ∀(nvs:List (ξ×ε)) (body:List aR),Paired (fun (p:ξ×ε) st=>zK p.1 st/\(p.1==("__debug__":ξ))=false) nvs body->(∀p∈nvs,env.kindOf p.1=some .local/\m p.1=some p.2/\p.1∈names) ->
   ∀(mA:ξ->Option ε) (ns:List ξ) (s:θ) (Q:Flow->θ->Prop),rg s1 e C mA s.heap->Within mA ns->ns.length+nvs.length≤1000 ->
   (∀h' tk',rg s1 e C (nvs.foldl putN mA) h'->Q .next { s with heap:=h',toks:=tk' })->ρ (model prog w) A (execs body env) Q E s:=by
 intro nvs
 induction nvs with
 |nil=>
  intro body hp _ mA ns s Q T _ _ hq;cases hp;exact gj (hq s.heap s.toks T)
 |cons p nvs ih=>
  intro body hpr hp mA ns s Q T hw hz hq;cases hpr with
  |@cons _ st0 _ bd hst r=>
   obtain⟨⟨p1,p2,p3,p4,rfl⟩,hdb⟩:=hst;obtain⟨k1,k2,k3⟩:=hp p Γ;have hnsH:s.heap.Ns env.locals m:=by
    obtain⟨o,es,ep,ho,rr⟩:=hns;rw[hloc];exact⟨o,es,ep,T.keep _ _ hLe ho,rr⟩
   have e1:ρ (model prog w) A (eval (.Name p.1 p3) env) (fun v s₁=>ρ (model prog w) A (eval (.Name "self" p1) env) (fun ov s₂=>ρ (model prog w) A (setAttr ov p.1 v) (fun _ s3=>ρ (model prog w) A (execs bd env) Q E s3) E s₂) E s₁) E s:=by
    refine oN (mh hk k1 hnsH k2 ?_) hdb;refine oN (mh hk hself hnsH hms ?_) hds;refine T.store S k3 (t9 _ T.keep) hw (by rw[aB] at hz;lia) fun h' tk' T'=>?_;exact ih _ r (fun q hq'=>hp q (Δ _ hq')) (putN mA p) (p.1::ns) { s with heap:=h',toks:=tk' } Q T' (vm p.1 p.2 hw) (by rw[aB] at hz ⊢;lia) fun h'' tk'' T''=>hq h'' tk'' T''
   exact iS (plainObj_wpAny_Assign_Attribute e1 rfl)
end
end L2
namespace L2
open PySem PySem.Spec PyProof.Rows
open Sem (wp)
structure uR(K:η)(C B f:ζ)(fd:ay)(qual:ξ)(st:aR)(names:List ξ):Prop where
 ex:wH K C B (some (.ref f))
 set:wG K C B names
 fn:eP K "__init__" qual st f fd
 sc:bF ("self" :: names) ("self" :: names) (Ξ st)
 body:Paired (fun n st=>zK n st/\(n==("__debug__":ξ))=false) names (fu st)
 loc:∀n∈(("self":ξ)::names),(Ξ st).names.lookup n=some .local
 bi:Binds K fd ("self" :: names) []
 kp:cp K (.ref C)=true
 Fo:names.length≤10
 ty:∃o,K.lookup f=some o/\o.cls=.type "function"
structure Mt(h h':Φ)(e d C:ζ)(mA:ξ->Option ε):Prop where
 keep:∀b o,h.get? b=some o->h'.get? b=some o
 KZ:h.get? e=none
 newD:h.get? d=none
 ne:d≠e
 obj:∃oe t,h'.get? e=some oe/\oe.cls=.ref C/\oe.dict=some d/\oe.data=.fields #[.ref t,.none,.none,.none,.bool false,.none]
 ns:h'.Ns1 d mA
theorem Hx{α β γ:Type}{R:α->β->Prop}:∀{as:List α} {bs:List β} {cs:List γ},Paired R as bs->as.length=cs.length->Paired (fun (p:α×γ) b=>R p.1 b) (as.zip cs) bs
 |_,_,[],.nil,_=>.nil
 |_,_,c::cs,.cons h r,e=>.cons h (Hx r (by simpa using e))
theorem OS{P:ah}{w:ax}{K:η}{C B f:ζ}{fd:ay}{qual:ξ}{st:aR}{names:List ξ}{A:aL}{E:ε->θ->Prop}{s:θ}{us:List ε}{Q:ε->θ->Prop}
  (O:uR K C B f fd qual st names) (X:K.In s.heap) (lim:s.heap.NoLimit) (hl:us.length=names.length) (cQ:names≠[]) (hdp:A.depth+4<recursionLimit)
  (hq:∀e d h' tk,Mt s.heap h' e d C ((names.zip us).foldl putN fun _=>none)->Q (.ref e) { s with heap:=h',toks:=tk }):ρ (model P w) A (call (.ref C) us) Q E s:=by
 obtain⟨nm,qn,N,bs,sn,sub,ab,col,dd,k0,k1,k2,k3,k5,mN,hC,hn,hni,T⟩:=O.ex.own X;obtain⟨oc,od,kV,doc,pm,an,cdv,ct,osl,rfl,lk,iL⟩:=O.fn.ex;obtain⟨h,g,dr,t,os⟩:=s;have hf:=X _ _ lk;have hsz:us.length≤au:=by rw[hl];exact av O.Fo (by decide)
 have keepE:∀b o,h.get? b=some o->(gd h C us).get? b=some o:=fun b o q=>μ _ (μ _ q);have XE:K.In (gd h C us):=X.keeps keepE;have limE:(gd h C us).NoLimit:=lim.keeps keepE;have hsE:(gd h C us).objs.size=h.objs.size+2:=by
  unfold gd;rw[dN,dN]
 have heE:(gd h C us).get? (h.objs.size+1)=some { cls:=.ref C,data:=.fields #[.ref h.objs.size,.none,.none,.none,.bool false,.none]}:=by
  unfold gd
  heap_get
 refine OK (f:=f) PySem.F.excBase_ValueError T hC hn hni hf (by obtain⟨o,e,c⟩:=O.ty;rw[lk] at e;cases e;exact c) ?_ hsz;have hb:=O.bi ⟨gd h C us,g,dr,t,os⟩ (.ref (h.objs.size+1)::us) XE (by simp[hl]);rw[bB] at hb;have hkind:∀y∈(("self":ξ)::names).zip (.ref (h.objs.size+1)::us),(Ξ st).names.lookup y.1=some .local∨((Ξ st).names.lookup y.1=some .cell/\((cellsFrom ((gd h C us).objs.size+1) (Ξ st).names []).lookup y.1).isSome=true):=fun⟨n,v⟩ hy=>
  .inl (O.loc n (fm hy).1)
 refine lF (by rw[Vh];lia) (XE _ _ lk) rfl O.sc.co O.sc.gen rfl (nG XE iL) (hb _ _ _ _ ?_);refine i9 O.sc.kind hkind fun env he s1 x=>?_;subst he;refine⟨limE.keeps x.toInCall.keep,codeAny_func ?_⟩;have ndP:(("self":ξ)::names).Nodup:=O.sc.nd;have hne1:(gd h C us).objs.size≠h.objs.size+1:=by rw[hsE];lia
 have e1:=x.toInCall.keep _ _ heE;have hloc:∀n∈(("self":ξ)::names),(envOfC qual (Ξ st) (gd h C us).objs.size f cdv).kindOf n=some .local:=fun n hn=>O.loc n hn;have inst0:s1.heap.Inst (h.objs.size+1) C (fun _=>none):=⟨_,e1,rfl,fun c=>nofun,.inl ⟨rfl,fun _=>rfl⟩⟩;have T0:rg s1.heap (h.objs.size+1) C (fun _=>none) s1.heap:=⟨fun _ _ _ q=>q,inst0,⟨_,_,e1,e1,rfl,rfl⟩,fun o dx q1 q2=>by
  rw[e1] at q1;cases q1;cases q2⟩
 have hNK:∀b o,K.lookup b=some o->b≠h.objs.size+1:=fun b o q z=>by
  have:=Θ (X _ _ q);rw[z] at this;exact absurd this (by show ¬_<h.objs.size;lia)
 obtain⟨tk,hs1⟩:∃tk,s1=⟨s1.heap,g,dr,tk,os⟩:=by
  obtain⟨h1,tk,q,_⟩:=x.done;exact⟨tk,by rw[q]⟩
 refine OT (L:=(gd h C us).objs.size) (s1:=s1.heap) (e:=h.objs.size+1) (m:=_) O.set O.sc.kind rfl hne1 (hloc "self" Γ) (by decide) ?_ x.toInCall.ns (fun h2 k b o q=>k b o (hNK b o q) (x.toInCall.keep _ _ (XE _ _ q))) (names.zip us) (fu st) (Hx O.body hl.symm) (fun p hp=>?_) (fun _=>none) [] s1 _ T0 Within.nil ?_ fun h' tk' T'=>?_
 ·exact AL (i:=0) ndP rfl rfl (hloc "self" Γ)
 ·obtain⟨i,hi,ei⟩:=tI hp;have hpm:=fm hp;refine⟨hloc p.1 (Δ _ hpm.1),?_,hpm.1⟩;have hi2:i<names.length:=by rw[ib] at hi;lia
  have hi3:i<us.length:=by lia
  have ep:p=(names[i],us[i]):=by rw[←ei,List.getElem_zip]
  refine AL (i:=i+1) ndP ?_ ?_ (hloc p.1 (Δ _ hpm.1))
  ·rw[qc,ep,aw hi2]
  ·rw[qc,ep,aw hi3]
 ·rw[fo,ib];have:=O.Fo;lia
 ·refine⟨rfl,?_⟩;obtain⟨o1,o2,a1,a2,a3,a4⟩:=T'.obj;rw[e1] at a1;cases a1;obtain⟨oe,b1,b2,b3,b4⟩:=T'.inst;rw[a2] at b1;cases b1;rw[hs1];rcases b4 with⟨_,z⟩|⟨d,c1,c2,c3⟩
  ·exfalso;cases names with
   |nil=>exact cQ rfl
   |cons n0 ns0=>
    have key:∀(l:List (ξ×ε)) (m0:ξ->Option ε) (y:ξ),(∃v,m0 y=some v)->∃v,l.foldl putN m0 y=some v:=fun l=>by
     induction l with
     |nil=>exact fun m0 y q=>q
     |cons p l ih=>
      intro m0 y q;refine ih (putN m0 p) y ?_;unfold putN;by_cases z:y=p.1
      ·exact⟨_,if_pos z⟩
      ·rw[if_neg z];exact q
    cases us with
    |nil=>cases hl
    |cons u0 us0=>
     obtain⟨v,hv⟩:=key (ns0.zip us0) (putN (fun _=>none) (n0,u0)) n0 ⟨u0,if_pos rfl⟩;have z0:=z n0;have z1:(ns0.zip us0).foldl putN (putN (fun _=>none) (n0,u0)) n0=none:=z0;rw[hv] at z1;cases z1
  ·have fr:=T'.fresh o2 d a2 c1;refine hq (h.objs.size+1) d h' tk' ⟨fun b o q=>T'.keep b o (fun z=>?_) (x.toInCall.keep _ _ (keepE b o q)),ft (qP _),?_,c2,⟨o2,h.objs.size,a2,b2,c1,a4⟩,c3⟩
   ·have:=Θ q;rw[z] at this;exact absurd (show h.objs.size+1<h.objs.size from this) (by lia)
   ·cases q:h.get? d with
    |none=>rfl
    |some o=>
     rw[x.toInCall.keep _ _ (keepE d o q)] at fr;cases fr
end L2
namespace L2
open PySem PySem.Spec PyProof.Rows PySem.W
open Builtin Builtin.ObjectAttr
structure rh(K:Frag)(C:ζ):Prop where
 ga:findIn K (.ref C) "__getattribute__" = some (some (.builtin "BaseException.__getattribute__"))
 gn:findIn K (.ref C) "__getattr__" = some none
 be:mroIn K C (.type "BaseException")=some true
section
variable {prog:ah} {w:ax} {A:aL} {E:ε->θ->Prop} {K:Frag} {x C:ζ} {ox:aK} {od:Option aK} {name:ξ} {s:θ}
theorem OR:builtinKind "BaseException.__getattribute__" = some .slot:=by decide +kernel
theorem OQ:splitId "BaseException.__getattribute__" = some ("BaseException","__getattribute__"):=by decide +kernel
theorem OP:plainId "BaseException.__getattribute__" = true:=by decide +kernel
theorem OO(self:ε):bindSpecial (.builtin "BaseException.__getattribute__") self=pure (.builtin "BaseException.__getattribute__",[self]):=by kernel_rfl
theorem Hw{tk:Tok}{fill expr:Bool}{f:df.ObjectAttr.Found}{Q:ε->θ->Prop}(a:rh K C)(X:K.In s.heap)(I:InstAt s.heap x ox C od)(hf:findObj K C od name=some f)
  (h:ρ (model prog w) A.in1 (match f with | .value v=>ret v | .bind g b=>bindTo g b (.ref x) (.ref C) | .missing=>unsupported "") (fun fin s'=>match fin with | .done (.ret v)=>ρ (model prog w) A (handedOut v) Q E s' | _=>False) (fun _ _=>False) s) (hm:f≠.missing):
  ρ (model prog w) A (getAttrBy (.ref x) (.str name tk) fill expr) Q E s:=by
 obtain⟨hh,g,d,t,os⟩:=s;have L0:=I.type (M:=model prog w);have L1:=looks_findIn (M:=model prog w) X a.ga;have L2:=looks_findIn (M:=model prog w) X a.gn;have L3:=looks_find (M:=model prog w) X I hf;have sub:Looks (model prog w) hh (isInstance (.ref x) (.type "BaseException")) true:=I.type.andThen (looks_mroIn X a.be);unfold getAttrBy;refine bO (δ (L0.at (δ (L1.at ?_))));have hx2:(ja "BaseException.__getattribute__" == ja "object.__getattribute__")=false:=by decide +kernel
 show ρ _ _ (if (onTheHeap (aF C)&&ja "BaseException.__getattribute__" == ja "object.__getattribute__")=true then _ else getAttrByItsOwn _ _ _ _ _ _) _ _ _;rw[hx2,if_neg (by simp)];unfold getAttrByItsOwn;refine δ ?_;show ρ _ _ (typeLookup (.ref C) "__getattr__") _ _ _;refine L2.at ?_;refine δ (gr (bO ?_));have hx0:(expr&&onTheHeap (ja "BaseException.__getattribute__"))=false:=by cases expr<;>rfl
 show ρ _ _ (if (expr&&onTheHeap (ja "BaseException.__getattribute__"))=true then _ else boundAndCalled _ _ _) _ _ _;rw[hx0,if_neg (by simp)];unfold boundAndCalled;rw[OO];refine δ (ι (iT ?_));refine mj OP F.entry_bexc_ga (@check_slot (model prog w) _ _ ⟨hh,g,d,t,os⟩ "BaseException.__getattribute__" "BaseException" "__getattribute__" (.ref x) [.str name tk] [] _ OR OQ sub (F.args_bexc_ga (.ref x) (.str name tk)) ?_);unfold df.«object.__getattribute__»;refine δ (ι (δ (ι (δ (L0.at (δ (L3.at ?_)))))));cases f with
 |missing=>exact absurd rfl hm
 |value v=>
  refine cO h (fun fin s' z=>?_) fun _ _ z=>z.elim;rcases fin with (_|_|_|_)|_<;>first|exact z|exact z.elim
 |bind g b=>
  refine cO h (fun fin s' z=>?_) fun _ _ z=>z.elim;rcases fin with (_|_|_|_)|_<;>first|exact z|exact z.elim
theorem exc_value{expr:Bool}{v:ε}{Q:ε->θ->Prop}(a:rh K C)(X:K.In s.heap)(I:InstAt s.heap x ox C od)(hf:findObj K C od name=some (.value v))(hh:handedIn v=true)(h:Q v { s with toks:=s.toks+1 }):
  ρ (model prog w) A (getAttr (.ref x) name expr) Q E s:=by
 unfold getAttr;refine δ (wpAny_mkText (Hw (s:={ s with toks:=s.toks+1 }) a X I hf (ι ?_) (by simp)));show ρ _ _ (handedOut v) _ _ _;rw[handedOut_of hh];exact ι h
theorem ON{Q:Option ε->θ->Prop}(a:rh K C)(hc:(clsIn K C).isSome=true)(ha:findIn K (.ref C) "__class__" = some (some (.builtin "object.__class__")))(hn:specialIn K (.builtin "object.__class__") "__get__" = some (some (.builtin "getset_descriptor.__get__")))
  (Ld:takesIn K (.builtin "object.__class__")=some true) (hm:mroIn K C (.type "object")=some true) (X:K.In s.heap) (I:InstAt s.heap x ox C od) (h:Q (some (.ref C)) { s with toks:=s.toks+1 }):ρ (model prog w) A (getAttr? (.ref x) "__class__") Q E s:=by
 have hf:findObj K C od "__class__" = some (.bind (.builtin "getset_descriptor.__get__") (.builtin "object.__class__")):=by
  obtain⟨cd,iL⟩:=jO.mp hc;unfold findObj;rw[iL,iU,ha,iU];simp[hn,Ld]
 unfold getAttr? getAttrBy?;refine δ (wpAny_mkText (δ (gr ?_)));refine Hw (s:={ s with toks:=s.toks+1 }) a X I hf ?_ (by simp);show ρ _ _ (holding [_] (call (.builtin "getset_descriptor.__get__") [.builtin "object.__class__",.ref x,.ref C]) >>= ret) _ _ _;refine δ (bO (iT (class_get (s:={ s with toks:=s.toks+1 }) (ox:=ox) (od:=od) X I hm ?_)));exact ι (handed_on rfl (ι h))
theorem N7(a:rh K C)(hc:(clsIn K C).isSome=true)(ha:findIn K (.ref C) "__class__" = some (some (.builtin "object.__class__")))(hn:specialIn K (.builtin "object.__class__") "__get__" = some (some (.builtin "getset_descriptor.__get__")))
  (Ld:takesIn K (.builtin "object.__class__")=some true) (hm:mroIn K C (.type "object")=some true):KitX K (.ref x) (.ref C) (fun h=>InstAt h x ox C od):=by
 obtain⟨cd,iL⟩:=jO.mp hc;obtain⟨o,ho,hcl⟩:∃o,K.lookup C=some o/\∃c,o.data=.cls c:=by
  unfold clsIn at iL;split at iL
  ·rename_i q;exact⟨_,q,_,rfl⟩
  ·cases iL
 obtain⟨oc,odd,oda,osl⟩:=o;obtain⟨c,e⟩:=hcl;dsimp only at e;subst e;refine⟨fun _ _ _ I=>I.type,fun _ _ X _=>?_,fun h tp dd its n sl X htp=>?_,fun X I k=>ON a hc ha hn Ld hm X I k⟩
 ·intro A' Q' E' s' k q;unfold isType loadHead;exact δ (wpAny_loadPart (k _ _ (X _ _ ho)) (ι q))
 ·refine Bool.eq_false_iff.mpr fun q=>?_;have e:C=tp:=aF.inj (beq_iff_eq.mp q);subst e;have z:=(X _ _ ho).symm.trans htp;cases z
end
end L2
namespace L3
open PySem PySem.Spec PyProof.Rows L2
structure gw(K:η)(C:ζ):Prop where
 ge:rh K C
 hd:(jb K C).isSome=true
 ha:dM K (.ref C) "__class__" = some (some (.builtin "object.__class__"))
 hn:uX K (.builtin "object.__class__") "__get__" = some (some (.builtin "getset_descriptor.__get__"))
 ht:wK K (.builtin "object.__class__")=some true
 hm:nW K C (.type "object")=some true
theorem N6{P:ah}{w:ax}{K:η}{H:Hp}{h:Φ}{p:ζ}{x:ξ}{fs:List (ξ×Int)}(ok:fD P w H h)(e:lh x fs K p H):∃C oe od,dQ K x C/\mY h p oe C od:=by
 obtain⟨C,dx,cn,e1,dd⟩:=e;obtain⟨⟨oe,vs,q1,q2,q3,q4,_⟩,_⟩:=(show cH P w H h p (.ext (vY p C dx)) from ok p _ e1);have hn:j6 oe=true:=by
  unfold j6;rw[q4]
 rcases dd with⟨rfl,_⟩|⟨d,o,rfl,e2⟩
 ·exact⟨C,oe,none,cn,q1,q2,hn,by rw[q3];trivial⟩
 ·obtain⟨r1,_⟩:=(show cH P w H h d (.eI o (.xd _)) from ok d _ e2);exact⟨C,oe,some o,cn,q1,q2,hn,by rw[q3];exact r1⟩
theorem N5{P:ah}{w:ax}{K:η}{H:Hp}{h:Φ}{p:ζ}{x:ξ}{fs:List (ξ×Int)}(ok:fD P w H h)(e:lh x fs K p H)(cQ:fs≠[]):
  ∃C oe od mA d,dQ K x C/\mY h p oe C (some od)/\h.get? d=some od/\h.Ns1 d mA/\∀f,sG ((fs.map fun p=>(p.1,V.int p.2)).lookup f) (mA f):=by
 obtain⟨C,dx,cn,e1,dd⟩:=e;obtain⟨⟨oe,vs,q1,q2,q3,q4,_⟩,_⟩:=(show cH P w H h p (.ext (vY p C dx)) from ok p _ e1);rcases dd with⟨_,z⟩|⟨d,o,rfl,e2⟩
 ·exact absurd z cQ
 ·obtain⟨r1,mA,r2,r3⟩:=(show cH P w H h d (.eI o (.xd _)) from ok d _ e2);refine⟨C,oe,o,mA,d,cn,⟨q1,q2,?_,by rw[q3];exact r1⟩,r1,r2,r3⟩;unfold j6;rw[q4]
section
variable {X:Cx} {a:υ} {ta:aP} {pos p p2:aQ}
def qK(rs:List ξ)(y:ξ)(ta:aP):aP:=fun τ G Q=>ta τ G fun x G1=>match x with
 |.obj p=>∃z fs,G1 p=some (.gen (lh z fs))/\z∈rs/\Q (.bl (z==y)) G1
 |_=>False
theorem Hu{c:ε}{cv:V}(hc:RelV cv c)(hu:∀c',RelV cv c'->c'=c):jy X (.builtin "isinstance") (fun vs H Q=>∃q z fs b,vs=[.ref q,cv]/\lh z fs X.K q H/\(∀C,dQ X.K z C->gw X.K C/\ar X.K (.ref C) c=some b)/\Q (.bl b) H):=by
 intro pins s σ H vs us Q I r h;obtain⟨q,z,fs,b,rfl,hx,hk,qq⟩:=h;obtain⟨u,c',rfl,ru,rc⟩:=vals2 r;cases (show u=aF q from ru);cases hu c' rc;obtain⟨C,oe,od,cn,J⟩:=N6 I.bR hx;obtain⟨K1,K2⟩:=hk C cn;exact dA (N7 K1.ge K1.hd K1.ha K1.hn K1.ht K1.hm) I.ir J K2 (fun z=>nomatch z) fun tk=>⟨.bl b,H,I.tok tk,rfl,qq⟩
theorem N4{rs:List ξ}{y:ξ}{c:ε}{cv:V}(hk:∀z∈rs,∀C,dQ X.K z C->gw X.K C/\ar X.K (.ref C) c=some (z==y)){σ:L2.St}{H:Hp}{Q:VK}(h:low X.K (qK rs y ta) σ H Q):
  B6 (fun vs H Q=>∃q z fs b,vs=[.ref q,cv]/\lh z fs X.K q H/\(∀C,dQ X.K z C->gw X.K C/\ar X.K (.ref C) c=some b)/\Q (.bl b) H) (zN (low X.K ta) (zN (tC cv) Gj)) σ H Q:=by
 obtain⟨τ,G,Q3,RS,RG,h,k⟩:=h;refine⟨τ,G,_,RS,RG,h,fun v H1 d G1 h1 S1 R1 q1=>?_⟩;cases d with
 |obj q=>
  obtain⟨z,fs,e1,hz,q2⟩:=q1;rw[iq h1];exact⟨q,z,fs,_,rfl,(R1 q _ e1).1,fun C cn=>hk z hz C cn,k _ H1 (.bl (z==y)) G1 nR S1 R1 q2⟩
 |_=>exact q1.elim
theorem N3{rs:List ξ}{y:ξ}{C:ζ}(hk:∀z∈rs,∀D,dQ X.K z D->gw X.K D/\ar X.K (.ref D) (.ref C)=some (z==y))(ha:bS X a ta)(hm:X.mg "isinstance" = none)(hmy:X.mg y=some (.ref C))(hgy:Gl X y:=by rfl)(hdy:(y==("__debug__":ξ))=false:=by decide)(hg:Gl X "isinstance":=by rfl)(he:notStar a=true:=by rfl):
  bS X (.Call (.Name "isinstance" p) [a,.Name y p2] [] pos) (qK rs y ta):=
 jG (qJ (Hu (c:=.ref C) (cv:=.ref C) rfl fun c' r=>r) hg hm rfl (r0 ha (r0 (Kv (v:=.ref C) hgy hmy rfl hdy) w6 (gu rfl)) (gu he)) (he:=gu he) (hpl:=lC rfl)) fun σ H Q h=>N4 hk h
def EE(rs:List ξ)(ta:aP):aP:=fun τ G Q=>ta τ G fun x G1=>match x with
 |.obj p=>∃z fs,G1 p=some (.gen (lh z fs))/\z∈rs/\Q (.bl true) G1
 |_=>False
theorem N1{rs:List ξ}(hk:∀z∈rs,∀D,dQ X.K z D->gw X.K D/\ar X.K (.ref D) (.type "ValueError")=some true)(ha:bS X a ta)(hm:X.mg "isinstance" = none)(hmy:X.mg "ValueError" = none)(hgy:Gl X "ValueError":=by rfl)(hg:Gl X "isinstance":=by rfl)(he:notStar a=true:=by rfl):
  bS X (.Call (.Name "isinstance" p) [a,.Name "ValueError" p2] [] pos) (EE rs ta):=
 jG (qJ (Hu (c:=.type "ValueError") (cv:=.ty "ValueError") rfl fun c' r=>r) hg hm rfl (r0 ha (r0 (Ku (v:=.ty "ValueError") hgy hmy rfl rfl (by decide) (by decide)) w6 (gu rfl)) (gu he)) (he:=gu he) (hpl:=lC rfl)) fun σ H Q h=>by
  obtain⟨τ,G,Q3,RS,RG,h,k⟩:=h;refine⟨τ,G,_,RS,RG,h,fun v H1 d G1 h1 S1 R1 q1=>?_⟩;cases d with
  |obj q=>
   obtain⟨z,fs,e1,hz,q2⟩:=q1;rw[iq h1];exact⟨q,z,fs,_,rfl,(R1 q _ e1).1,fun C cn=>hk z hz C cn,k _ H1 (.bl true) G1 nR S1 R1 q2⟩
  |_=>exact q1.elim
end
end L3
namespace L3
open PySem PySem.Spec PyProof.Rows L2
theorem C7:∀{bs:List Bool} {its:List ε},bj (bs.map V.bl) its->its=bs.map eF
 |[],_,h=>h.zero
 |b::bs,_,h=>by
  cases h with
  |cons r1 r2=>rw[C7 r2,show _=eF b from r1];rfl
def zw:V->List V->Hp->VK->Prop:=fun x vs H Q=>∃(l:ζ) (bs:List Bool),x=.ref l/\vs=[.bl true]/\H l=some (.lst (bs.map V.bl))/\Q (.int ((bs.countP id:Nat):Int)) H
def zv:V->List V->Hp->VK->Prop:=fun x vs H Q=>∃(l:ζ) (bs:List Bool) (j:Nat),x=.ref l/\vs=[.bl true]/\H l=some (.lst (bs.map V.bl))/\bs[j]?=some true/\(∀i,i<j->bs[i]?=some false)/\j<1000/\Q (.int ((j:Nat):Int)) H
def Fm:ε->Bool
 |.bool b=>b
 |_=>false
section
variable {X:Cx}
theorem N0:Cw X "list.count" zw:=by
 intro pins s σ H x vs v us Q I rx rv h;obtain⟨l,bs,rfl,rfl,hH,q⟩:=h;cases rx;obtain⟨u,rfl,ru⟩:=rv.one;cases (show u=eF true from ru);obtain⟨z,its,n,r,hl,e⟩:=I.sg hH;rw[C7 r] at e;refine j5 F.slot_list_count ⟨_,e,rfl⟩ F.entry_list_count (F.args_list_count_2 _ _) (SeqAt.list_countAt l (bs.map eF).toArray n none #[] (.bool true) Fm) ⟨e,fun y hy=>?_,?_⟩
 ·obtain⟨b,_,rfl⟩:=br.mp (gD.mpr hy);have:=sN (A:=X.A.in1) (s:=s) b true;cases b<;>exact this
 ·refine⟨.int ((bs.countP id:Nat):Int),H,I.tok _,⟨s.toks,?_⟩,q⟩;have e2:((bs.map eF).toArray.toList).countP Fm=bs.countP id:=by
   show (bs.map eF).countP Fm=_;rw[List.countP_map];rfl
  rw[e2]
theorem NZ:Cw X "list.index" zv:=by
 intro pins s σ H x vs v us Q I rx rv h;obtain⟨l,bs,j,rfl,rfl,hH,h1,h2,h3,q⟩:=h;cases rx;obtain⟨u,rfl,ru⟩:=rv.one;cases (show u=eF true from ru);obtain⟨z,its,n,r,hl,e⟩:=I.sg hH;rw[C7 r] at e;have hj:j<bs.length:=(aM.mp h1).1;refine j5 F.slot_list_index ⟨_,e,rfl⟩ F.entry_list_index (F.args_list_index_2 _ _) (SeqAt.list_indexAt l (bs.map eF).toArray n none #[] (.bool true) Fm j (by simpa using hj) (by lia) ?_ fun m hm hmj=>?_) ⟨e,fun y hy=>?_,?_⟩
 ·simp only[sQ,List.getElem_map];rw[(aM.mp h1).2];rfl
 ·simp only[sQ,List.getElem_map];rw[(aM.mp (h2 m hmj)).2];rfl
 ·obtain⟨b,_,rfl⟩:=br.mp (gD.mpr hy);have:=sN (A:=X.A.in1) (s:=s) b true;cases b<;>exact this
 ·exact⟨.int ((j:Nat):Int),H,I.tok _,⟨_,rfl⟩,q⟩
end
section
variable {K:η}
def C6:D->List D->Gp->V3->Prop:=fun x ds G Q=>match x,ds with
 |.obj p,[.bl true]=>∃xs bs,G p=some (.lst xs)/\oK xs=some bs/\Q (.int ((bs.countP id:Nat):Int)) G
 |_,_=>False
def C5:D->List D->Gp->V3->Prop:=fun x ds G Q=>match x,ds with
 |.obj p,[.bl true]=>∃xs bs j,G p=some (.lst xs)/\oK xs=some bs/\bs[j]?=some true/\(∀i,i<j->bs[i]?=some false)/\j<1000/\Q (.int ((j:Nat):Int)) G
 |_,_=>False
theorem NY:v7 K C6 zw:=fun x vx ds vs G H Q3 Q hx hs RG q k=>by
 unfold C6 at q;split at q
 ·rename_i p;obtain⟨xs,bs,e1,e2,q⟩:=q;obtain⟨ys,e3,hv⟩:=RG p _ e1;obtain⟨v,r,rfl,hv1,hv2⟩:=hs.inv;rw[hv2.jk,vO hv1,iq hx];exact⟨p,bs,rfl,rfl,by rw[e3,Aw hv e2],k _ H (.int _) G nv (.refl H G) RG q⟩
 ·exact q.elim
theorem NX:v7 K C5 zv:=fun x vx ds vs G H Q3 Q hx hs RG q k=>by
 unfold C5 at q;split at q
 ·rename_i p;obtain⟨xs,bs,j,e1,e2,q1,q2,q3,q⟩:=q;obtain⟨ys,e3,hv⟩:=RG p _ e1;obtain⟨v,r,rfl,hv1,hv2⟩:=hs.inv;rw[hv2.jk,vO hv1,iq hx];exact⟨p,bs,j,rfl,rfl,by rw[e3,Aw hv e2],q1,q2,q3,k _ H (.int _) G nv (.refl H G) RG q⟩
 ·exact q.elim
end
end L3
namespace L3
open PySem PySem.Spec PyProof.Rows L2
open Sem (wp)
def yg(x:ξ)(names:List ξ)(E:E3)(t:dF):ao:=fun _ τ G=>t τ G fun ds _=>∃is:List Int,ds=is.map D.int/\is.length=names.length/\E x (names.zip is)
theorem Ht:∀(names:List ξ) (is:List Int) (us:List ε) (m0:ξ->Option ε) (fs0:List (ξ×V)),bj (is.map V.int) us->names.length=is.length->(names.Nodup)->(∀n∈names,fs0.lookup n=none)->(∀f,sG (fs0.lookup f) (m0 f)) ->
  ∀f,sG ((((names.zip is).map fun p=>(p.1,V.int p.2))++fs0).lookup f) ((names.zip us).foldl putN m0 f)
 |[],[],us,m0,fs0,hv,_,_,_,h=>by
  rw[hv.zero];exact h
 |n::ns,i::is,us,m0,fs0,hv,hl,nd,hn,h=>by
  cases hv with
  |@cons v u vs us2 r1 r2=>
   have hnd:=dU.mp nd;intro f;have key:=Ht ns is us2 (putN m0 (n,u)) (fs0++[(n,V.int i)]) r2 (by simpa using hl) hnd.2 (fun y hy=>by
    rw[fW,hn y (Δ _ hy),cz,qp];have:(y==n)=false:=by
     rw[beq_eq_false_iff_ne];intro z;exact hnd.1 (z▸hy)
    rw[this];rfl) (fun y=>by
    unfold putN;by_cases z:y=n
    ·subst z;rw[if_pos rfl,fW,hn y Γ,cz,beq_self_eq_true];exact r1
    ·rw[if_neg z,fW,cz,qp,beq_eq_false_iff_ne.mpr z];have:=h y;cases q:fs0.lookup y with
     |none=>rw[q] at this;exact this
     | some w=>rw[q] at this;exact this) f
   show sG ((((n,V.int i)::(ns.zip is).map fun p=>(p.1,V.int p.2))++fs0).lookup f) ((ns.zip us2).foldl putN (putN m0 (n,u)) f);have e:((((n,V.int i)::(ns.zip is).map fun p=>(p.1,V.int p.2))++fs0).lookup f)=((((ns.zip is).map fun p=>(p.1,V.int p.2))++(fs0++[(n,V.int i)])).lookup f):=by
    rw[List.cons_append,cz,fW,fW,fW,cz,qp];by_cases z:f=n
    ·subst z;have hz:((ns.zip is).map fun p=>(p.1,V.int p.2)).lookup f=none:=by
      rw[List.lookup_eq_none_iff];intro p hp;obtain⟨q,hq,rfl⟩:=br.mp hp;rw[bne_iff_ne];intro z;exact hnd.1 (z▸(fm hq).1)
     rw[beq_self_eq_true,hz,hn f Γ];rfl
    ·rw[beq_eq_false_iff_ne.mpr z];cases ((ns.zip is).map fun p=>(p.1,V.int p.2)).lookup f<;>cases fs0.lookup f<;>rfl
   rw[e];exact key
theorem Hs{K:η}{H:Hp}:∀{is:List Int} {vs:List V},aO K H (is.map D.int) vs->vs=is.map V.int
 |[],_,h=>h.jk
 |i::is,_,h=>by
  obtain⟨v,r,rfl,h1,h2⟩:=h.inv;rw[Hs h2,i6 h1];rfl
theorem C4{K:η}{C:ζ}{bm:List ε}{init:Option ε}{newId:String}(q:excIn K C bm init newId=true):∃nm qn N bs sn sub ab col dd k0 k1 k2 k3 k5,K.lookup C=some (excClassObj nm qn C N bs bm true sn sub ab col dd k0 k1 k2 k3 k5 newId):=by
 unfold excIn at q;split at q
 ·rename_i dd cd sl ho;split at q
  ·rename_i C' bm' k0 k1 k2 k3 n k5 hm hs;simp only[cM,beq_iff_eq,Bool.not_eq_true'] at q;obtain⟨⟨⟨⟨⟨rfl,rfl⟩,hdel⟩,hdct⟩,rfl⟩,hns⟩:=q;obtain⟨nm,bs,mro,ns,qn,hd,sn,sub,ab,col,del⟩:=cd;dsimp only at hm hdel hdct hns;subst hm hdel hdct;have hsl:sl = #[k0,k1,k2,k3,some (.builtin n),k5]:=by
    obtain⟨l⟩:=sl;simp only at hs;rw[hs]
   subst hsl;exact⟨nm,qn,ns,bs,sn,sub,ab,col,dd,k0,k1,k2,k3,k5,ho⟩
  ·cases q
 ·cases q
theorem NW{prog:ah}{w:ax}{A:aL}{E:ε->θ->Prop}{s:θ}{env:dm}{nm q:ξ}{C N:ζ}{bs bm:List ε}{hdct:Bool}{sn:List ξ}{sub:List ε}{ab:Bool}{col:Option Bool}{dd:Option ζ}{k0 k1 k2 k3 k5:Option ε}{newId:String}
  {x:kL ε} {Q:Flow->θ->Prop} (jZ:bm.contains (.type "BaseException")=true) (hh:A.handled=none)
  (h:ρ (model prog w) A x (fun v s₁=>∃e oe t,v=.ref e/\s₁.heap.get? C=some (excClassObj nm q C N bs bm hdct sn sub ab col dd k0 k1 k2 k3 k5 newId)/\s₁.heap.get? e=some oe/\oe.cls=.ref C/\oe.data=.fields #[.ref t,.none,.none,.none,.bool false,.none]/\E (.ref e) s₁) E s):
  ρ (model prog w) A (raiseStmt env (some x) none) Q E s:=by
 have hcB:(aF C::bm).contains (.type "BaseException")=true:=by rw[nK,jZ,uE]
 unfold raiseStmt;refine δ (cO h (fun v s₁ h₁=>?_) fun _ _ x=>x);obtain⟨e,oe,t,rfl,hC,he,h1,h2,hE⟩:=h₁;obtain⟨hp,g,d,tk,os⟩:=s₁;obtain⟨oc,od,oda,osl⟩:=oe;dsimp only at h1 h2;subst h1 h2
 repeat (first|with_reducible refine fx he ?_|with_reducible refine fx hC ?_|(with_reducible refine jo hC ?_;rw[hcB])|wp_step)
 exact wpAny_raiseNew_none hh hE
theorem NV{X:Cx}{E:XK}{E':E3}{x:ξ}{C B f:ζ}{fd:ay}{qual:ξ}{st:aR}{names:List ξ}{k:Nat}{e:υ}{es:List υ}{t:dF}{np cpos pos:aQ}(hB:Body X E)(hE:∀cls dx H',lT X.K E' cls dx H'->E cls dx H')(O:uR X.K C B f fd qual st names)(cn:dQ X.K x C)(hm:X.mg x=some (.ref C))(hr:eD k X.A)(hc:X.calm=true)(ha:ki X (e::es) t)
  (cQ:names≠[]:=by decide) (hg:Gl X x:=by rfl) (hdb:(x==("__debug__":ξ))=false:=by decide) (he:notStar e=true:=by rfl) (hpl:es.all notStar=true:=by rfl):
  pF X (.Raise (some (.Call (.Name x np) (e::es) [] cpos)) none pos) (yg x names E' t):=by
 intro pins s σ H D2 I ⟨τ,G,D3,RS,RG,h,EL⟩;rw[arm_exec_Raise];simp only[evalOpt,sO];refine δ (g7 ?_);obtain⟨nm,qn,N,bs,sn,sub,ab,col,dd,k0,k1,k2,k3,k5,lk⟩:=C4 O.ex.cls;refine NW (C:=C) (nm:=nm) (q:=qn) (N:=N) (bs:=bs) (bm:=.ref B::iA) (hdct:=true) (sn:=sn) (sub:=sub) (ab:=ab) (col:=col) (dd:=dd) (k0:=k0) (k1:=k1) (k2:=k2) (k3:=k3) (k5:=k5) (newId:="ValueError.__new__") (by rw[nK,show iA.contains (.type "BaseException")=true by decide +kernel,uE]) (I.ok.hd hc) ?_;refine δ (bN (Q:=fun v s₁=>∃e oe t,v=.ref e/\s₁.heap.get? C=some (excClassObj nm qn C N bs (.ref B::iA) true sn sub ab col dd k0 k1 k2 k3 k5 "ValueError.__new__")/\s₁.heap.get? e=some oe/\oe.cls=.ref C/\oe.data=.fields #[.ref t,.none,.none,.none,.bool false,.none]/\X.xe (.ref e) s₁) ?_ fun v s2 q=>δ (g7 (ι q)));refine eV (vR I hg hm ?_ hdb);refine ia (h₀:=X.base) I.ok.mod.t9 O.kp (bN (ha cpos pins s σ H (fun vs H1=>∃is:List Int,vs=is.map V.int/\is.length=names.length/\E' x (names.zip is)) I
  ⟨τ,G,_,RS,RG,h,fun vs H1 ds G1 a b c q=>by obtain⟨is,rfl,hl,q⟩:=q;exact⟨is,Hs a,hl,q⟩⟩) fun us s1 ⟨vs,H1,I1,r,is,ev,hl,q⟩=>⟨I1.ir,?_⟩) (gu he) (lC hpl)
 subst ev;have hlu:us.length=names.length:=by rw[←r.length,π];exact hl
 refine OS O I1.ir I1.nolimit hlu cQ (by have:=hr.dp;lia) fun e1 d h' tk M=>?_;obtain⟨oe,t1,o1,o2,o3,o4⟩:=M.obj;obtain⟨od,es1,ep1,n1,nr⟩:=M.ns;have I1k:Inv X pins σ H1 { s1 with heap:=h',toks:=tk }:=I1.kept M.keep;have gone:∀{b:ζ} {o:aK},s1.heap.get? b=some o->b≠d:=fun {b o} hb z=>by
  rw[z,M.newD] at hb;cases hb
 have I2:=I1k.EY (a:=d) (o:=.eI od (.xd ((names.zip is).map fun p=>(p.1,V.int p.2)))) (Iw I1 M.newD) (HC hB I1 M.newD)
  ⟨n1,(names.zip us).foldl putN (fun _=>none),⟨od,es1,ep1,n1,nr⟩,fun f=>by
   have:=Ht names is us (fun _=>none) [] r hl.symm (dU.mp O.sc.nd).2 (fun _ _=>rfl) (fun _=>trivial) f;rw[bB] at this;exact this⟩
  (fun z=>by
   obtain⟨m,⟨o,_,_,ho,_⟩,_⟩:=I1.loc;exact gone ho z.symm)
  (fun y c hcc z=>by
   obtain⟨v,o,ho,_⟩:=I1.cell y c hcc;exact gone ho z)
  (fun p hp=>gone (I1.pin p hp).1)
 refine⟨e1,oe,t1,rfl,I2.ir _ _ lk,o1,o2,o4,?_⟩;have hne1:e1≠d:=M.ne.symm;refine hB.throw I2 o1 o2 o4 rfl rfl (HC hB I1 M.KZ) (by rw[dz hne1];exact Iw I1 M.KZ) (hE _ _ _ ⟨x,C,names.zip is,rfl,cn,q,.inr ⟨d,od,o3,gW⟩⟩)
end L3
namespace L3
open PySem PySem.Spec PyProof.Rows L2
structure MF(X:Cx)(e:υ)(t:zH):Prop where
 of:Lo X e t
structure Fw(X:Cx)(st:List aR)(t:uj):Prop where
 of:zI X st t
section
variable {X:Cx} {k:Nat} {f:ζ} {fd:ay} {ps:List ξ} {sp:uk} {sp3:fc} {E':E3} {x:ξ} {p pos:aQ} {a b e c:υ} {es:List υ} {t:dF} {te:aP} {tx:zH} {tax:TAX} {tc:cS} {ta tb tr:uj} {sa sb rest:List aR}
theorem xa(F:wC X.prog X.w X.K X.mg X.base k f fd ps sp)(hr:eD k X.A)(hx:md (gJ X.prog X.w X.base) X (lT X.K E'))(hm:X.mg x=some (.ref f))(hk:cp X.K (.ref f)=true)(hb:Binds X.K fd ps [])(ha:QA X (e::es) t)(hg:Gl X x:=by rfl)
  (hdb:(x==("__debug__":ξ))=false:=by decide) (he:notStar e=true:=by rfl) (hpl:es.all notStar=true:=by rfl):QE X (.Call (.Name x p) (e::es) [] pos) (nA sp E' t):=⟨Oz F hr hx hm hk hb ha.of hg hdb he hpl⟩
theorem C2(F:xw X.prog X.w X.K X.mg X.base k f fd ps sp3)(hr:fz k X.A)(hm:X.mg x=some (.ref f))(hk:cp X.K (.ref f)=true)(hb:Binds X.K fd ps [])(ha:QA X (e::es) t)(hg:Gl X x:=by rfl)
  (hdb:(x==("__debug__":ξ))=false:=by decide) (he:notStar e=true:=by rfl) (hpl:es.all notStar=true:=by rfl):QE X (.Call (.Name x p) (e::es) [] pos) (bx sp3 t):=⟨Ov F hr hm hk hb ha.of hg hdb he hpl⟩
theorem NU(F:wC X.prog X.w X.K X.mg X.base k f fd ps sp)(hr:eD k X.A)(hm:X.mg x=some (.ref f))(hk:cp X.K (.ref f)=true)(hb:Binds X.K fd ps [])(ha:QA X.mH (e::es) t)(hg:Gl X x:=by rfl)
  (hdb:(x==("__debug__":ξ))=false:=by decide) (he:notStar e=true:=by rfl) (hpl:es.all notStar=true:=by rfl):MF X (.Call (.Name x p) (e::es) [] pos) (zd sp t):=⟨Ou F hr hm hk hb ha.of hg hdb he hpl⟩
theorem NT(h:MF X e tx)(hr:Fw X rest tr)(hs:swapsWith e none pos.line X.env=pure false:=by rfl):Fw X (.Expr e pos::rest) (yb tx tr):=⟨Ot h.of hr.of hs⟩
theorem NS:Fw X [] ya:=⟨Oq⟩
theorem NR{i:Nat}{cx en:ξ}{names:List ξ}{body suite rs:List aR}{b₀:aR}{np hpos:aQ}{th tq:ao}{B:ζ}(F:Frame X)(T7:xT X.K names B)(hm:X.mg cx=some (.ref B))(hN:X.N.Nodup)(hb:Fw X body ta)(hh:∀e,qj (X.kF e) (b₀::suite) th)(hr:qj X rs tq)
  (hi:X.N[i]?=some en:=by rfl) (hl:X.env.scope.names.lookup en=some .local:=by rfl) (hg:Gl X cx:=by rfl) (hdb:(cx==("__debug__":ξ))=false:=by decide):
  qj X (.Try body [.ExceptHandler (some (.Name cx np)) (some en) (b₀::suite) hpos] [] [] pos::rs) (CC names i ta th tq):=⟨OU F T7 hm hN hb.of (fun e=>(hh e).of) hr.of hi hl hg hdb⟩
theorem NQ{E:XK}{C B:ζ}{qual:ξ}{st:aR}{names:List ξ}{np cpos:aQ}(hB:Body X E)(hE:∀cls dx H',lT X.K E' cls dx H'->E cls dx H')(O:uR X.K C B f fd qual st names)(cn:dQ X.K x C)(hm:X.mg x=some (.ref C))(hr:eD k X.A)(hc:X.calm=true)(ha:QA X (e::es) t)
  (cQ:names≠[]:=by decide) (hg:Gl X x:=by rfl) (hdb:(x==("__debug__":ξ))=false:=by decide) (he:notStar e=true:=by rfl) (hpl:es.all notStar=true:=by rfl):
  QS X (.Raise (some (.Call (.Name x np) (e::es) [] cpos)) none pos) (yg x names E' t):=⟨NV hB hE O cn hm hr hc ha.of cQ hg hdb he hpl⟩
theorem vG{rs:List ξ}{y:ξ}{C:ζ}{p2:aQ}(hk:∀z∈rs,∀D,dQ X.K z D->gw X.K D/\ar X.K (.ref D) (.ref C)=some (z==y))(ha:QE X a te)(hm:X.mg "isinstance" = none)(hmy:X.mg y=some (.ref C))(hgy:Gl X y:=by rfl)(hdy:(y==("__debug__":ξ))=false:=by decide)(hg:Gl X "isinstance":=by rfl)(he:notStar a=true:=by rfl):
  QE X (.Call (.Name "isinstance" p) [a,.Name y p2] [] pos) (qK rs y te):=⟨N3 hk ha.of hm hmy hgy hdy hg he⟩
theorem NP{rs:List ξ}{p2:aQ}(hk:∀z∈rs,∀D,dQ X.K z D->gw X.K D/\ar X.K (.ref D) (.type "ValueError")=some true)(ha:QE X a te)(hm:X.mg "isinstance" = none)(hmy:X.mg "ValueError" = none)(hgy:Gl X "ValueError":=by rfl)(hg:Gl X "isinstance":=by rfl)(he:notStar a=true:=by rfl):
  QE X (.Call (.Name "isinstance" p) [a,.Name "ValueError" p2] [] pos) (EE rs te):=⟨N1 hk ha.of hm hmy hgy hg he⟩
end
theorem Lf{P:ah}{w:ax}{K:η}{mg:ξ->Option ε}{base:Φ}{N:List ξ}{qual:ξ}{scope:dZ}{f:ζ}{cd:ε}{A:aL}{outer:List dm}{s:θ}{H:Hp}{E:XK}:Frame (iF qk P w K mg base N qual scope f cd A outer s H E).mH:=⟨rfl,rfl,rfl⟩
theorem KL{P:ah}{w:ax}{K:η}{mg:ξ->Option ε}{base:Φ}{x qual:ξ}{st:aR}{f:ζ}{fd:ay}{N ps:List ξ}{k:Nat}{sp:uk}(F:eP K x qual st f fd)(S:bF N ps (Ξ st))(hN:ps.length≤N.length)(len:∀ds Q E,sp ds Q E->ds.length=ps.length)(tb:E3->ao)
  (hU:∀(cdv:ε) (A:aL) (outer:List dm) (s:θ) (H:Hp) (E:XK) (E':E3),eD k (A.deeper (envOfC qual (Ξ st) s.heap.objs.size f cdv))->(∀cls dx H',lT K E' cls dx H'->E cls dx H') ->
   qj (iF (gJ P w base) P w K mg base N qual (Ξ st) f cdv A outer s H E) (fu st) (tb E'))
  (sX:∀ds Q E,sp ds Q E->tb E (bo Q) (bD N ds) nz):wC P w K mg base (k+1) f fd ps sp:=fnX F S hN len tb (fun cdv A outer s H E E' hr hE=>(hU cdv A outer s H E E' hr hE).of) sX
theorem KN{P:ah}{w:ax}{K:η}{mg:ξ->Option ε}{base:Φ}{x qual:ξ}{st:aR}{f:ζ}{fd:ay}{N ps:List ξ}{k:Nat}{sp:fc}(F:eP K x qual st f fd)(S:bF N ps (Ξ st))(hN:ps.length≤N.length)(len:∀ds G Q,sp ds G Q->ds.length=ps.length)(tb:ao)
  (hU:∀(cdv:ε) (A:aL) (outer:List dm) (s:θ) (H:Hp) (E:XK),fz k (A.deeper (envOfC qual (Ξ st) s.heap.objs.size f cdv)) ->
   qj (Cr P w K mg base N qual (Ξ st) f cdv A outer s H E) (fu st) tb)
  (sX:∀ds G Q,sp ds G Q->tb (bo Q) (bD N ds) G):xw P w K mg base (k+1) f fd ps sp:=Yo F S hN len tb (fun cdv A outer s H E hr=>(hU cdv A outer s H E hr).of) sX
end L3
namespace L3
open PySem PySem.Spec PyProof.Rows L2
structure pH(K:η)(C:ζ)(f:ξ):Prop where
 ge:rh K C
 hd:uZ K C=true
 nm:dM K (.ref C) f=some none
def uJ(rs:List ξ)(f:ξ)(ta:aP):aP:=fun τ G Q=>ta τ G fun x G1=>match x with
 |.obj p=>∃z fs i,G1 p=some (.gen (lh z fs))/\z∈rs/\fs.lookup f=some i/\Q (.int i) G1
 |_=>False
theorem Hr(f:ξ):∀fs:List (ξ×Int),(fs.map fun p=>(p.1,V.int p.2)).lookup f=(fs.lookup f).map V.int
 |[]=>rfl
 |p::fs=>by
  rw[ak,cz,cz,Hr f fs];cases f==p.1<;>rfl
theorem NO{K:η}{C:ζ}{od:aK}{f:ξ}{u:ε}(a:pH K C f)(hl:rA f od=some (some u)):wL K C (some od) f=some (.value u):=by
 obtain⟨cd,hc,hd⟩:=PySem.W.any_some a.hd;unfold wL PySem.W.ownOf;rw[hc,iU,a.nm,iU];dsimp only[iU];rw[hd,if_pos rfl,hl];rfl
section
variable {X:Cx} {a:υ} {ta:aP} {pos:aQ} {f:ξ}
theorem NN{rs:List ξ}(hk:∀z∈rs,∀C,dQ X.K z C->pH X.K C f)(ha:bS X a ta)(hb:attributeBase a f X.env (eval a X.env)=eval a X.env:=by rfl):bS X (.Attribute a f pos) (uJ rs f ta):=by
 intro pins s σ H Q I ⟨τ,G,Q3,RS,RG,h,k⟩;refine Vi hb (bN (ha pins s σ H (fun v H1=>∃p z fs i,v=.ref p/\lh z fs X.K p H1/\z∈rs/\fs.lookup f=some i/\Q (.int i) H1) I ⟨τ,G,_,RS,RG,h,fun v H1 d G1 h1 S1 R1 q1=>?_⟩) fun u s1 ⟨v,H1,I1,rv,p,z,fs,i,ev,ex,hz,hl,q⟩=>?_)
 ·cases d with
  |obj p=>
   obtain⟨z,fs,i,e1,hz,hl,q2⟩:=q1;exact⟨p,z,fs,i,iq h1,(R1 p _ e1).1,hz,hl,k _ H1 (.int i) G1 nv S1 R1 q2⟩
  |_=>exact q1.elim
 ·subst ev;cases (show u=aF p from rv);have cQ:fs≠[]:=fun w=>by
   rw[w] at hl;cases hl
  obtain⟨C,oe,od,mA,d,cn,J,wo,hns,hrel⟩:=N5 I1.bR ex cQ;obtain⟨od2,h2,lk⟩:=Vj hns;rw[wo] at h2;cases h2;have hf:=hrel f;rw[Hr,hl] at hf;obtain⟨u,hu,ru⟩:=sG.some_of (v:=V.int i) (o:=mA f) hf;obtain⟨tk,rfl⟩:=(show ∃t,u=nE i t from ru);have A1:=hk z hz C cn;exact exc_value A1.ge I1.ir J (NO A1 (by rw[lk,hu])) rfl ⟨.int i,H1,I1.tok _,⟨tk,rfl⟩,q⟩
theorem Ae{rs:List ξ}(hk:∀z∈rs,∀C,dQ X.K z C->pH X.K C f)(ha:QE X a ta)(hb:attributeBase a f X.env (eval a X.env)=eval a X.env:=by rfl):QE X (.Attribute a f pos) (uJ rs f ta):=⟨NN hk ha.of hb⟩
end
end L3
namespace L3
open PySem PySem.Spec PyProof.Rows L2
theorem NM{K:η}{C B:ζ}{init:Option ε}{newId:String}(e:excIn K C (.ref B::iA) init newId=true):∃cd,jb K C=some cd/\cd.mro=.ref C::.ref B::iA/\cd.hasDict=true:=by
 obtain⟨nm,qn,N,bs,sn,sub,ab,col,dd,k0,k1,k2,k3,k5,lk⟩:=C4 e;unfold jb;rw[lk];exact⟨_,rfl,rfl,rfl⟩
theorem NL{K:η}{C:ζ}{bm:List ε}{init:Option ε}{newId:String}(e:excIn K C bm init newId=true):(jb K C).isSome=true:=by
 obtain⟨nm,qn,N,bs,sn,sub,ab,col,dd,k0,k1,k2,k3,k5,lk⟩:=C4 e;unfold jb;rw[lk];rfl
theorem NK{K:η}{f:ζ}{T:ε}(h:rq K (.ref f)=some T):∃o,K.lookup f=some o/\o.cls=T:=by
 unfold rq at h;cases q:K.lookup f with
 |none=>simp[q] at h
 |some o=>
  simp[q] at h;exact⟨o,rfl,h⟩
def zA:E3:=fun _ _=>False
theorem wd{X:Cx}:md (gJ X.prog X.w X.base) X (lT X.K zA):=fun _ _ _ _ _ _ _ h=>by
 obtain⟨_,_,_,_,_,_,_,_,_,_,_,_,_,_,_,_,_,_,_,z,_⟩:=h;exact z.elim
theorem si{us:List ε}(h:us.length=1):∃a,us=[a]:=List.length_eq_one_iff.mp h
theorem iQ{us:List ε}(h:us.length=2):∃a b,us=[a,b]:=by
 rcases us with _|⟨a,us⟩
 ·cases h
 ·obtain⟨b,rfl⟩:=si (us:=us) (Nat.succ.inj h);exact⟨a,b,rfl⟩
theorem Eo{us:List ε}(h:us.length=3):∃a b c,us=[a,b,c]:=by
 rcases us with _|⟨a,us⟩
 ·cases h
 ·obtain⟨b,c,rfl⟩:=iQ (us:=us) (Nat.succ.inj h);exact⟨a,b,c,rfl⟩
end L3
namespace My
open PySem L2 L3
theorem NJ{cs:List af}{z:af}(h:z∈cs):z.1.toNat∣cZ cs:=P9 h
end My
namespace My
open PySem L2 L3
def yO:uk:=fun ds Q E=>∃(a b:Int),ds=[.int a,.int b]/\(a≤b->Q .aC nz)/\(b<a->E "TooGreat" [("many",a),("most",b)])
def Hq(E:E3):ao:=kf (cN (aq wU (ο 0) (ο 1))) (yg "TooGreat" ["many","most"] E (ν (ο 0) (ν (ο 1) (ae)))) (fZ)
theorem NI:∀ds Q E,yO ds Q E->Hq E (bo Q) (bD ["many","most"] ds) nz:=by
 rintro ds Q E ⟨a,b,rfl,q1,q2⟩;refine⟨fun h=>?_,fun h=>⟨nz,Sub.refl _,q1 ?_⟩⟩
 ·have h':a > b:=of_decide_eq_true h;exact⟨[a,b],rfl,rfl,q2 h'⟩
 ·have h':¬a > b:=of_decide_eq_false h;lia
theorem NH(G:Gp):Sub nz G:=fun _ _ e=>nomatch e
abbrev Y9(a b:Int):GO:=.gen (lh "TooGreat" [("many",a),("most",b)])
def yN(rs:List ξ):fc:=fun ds G Q=>∃(p:ζ) (a b:Int),ds=[.obj p]/\G p=some (Y9 a b)/\("TooGreat":ξ)∈rs/\∀G',Sub G G'->Q (.str "great") G'
def Oh(rs:List ξ):ao:=dh (wq (ν (eC (.str "clock")) (ν (eC (.str "number")) (ν (eC (.str "place")) (ν (eC (.str "row")) (ν (eC (.str "clocks")) (ν (eC (.str "text")) (ν (eC (.str "great")) (ae)))))))) (eM C5 (ο 1) (ν (eC (.bl true)) (ae))))
def Og(rs:List ξ):ao:=aX (kf (ze (pz (cN (EE rs (ο 0)))) (cN (aq (gZ true) (eM C6 (ο 1) (ν (eC (.bl true)) (ae))) (eC (.int 1))))) (dh (eC (.str "other"))) (fZ)) (Oh rs)
def Of(rs:List ξ):ao:=aX (bz (aq dy (ο 1) (fh (ν (qK rs "NoClocks" (ο 0)) (ν (qK rs "NoText" (ο 0)) (ν (qK rs "TooGreat" (ο 0)) (ae)))))) (hName 1)) (Og rs)
def Ho(rs:List ξ):ao:=aX (bz (fh (ν (qK rs "NoClock" (ο 0)) (ν (qK rs "NoNumber" (ο 0)) (ν (qK rs "NoPlace" (ο 0)) (ν (qK rs "NoRow" (ο 0)) (ae)))))) (hName 1)) (Of rs)
theorem Oe(rs:List ξ):∀ds G Q,yN rs ds G Q->Ho rs (bo Q) (bD ["e","marks"] ds) G:=by
 rintro ds G Q ⟨p,a,b,rfl,hp,hr,q⟩;refine⟨_,_,hp,hr,_,_,hp,hr,_,_,hp,hr,_,_,hp,hr,fun p1 G1 n1=>?_⟩;have hp1:=n1.sub _ _ hp;have b1:(("TooGreat":ξ)=="NoClock")=false:=by decide
 have b2:(("TooGreat":ξ)=="NoNumber")=false:=by decide
 have b3:(("TooGreat":ξ)=="NoPlace")=false:=by decide
 have b4:(("TooGreat":ξ)=="NoRow")=false:=by decide
 have b5:(("TooGreat":ξ)=="NoClocks")=false:=by decide
 have b6:(("TooGreat":ξ)=="NoText")=false:=by decide
 have b7:(("TooGreat":ξ)=="TooGreat")=true:=by decide
 rw[b1,b2,b3,b4] at n1;refine⟨_,_,hp1,hr,_,_,hp1,hr,_,_,hp1,hr,fun p2 G2 n2=>?_⟩;rw[b5,b6,b7] at n2;have hp2:=n2.sub _ _ hp1;refine⟨_,_,n2.sub _ _ n1.at_,n2.at_,by decide,fun p3 G3 n3=>?_⟩;have hp3:=n3.sub _ _ hp2;refine⟨_,_,hp3,hr,fun h=>(nomatch h),fun _=>?_⟩;refine⟨⟨p3,_,rfl,n3.at_⟩,_,[false,false,false,false,false,false,true],n3.at_,rfl,_,_,rfl,rfl,bp _,fun h=>?_,fun _=>?_⟩
 ·exact absurd h (by decide)
 refine⟨⟨p3,_,rfl,n3.at_⟩,_,[false,false,false,false,false,false,true],6,n3.at_,rfl,rfl,fun i hi=>?_,by decide,.str "great",rfl,fK (q G3 ((n1.sub.trans n2.sub).trans n3.sub))⟩
 match i,hi with
 |0,_=>rfl
 |1,_=>rfl
 |2,_=>rfl
 |3,_=>rfl
 |4,_=>rfl
 |5,_=>rfl
end My
namespace My
open PySem L2 L3
theorem Hn:∀(xs:List Nat),fY (xs.map nD)=some (xs.map fun x=>Dat.D.int (x:Nat))
 |[]=>rfl
 |x::xs=>by
  rw[ak,fY,Hn xs];rfl
theorem Hm:∀xs:List Nat,Dat.ig (xs.map fun x=>Dat.D.int (x:Nat))=0
 |[]=>rfl
 |x::xs=>by
  rw[ak,Dat.ig,Hm xs];rfl
theorem Hl:∀xs:List Nat,Dat.lj (xs.map fun x=>Dat.D.int (x:Nat)) (xs.map fun x=>Dat.D.int (x:Nat))=true
 |[]=>rfl
 |x::xs=>by
  show ((Dat.D.int (x:Nat)).gv (.int (x:Nat))&&Dat.lj (xs.map fun x=>Dat.D.int (x:Nat)) (xs.map fun x=>Dat.D.int (x:Nat)))=true;rw[Hl xs];simp[Dat.D.gv]
end My
namespace My
open PySem L2 L3
def qA(f:Nat->Nat)(n:Nat):List Dat.D:=(aA n).map fun x=>.int (f x:Nat)
theorem Hk(f:Nat->Nat)(n:Nat):fY (iC f n)=some (qA f n):=by
 unfold iC qA;have:=Hn ((aA n).map f);rw[bV,bV] at this;exact this
theorem Od(f:Nat->Nat)(n:Nat):(Dat.D.lst (qA f n)).lY≤50:=by
 show Dat.ig (qA f n)+1≤50;have:=Hm ((aA n).map f);rw[bV] at this;show Dat.ig ((aA n).map fun x=>.int (f x:Nat))+1≤50;rw[show (fun x=>Dat.D.int ((f x:Nat):Int))=(fun x=>Dat.D.int ((x:Nat):Int)) ∘ f from rfl,this];decide
theorem Oc(f:Nat->Nat)(n:Nat):(Dat.D.lst (qA f n)).gv (.lst (qA f n))=true:=by
 show Dat.lj (qA f n) (qA f n)=true;have:=Hl ((aA n).map f);rw[bV] at this;exact this
end My
namespace My
open PySem L2 L3
def oj(cs:List af)(b:Nat):List D:=iC (fun j=>dR cs j b) (cs.length+1)
theorem Ob(cs:List af)(b:Nat):(wR cs b).map D.int=oj cs b:=by
 unfold wR oj iC;rw[bV];rfl
def qC:uk:=fun ds Q E=>∃(cs:List af) (b:Nat),ds=[gY cs,.int b]/\(10<cs.length->E "TooGreat" [("many",((cs.length:Nat):Int)),("most",10)])/\(cs.length≤10->(∀c∈cs,Valid c/\c.1≤1000)/\cs.length≤9/\b<10^60/\∀p G',cw nz p (.lst (oj cs b)) G'->Q (.obj p) G')
def Oa(E:E3):ao:=bz (gf ["counted","part"] [5] (vV (ν (ο 2) (ν (ο 4) (ae)))) (mT 2 (eZ (hName 0) (eZ (hName 1) (mU)))) (eQ) (aq dy (ο 0) (aq eY (ο 2) (ο 1)))) (hName 2)
def N9(E:E3):ao:=aX (bz (bx xb (ν (ο 3) (ν (ο 1) (ae)))) (hName 5)) (Oa E)
def N8(E:E3):ao:=dh (ο 2)
def Hj(E:E3):ao:=aX (kr (ub (bx xc (ν (ο 0) (ae)))) (mT 2 (eZ (hName 3) (eZ (hName 4) (mU)))) ((N9 E))) (N8 E)
def Nv(E:E3):ao:=aX (bz (aq eY (fh (ν (eC (.int 0)) (ae))) (aq dy (eL kv (ν (ο 0) (ae))) (eC (.int 1)))) (hName 2)) (Hj E)
def Hi(E:E3):ao:=aX (qg (nA yO E (ν (eL kv (ν (ο 0) (ae))) (ν (eC (.int 10)) (ae))))) (Nv E)
theorem Nu{Q:V3}{E:E3}{G G1:Gp}{cs:List af}{b:Nat}{p0:ζ}{x3 x4 x5:Option D}(hc:∀c∈cs,Valid c/\c.1≤1000)(hl:cs.length≤9)(hb:b<10^60)(m0:cw G p0 (.lst ((aj (cs.length+1) (0:Int)).map D.int)) G1)
  (q:∀p G',cw G p (.lst ((wR cs b).map D.int)) G'->Q (.obj p) G'):Hj E (bo Q) [some (gY cs),some (.int b),some (.obj p0),x3,x4,x5] G1:=OM hc hl hb m0 q
theorem Nt:∀ds Q E,qC ds Q E->Hi E (bo Q) (bD ["clocks","bound","tally","met","weight","many"] ds) nz:=by
 rintro ds Q E ⟨cs,b,rfl,q0,q1⟩;have hlm:(cs.map cD).length=cs.length:=π ..;refine⟨_,_,rfl,fun za G1 j1=>?_,fun za=>?_⟩
 ·have za:(((cs.map cD).length:Nat):Int)≤10:=za;obtain⟨hc,hl,hb,q⟩:=q1 (by lia);intro p0 G0 n0;have et:((((cs.map cD).length:Nat):Int)+1).toNat=cs.length+1:=by rw[hlm];lia
  refine⟨_,n0.at_,⟨by rw[hlm];lia,by rw[hlm];lia⟩,?_,fun p1 G2 n1=>?_⟩
  ·rw[et];exact av (show 1*(cs.length+1)≤100 by lia) (by decide)
  rw[et,HN] at n1;refine Nu hc hl hb (G:=nz) ⟨rfl,NH _,n1.at_⟩ fun p G' n=>q p G' ?_;rw[←Ob];exact n
 ·have za:(10:Int)<(((cs.map cD).length:Nat):Int):=za;have:=q0 (by lia);show E "TooGreat" [("many",(((cs.map cD).length:Nat):Int)),("most",10)];rw[hlm];exact this
def vF:fc:=fun ds G Q=>∃(cs:List af) (b:Nat),ds=[gY cs,.int b]/\(∀c∈cs,Valid c/\c.1≤1000)/\cs.length≤60/\b≤10000/\∀p G',cw G p (.lst (oj cs b)) G'->Q (.obj p) G'
def Nr:ao:=zR (ο 2) (bx yn (ν (ο 0) (ν (ο 3) (ae)))) (eC (.int 1)) (· + ·)
def Nq:ao:=dh (ο 2)
def Np:ao:=aX (kr (kU (ν (ο 1) (ae))) (hName 3) (Nr)) Nq
def Hh:ao:=aX (bz (aq eY (fh (ν (eC (.int 0)) (ae))) (aq dy (eL kv (ν (ο 0) (ae))) (eC (.int 1)))) (hName 2)) Np
theorem Nn:∀ds G Q,vF ds G Q->Hh (bo Q) (bD ["clocks","bound","found","number"] ds) G:=by
 rintro ds G Q ⟨cs,b,rfl,ok,hl,hn,q⟩;have hlm:(cs.map cD).length=cs.length:=π ..;intro p0 G0 n0;refine⟨_,n0.at_,⟨by rw[hlm];lia,by rw[hlm];lia⟩,?_,fun p G1 n1=>?_⟩
 ·rw[hlm];exact da (by show 1*((cs.length:Int)+1).toNat≤1000;lia)
 rw[hlm,show ((cs.length:Int)+1).toNat=cs.length+1 by lia,zeros] at n1;have m1:cw G p (.lst (oj cs 0)) G1:=⟨n0.sub.of_none n1.aC,n0.sub.trans n1.sub,n1.at_⟩;refine⟨⟨by lia,by lia⟩,?_⟩;show oH _ _ _ _ (jj 0 (((b:Nat):Int)).toNat) _ _;rw[cB,CH];refine nS (fun ds τ G'=>∃(k:Nat) (x3:Option D),k≤b/\ds=((aA b).drop k).map nD/\τ=[some (gY cs),some (.int b),some (.obj p),x3]/\cw G p (.lst (oj cs k)) G') (fun _ _ _ _=>trivial) ?_ ?_ _ _ _ ⟨0,none,bp _,by rw[rK],rfl,m1⟩
 ·rintro d ds τ G' N ⟨k,x3,hk,e,rfl,m2⟩ hN;have hkb:k<b:=by
   refine Nat.lt_of_le_of_ne hk fun z=>?_;rw[z,ik (by rw[cb];lia)] at e;cases e
  have ed:(aA b).drop k=k::(aA b).drop (k+1):=by
   rw[dX (by rw[cb];exact hkb),uz]
  rw[ed] at e;cases e;have hx:(cs.filter (bJ (k:Int))).length<cs.length+1:=Nat.lt_succ_of_le (lH _ _);refine⟨cs,(k:Int),rfl,fun c hc=>(ok c hc).1.1,by lia,?_⟩;refine⟨_,_,m2.at_,P5 hx,_,(cs.filter (bJ (k:Int))).length,m2.at_,by show sV (iC _ _).length _=_;rw[DX];exact Im hx,hN _ _ ⟨k+1,_,hkb,rfl,rfl,⟨m2.aC,Sub.tO m2.sub m2.aC,?_⟩⟩⟩;rw[mF];have et:(iC (fun j=>dR cs j k) (cs.length+1)).set (cs.filter (bJ (k:Int))).length (nD (dR cs (cs.filter (bJ (k:Int))).length k+1))=oj cs (k+1):=by
   rw[P4 hx];unfold oj;congr 1;funext j;rw[qE];by_cases hj:j=(cs.filter (bJ (k:Int))).length
   ·rw[if_pos hj,if_pos hj.symm,←hj]
   ·rw[if_neg hj,if_neg (de hj),uv]
  rw[←et];rfl
 ·rintro τ G' ⟨k,x3,hk,e,rfl,m2⟩;have hkb:k=b:=by
   refine Nat.le_antisymm hk (pR fun z=>?_);rw[dX (by rw[cb];exact z)] at e;cases e
  rw[hkb] at m2;exact fK (q p G' m2)
theorem C1{cs:List af}(h:∀c∈cs,Valid c)(j t:Nat):∀b:Nat,dR cs j (t*cZ cs+b)=dR cs j (t*cZ cs)+dR cs j b
 |0=>rfl
 |b+1=>by
  have hf:cs.filter (bJ ((t*cZ cs+b:Nat):Int))=cs.filter (bJ ((b:Nat):Int)):=by
   refine List.filter_congr fun c hc=>?_;obtain⟨k,hk⟩:=NJ hc;have hp:=(h c hc).1;refine qw.mpr ?_;rw[cP,cP];have e:((t*cZ cs+b:Nat):Int)-c.2=c.1*((t:Int)*(k:Int))+((b:Int)-c.2):=by
    rw[qt,cY,hk,cY,cm (by lia),dH c.1 (k:Int),←dI,dH c.1];lia
   rw[e];exact⟨fun z=>(Int.dvd_add_right (dP _ _)).mp z,fun z=>nq (dP _ _) z⟩
  rw[←Nat.add_assoc,qE,qE,hf,C1 h j t b];lia
theorem Hg{cs:List af}(h:∀c∈cs,Valid c)(j:Nat):∀t:Nat,dR cs j (t*cZ cs)=t*dR cs j (cZ cs)
 |0=>by rw[Nat.zero_mul,Nat.zero_mul];rfl
 |t+1=>by
  rw[uu,C1 h,Hg h j t,uu]
theorem yM(cs:List af)(j b:Nat):dR cs j b≤b:=by
 unfold dR;exact av (lH _ _) (by rw[cb];exact Ψ _)
theorem Hf{α:Type}(f g:α->D):∀xs:List α,qx (xs.map f) (xs.map g)=xs.map fun x=>D.tup [f x,g x]
 |[]=>rfl
 |x::xs=>by
  show D.tup [f x,g x]::qx (xs.map f) (xs.map g)=D.tup [f x,g x]::xs.map _;rw[Hf f g xs]
def tU:fc:=fun ds G Q=>∃(cs:List af) (M:Nat),ds=[gY cs]/\(∀c∈cs,Valid c/\c.1≤(M:Int))/\0<M/\M^cs.length≤1000^12/\cs.length≤60/\Q (.int (cZ cs:Nat)) G
def Nm:ao:=bz (aq eY (aq lO (ο 1) (bx yo (ν (ο 1) (ν (ο 2) (ae))))) (ο 2)) (hName 1)
def Nl:ao:=dh (ο 1)
def Nk:ao:=aX (kr (lg (ο 0)) (mT 2 (eZ (hName 2) (eZ (hName 3) (mU)))) (Nm)) Nl
def He:ao:=aX (bz (eC (.int 1)) (hName 1)) Nk
theorem Nj:∀ds G Q,tU ds G Q->He (bo Q) (bD ["clocks","found","step","rest"] ds) G:=by
 rintro ds G Q ⟨cs,M,rfl,ok,hM,hl,_,q⟩;refine nS (fun ds τ G'=>G'=G/\∃(zs:List af) (a:Nat) (x2 x3:Option D),ds=zs.map cD/\τ=[some (gY cs),some (.int a),x2,x3]/\(∀c∈zs,Valid c/\c.1≤(M:Int))/\0<a/\a*M^zs.length≤1000^12/\vB zs a=cZ cs) (fun _ _ _ _=>trivial) ?_ ?_ _ _ _ ⟨rfl,cs,1,none,none,rfl,rfl,ok,by decide,?_,rfl⟩
 ·rintro d ds τ G' N ⟨rfl,zs,a,x2,x3,e,rfl,okz,ha,hb,hr⟩ hN;cases zs with
  |nil=>cases e
  |cons z zs=>
   cases e;obtain⟨s,r⟩:=z;obtain⟨v,hs⟩:=okz _ Γ;have hs1:0<s:=v.1;have hs2:s≤(M:Int):=hs;obtain⟨n,rfl⟩:∃n:Nat,s=(n:Int):=⟨s.toNat,by lia⟩;have hg:0<bP a n:=p9 _ ha;have hga:bP a n≤a:=jc ha (iW _ _);have hpz:0<M^zs.length:=Nat.pow_pos hM;have hb2:a*n*M^zs.length≤1000^12:=by
    refine av ?_ hb;rw[aB,iJ,gM (M^zs.length) M,←nX];exact iV _ (tH _ (by lia))
   have han:a*n≤1000^12:=av (kl _ hpz) hb2;have ha12:a≤1000^12:=av (kl _ (by lia)) han;have hn12:n≤1000^12:=av (kO _ ha) han;have hbig:∀k:Nat,k≤1000^12->gh (k:Int):=fun k hk=>Jl (fV hk (by decide));refine⟨rfl,a,n,rfl,⟨by lia,hbig _ (av hga ha12)⟩,⟨?_,hbig _ hn12⟩,?_⟩
   ·rw[←gQ];exact hbig _ (av (qo _ _) ha12)
   have el:a / bP a n*n=aS a n:=by
    unfold aS;rw[gM a n,Nat.mul_div_assoc n (iW a n),gM]
   refine hN _ _ ⟨rfl,zs,aS a n,some (.int n),some (.int r),rfl,?_,fun c hc=>okz c (Δ _ hc),qQ ha (by lia),?_,hr⟩
   ·show [some (gY cs),some (D.int ((a:Int) / (bP a n:Nat)*(n:Int))),_,_]=_;rw[←gQ,←cY,el]
   ·refine av (iV _ ?_) hb2;exact jc (qO ha (by lia)) (nj (Nat.dvd_mul_right _ _) (Nat.dvd_mul_left _ _))
 ·rintro τ G' ⟨rfl,zs,a,x2,x3,e,rfl,okz,ha,hb,hr⟩;have:zs=[]:=by cases zs with
   |nil=>rfl
   |cons z zs=>cases e
  subst this;have hr':a=cZ cs:=hr;rw[←hr'] at q;exact fK q
 ·rw[Nat.one_mul];exact hl
def yL:fc:=fun ds G Q=>∃(cs:List af) (b:Nat),ds=[gY cs,.int b]/\(∀c∈cs,Valid c/\c.1≤1000)/\cs.length≤12/\cZ cs≤1000/\b<10^60/\∀p G',cw G p (.lst (oj cs b)) G'->Q (.obj p) G'
def Nh:ao:=dh (gf ["one","other"] [3] (vV (ν (bx vF (ν (ο 0) (ν (ο 2) (ae)))) (ν (ο 4) (ae)))) (mT 2 (eZ (hName 0) (eZ (hName 1) (mU)))) (eQ) (aq dy (aq eY (ο 2) (ο 0)) (ο 1)))
def Hd:ao:=aX (bz (bx vF (ν (ο 0) (ν (aq gb (ο 1) (aq eY (ο 3) (ο 2))) (ae)))) (hName 4)) Nh
def Ng:ao:=aX (bz (aq lO (ο 1) (ο 2)) (hName 3)) Hd
def Hc:ao:=aX (bz (bx tU (ν (ο 0) (ae))) (hName 2)) Ng
theorem Nf:∀ds G Q,yL ds G Q->Hc (bo Q) (bD ["clocks","bound","size","turns","rest"] ds) G:=by
 rintro ds G Q ⟨cs,b,rfl,ok,hl,hr,hb,q⟩;have hp:=(Jm ok hl).1;have hdm:=Nat.div_add_mod b (cZ cs);have hml:=fO b hp;have bg:∀n:Nat,n<10^60->gh (n:Int):=fun n h=>Jl (jP h (by decide));have hd:b / cZ cs≤b:=qo _ _;refine⟨cs,1000,rfl,ok,by decide,cW (by decide) hl,by lia,⟨mw.mpr hp,bg _ (by lia)⟩,?_⟩;show Hd (bo Q) [some (gY cs),some (.int b),some (.int (cZ cs:Nat)),some (.int ((b:Int) / ((cZ cs:Nat):Int))),none] G;rw[←gQ];refine⟨⟨bg _ (by lia),bg _ (by lia)⟩,?_⟩;have e1:(b:Int)-((b / cZ cs:Nat):Int)*((cZ cs:Nat):Int)=((b%cZ cs:Nat):Int):=by
  rw[←cY,gM (b / cZ cs)];lia
 refine⟨cs,b%cZ cs,by rw[←e1],ok,by lia,by lia,fun p1 G1 n1=>?_⟩;refine⟨cs,_,rfl,ok,by lia,by lia,fun p2 G2 n2=>?_⟩;refine⟨_,_,n2.at_,n2.sub _ _ n1.at_,?_⟩;have ez:qx (oj cs (cZ cs)) (oj cs (b%cZ cs))=(aA (cs.length+1)).map fun j=>D.tup [nD (dR cs j (cZ cs)),nD (dR cs j (b%cZ cs))]:=Hf (fun j=>nD (dR cs j (cZ cs))) (fun j=>nD (dR cs j (b%cZ cs))) _;rw[ez];refine⟨?_,?_⟩
 ·rw[π,cb];exact da (by lia)
 refine nP (guard:=fun G'=>lM G' (.obj p2) (oj cs (cZ cs))/\lM G' (.obj p1) (oj cs (b%cZ cs))) (fun τ=>∃x y,τ=[x,y,some (.int ((b / cZ cs:Nat):Int))]) (fun j=>D.tup [nD (dR cs j (cZ cs)),nD (dR cs j (b%cZ cs))]) (fun _=>true) (fun j=>nD (dR cs j b)) (G:=G2) ⟨n2.at_,n2.sub _ _ n1.at_⟩ (aA (cs.length+1)) [] _ ⟨none,none,rfl⟩ ?_ ?_
 ·rintro j hm τ K1 K2 ⟨_,_,rfl⟩ g1 g2;have hj:=yM cs j (cZ cs);refine⟨rfl,fun _=>⟨⟨bg _ (by lia),bg _ (by lia)⟩,?_⟩,nofun⟩;have e2:((b / cZ cs:Nat):Int)*((dR cs j (cZ cs):Nat):Int)+((dR cs j (b%cZ cs):Nat):Int)=((dR cs j b:Nat):Int):=by
   have hv:∀c∈cs,Valid c:=fun c hc=>(ok c hc).1;have:=C1 hv j (b / cZ cs) (b%cZ cs);rw[Hg hv,gM (b / cZ cs) (cZ cs),hdm] at this;rw[this,qt,cY]
  show K2 _ (D.int (((b / cZ cs:Nat):Int)*((dR cs j (cZ cs):Nat):Int)+((dR cs j (b%cZ cs):Nat):Int))) G2;rw[e2];exact g1 rfl _ ⟨_,_,rfl⟩
 ·intro p3 G3 n3;rw[filter_all,cX] at n3;exact fK (q p3 G3 ⟨(n1.sub.trans n2.sub).of_none n3.aC,(n1.sub.trans n2.sub).trans n3.sub,n3.at_⟩)
def rS:fc:=fun ds G Q=>∃(p q:ζ) (f:Nat->Nat) (n:Nat),ds=[.obj p,.obj q]/\G p=some (.lst (iC f n))/\G q=some (.lst (iC f n))/\n≤1000/\∀G',Sub G G'->Q (.bl true) G'
def GZ:ao:=dh (uK (wt "list" (ο 0)) (uK (aq (gZ false) (ο 0) (ο 1)) (eL Av (ν (gf ["one"] [] (lg (ο 0)) (hName 0) (eQ) (bx vK (ν (ο 0) (ae)))) (ae)))))
theorem Nd:∀ds G Q,rS ds G Q->GZ (bo Q) (bD ["found","due"] ds) G:=by
 rintro ds G Q ⟨p,q',f,n,rfl,hp,hq,hn,q⟩;show match lU "list" G (.obj p) with
  |some b=>_
  |none=>False
 rw[P6 hp];refine⟨fun _=>?_,nofun⟩;refine⟨_,_,IP hp (Hk _ _),IP hq (Hk _ _),Od _ _,fun _=>?_,fun h=>?_⟩
 ·refine⟨_,hp,by rw[DX];exact da hn,?_⟩;refine nP (guard:=fun G'=>G' p=some (.lst (iC f n))) (fun τ=>∃x,τ=[x]) (fun x=>nD (f x)) (fun _=>true) (fun _=>.bl true) (G:=G) hp (aA n) [] _ ⟨none,rfl⟩ ?_ ?_
  ·rintro x hm τ K1 K2 ⟨y,rfl⟩ h1 h2;exact⟨fun _=>⟨trivial,h1 rfl _ ⟨_,rfl⟩⟩,nofun⟩
  ·intro p3 G4 n4;rw[filter_all,cX] at n4;refine⟨_,_,n4.at_,Io (fun _=>true) _,?_⟩;have e:((aA n).map fun _=>true).all id=true:=by simp
   rw[e];exact fK (q _ n4.sub)
 ·have h':((Dat.D.lst (qA f n)).gv (.lst (qA f n)))=false:=h;rw[Oc] at h';cases h'
def yK:fc:=fun ds G Q=>∃(cs:List af),ds=[gY cs]/\10<cs.length/\Q (.bl true) G
def Nc(rs:List ξ):ao:=dh (uK (aq (gZ false) (uJ rs "many" (ο 1)) (eL kv (ν (ο 0) (ae)))) (aq (gZ false) (uJ rs "most" (ο 1)) (eC (.int 10))))
def Nb(rs:List ξ):ao:=aX (kf (ze (cN (aq (gZ true) (bx (yN rs) (ν (ο 1) (ae))) (eC (.str "great")))) (ze (pz (cN (bx vK (ν (uJ rs "many" (ο 1)) (ae))))) (pz (cN (bx vK (ν (uJ rs "most" (ο 1)) (ae))))))) (dh (eC (.bl false))) (fZ)) (Nc rs)
def HM(rs:List ξ):ao:=CC rs 1 (yb (zd qC (ν (ο 0) (ν (eC (.int 5)) (ae)))) (ya)) (Nb rs) (dh (eC (.bl false)))
theorem Na:∀ds G Q,yK ds G Q->HM ["TooGreat"] (bo Q) (bD ["clocks","e"] ds) G:=by
 rintro ds G Q ⟨cs,rfl,hgt,q⟩;refine⟨cs,5,rfl,fun _=>⟨by simp,fun p G2 n=>?_⟩,fun h=>absurd h (by lia)⟩;refine⟨p,_,_,rfl,n.at_,by simp,fun G3 s3=>⟨_,_,rfl,rfl,bp _,fun h=>absurd h (by decide),fun _=>?_⟩⟩;have hp:=s3 _ _ n.at_;refine⟨_,_,_,hp,by simp,rfl,trivial,nofun,fun _=>⟨_,_,_,hp,by simp,rfl,trivial,nofun,fun _=>?_⟩⟩;refine⟨_,_,_,hp,by simp,rfl,_,_,rfl,rfl,bp _,fun _=>⟨_,_,_,hp,by simp,rfl,_,_,rfl,rfl,bp _,?_⟩,fun h=>?_⟩
 ·exact AX (n.sub.trans s3) q
 ·have h':(((cs.length:Nat):Int)==(((cs.map cD).length:Nat):Int))=false:=h;rw[π,beq_self_eq_true] at h';cases h'
end My
namespace My
open PySem L2 L3
def mD:Option af->D
 |none=>.aC
 |some c=>cD c
def xU(a c:af):Option af->Prop
 |none=>∀x,¬(bJ x a=true/\bJ x c=true)
 |some b=>Valid b/\b.1≤a.1*c.1/\∀x,bJ x b=true↔bJ x a=true/\bJ x c=true
theorem M9{a c:af}(hc:Valid c)(h:∀k:Nat,k<c.1.toNat->¬bJ (a.2+a.1*(k:Int)) c=true):xU a c none:=by
 rintro x ⟨h1,h2⟩;obtain⟨t,ht⟩:=cP.mp h1;have h2:=cP.mp h2;have p:=hc.1;have m0:=cJ t (show c.1≠0 by lia);have m1:=cf t p;refine h (t%c.1).toNat (by lia) (cP.mpr ?_);rw[cm m0];have e:a.2+a.1*(t%c.1)-c.2=(x-c.2)+c.1*(-(a.1*(t / c.1))):=by
  have e0:=cR t c.1;have e1:t%c.1=t-c.1*(t / c.1):=by lia
  rw[e1,il,←ht,vw,←dI,dH a.1 c.1,dI];lia
 rw[e];exact nq h2 (dP _ _)
theorem M8{m n:Nat}{z:Int}:((aS m n:Nat):Int)∣z↔(m:Int)∣z/\(n:Int)∣z:=by
 rw[←rN,←rN (a:=(m:Int)),←rN (a:=(n:Int)),tz,tz,tz];exact⟨fun h=>⟨nY (lu m n) h,nY (kC m n) h⟩,fun h=>nj h.1 h.2⟩
theorem M7{a c:af}(ha:Valid a)(hc:Valid c){k:Nat}(h:bJ (a.2+a.1*(k:Int)) c=true):xU a c (some (((cZ [a,c]:Nat):Int),(a.2+a.1*(k:Int))%((cZ [a,c]:Nat):Int))):=by
 have er:cZ [a,c]=aS a.1.toNat c.1.toNat:=by
  show aS (aS 1 a.1.toNat) c.1.toNat=_;rw[Nat.lcm_one_left]
 have pa:=ha.1;have pc:=hc.1;have pl:0<aS a.1.toNat c.1.toNat:=qQ (by lia) (by lia);rw[er];have pli:(0:Int)<((aS a.1.toNat c.1.toNat:Nat):Int):=mw.mpr pl;refine⟨⟨pli,cJ _ (by lia),cf _ pli⟩,?_,fun x=>?_⟩
 ·have hd:aS a.1.toNat c.1.toNat≤a.1.toNat*c.1.toNat:=jc (qO (by lia) (by lia)) (Nat.lcm_dvd_mul _ _);have h3:((aS a.1.toNat c.1.toNat:Nat):Int)≤((a.1.toNat*c.1.toNat:Nat):Int):=uD.mpr hd;rw[cY,cm (by lia),cm (by lia)] at h3;exact h3
 ·have h':=cP.mp h;rw[cP,cP,cP];show ((aS a.1.toNat c.1.toNat:Nat):Int)∣x-(a.2+a.1*(k:Int))%((aS a.1.toNat c.1.toNat:Nat):Int)↔_;generalize hy:a.2+a.1*(k:Int)=y at h';have e1:((aS a.1.toNat c.1.toNat:Nat):Int)∣x-y%((aS a.1.toNat c.1.toNat:Nat):Int)↔((aS a.1.toNat c.1.toNat:Nat):Int)∣x-y:=by
   have e0:=cR y ((aS a.1.toNat c.1.toNat:Nat):Int);have:x-y%((aS a.1.toNat c.1.toNat:Nat):Int)=(x-y)+((aS a.1.toNat c.1.toNat:Nat):Int)*(y / ((aS a.1.toNat c.1.toNat:Nat):Int)):=by lia
   rw[this];exact Int.dvd_add_left (dP _ _)
  rw[e1,M8,cm (by lia),cm (by lia)];have e2:a.1∣x-y↔a.1∣x-a.2:=by
   rw[show x-y=(x-a.2)+a.1*(-(k:Int)) by rw[vw];lia];exact Int.dvd_add_left (dP _ _)
  have e3:c.1∣x-y↔c.1∣x-c.2:=by
   refine⟨fun z=>?_,fun z=>?_⟩
   ·rw[show x-c.2=(x-y)+(y-c.2) by lia];exact nq z h'
   ·rw[show x-y=(x-c.2)-(y-c.2) by lia];exact fP z h'
  rw[e2,e3]
def yJ:fc:=fun ds G Q=>∃(a c:af),ds=[cD a,cD c]/\(Valid a/\a.1≤10^9)/\(Valid c/\c.1≤1000)/\∀m,xU a c m->Q (mD m) G
def M6:ao:=dh (ky (ν (ο 3) (ν (aq jv (aq dy (aq dE (ο 0) (eC (.int 1))) (aq eY (aq dE (ο 0) (eC (.int 0))) (ο 2))) (ο 3)) (ae))))
def M5:ao:=kf (cN (bx xg (ν (ο 1) (ν (aq dy (aq dE (ο 0) (eC (.int 1))) (aq eY (aq dE (ο 0) (eC (.int 0))) (ο 2))) (ae))))) (aX (bz (bx tU (ν (ky (ν (ο 0) (ν (ο 1) (ae)))) (ae))) (hName 3)) M6) (fZ)
def M4:ao:=dh (eC .aC)
def HL:ao:=aX (kr (kU (ν (aq dE (ο 1) (eC (.int 0))) (ae))) (hName 2) (M5)) M4
theorem M3:∀ds G Q,yJ ds G Q->HL (bo Q) (bD ["one","other","turn","size"] ds) G:=by
 rintro ds G Q ⟨a,c,rfl,⟨va,ha⟩,⟨vc,hc⟩,q⟩;have pa:=va.1;have pc:=vc.1;refine⟨_,rfl,⟨by lia,by lia⟩,?_⟩;show oH _ _ _ _ (jj 0 c.1.toNat) _ _;rw[CH];refine nS (fun ds τ G'=>∃(k:Nat) (x2:Option D),k≤c.1.toNat/\(∀j:Nat,j<k->¬bJ (a.2+a.1*(j:Int)) c=true)/\ds=((aA c.1.toNat).drop k).map nD/\τ=[some (cD a),some (cD c),x2,none]/\G'=G) (fun _ _ _ _=>trivial) ?_ ?_ _ _ _ ⟨0,none,bp _,nofun,by rw[rK],rfl,rfl⟩
 ·rintro d ds τ G' N ⟨k,x2,hk,hn,e,rfl,rfl⟩ hN;have hkb:k<c.1.toNat:=by
   refine Nat.lt_of_le_of_ne hk fun z=>?_;rw[z,ik (by rw[cb];lia)] at e;cases e
  have ed:(aA c.1.toNat).drop k=k::(aA c.1.toNat).drop (k+1):=by
   rw[dX (by rw[cb];exact hkb),uz]
  rw[ed] at e;cases e;have ba:gh a.1:=ff (by lia) (by lia);have bk:gh ((k:Nat):Int):=ff (by lia) (by lia);refine⟨_,rfl,_,rfl,⟨ba,bk⟩,c,a.2+a.1*(k:Int),rfl,pc,fun g=>?_,fun g=>?_⟩
  ·have hm:=M7 va vc g;have hp:0<cZ [a,c]:=by have:=hm.1.1;exact mw.mp this
   refine⟨[a,c],10^9,rfl,fun z hz=>?_,by decide,by show (10^9)^2≤1000^12;decide,by show 2≤60;decide,?_⟩
   ·simp only[aa,aZ,or_false] at hz;rcases hz with rfl|rfl
    ·exact⟨va,by have:((10^9:Nat):Int)=10^9:=rfl;lia⟩
    ·exact⟨vc,by have:((10^9:Nat):Int)=10^9:=rfl;lia⟩
   refine⟨_,rfl,_,rfl,⟨ba,bk⟩,mw.mpr hp,?_⟩;exact fK (q _ hm)
  ·refine hN _ _ ⟨k+1,_,hkb,fun j hj=>?_,rfl,rfl,rfl⟩;by_cases z:j=k
   ·rw[z,g];exact nofun
   ·exact hn j (by lia)
 ·rintro τ G' ⟨k,x2,hk,hn,e,rfl,rfl⟩;have hkb:k=c.1.toNat:=by
   refine Nat.le_antisymm hk (pR fun z=>?_);rw[dX (by rw[cb];exact z)] at e;cases e
  rw[hkb] at hn;exact fK (q none (M9 vc hn))
end My
namespace L2
open PySem PySem.Spec PyProof.Rows
section
variable {X:Cx} {tg iter elt:υ} {ifs:List υ} {scope:dZ} {pos:aQ} {own:List ξ} {js:List Nat} {g:TG} {tc:TT} {te:TE} {z:ξ}
def LP(outer fsc:dZ):dZ:={ outer with names:=outer.names.map fun (n,k)=>if (k==.free&&fsc.kind==.function&&fsc.names.lookup n==some .cell) then (n,.cell) else (n,k)}
end
end L2
namespace L2
open PySem
theorem M1{X:Cx}{outer fsc scope:dZ}{own own2:List ξ}{js js2:List Nat}{s:θ}{H:Hp}{fp:List ζ}{N2:List ξ}(he:X.env.scope=fsc)(hN:(X.cmp outer own js s H fp).N=N2)(C:dJ N2 (LP outer fsc) scope own2 js2):
  dJ (X.cmp outer own js s H fp).N (X.cmp outer own js s H fp).env.scope scope own2 js2:=by
 subst he hN;exact C
end L2
namespace My
open PySem L2 L3
def wx:Nat->Nat->Nat
 |_,0=>1
 |0,_+1=>0
 |t+1,s+1=>wx t s+wx t (s+1)
inductive pG(c:af):List af->List (Option af)->Prop
 |nil:pG c [] []
 |snoc {l os a m}:pG c l os->xU a c m->pG c (l++[a]) (os++[m])
theorem pG.len{c:af}{l:List af}{os:List (Option af)}(h:pG c l os):os.length=l.length:=by
 induction h with
 |nil=>rfl
 |snoc _ _ ih=>simp[ih]
theorem pG.count{c:af}{l:List af}{os:List (Option af)}(h:pG c l os)(x:Int):((os.filterMap id).filter (bJ x)).length=if bJ x c=true then (l.filter (bJ x)).length else 0:=by
 induction h with
 |nil=>simp
 |@snoc l os a m _ hm ih=>
  rw[rJ,fX,Ω,ih,fX,Ω];cases m with
  |none=>
   show _+(([]:List af).filter (bJ x)).length=_;rw[cK,List.filter_nil,fo,uv];by_cases hc:bJ x c=true
   ·have:¬bJ x a=true:=fun z=>hm x ⟨z,hc⟩;rw[if_pos hc,if_pos hc,if_neg this];rfl
   ·rw[if_neg hc,if_neg hc]
  |some b=>
   show _+([b].filter (bJ x)).length=_;rw[cK,cK,List.filter_nil];by_cases hc:bJ x c=true
   ·by_cases ha:bJ x a=true
    ·rw[if_pos hc,if_pos hc,if_pos ha,if_pos ((hm.2.2 x).mpr ⟨ha,hc⟩)];rfl
    ·rw[if_pos hc,if_pos hc,if_neg ha,if_neg (fun z=>ha ((hm.2.2 x).mp z).1)]
   ·rw[if_neg hc,if_neg hc,if_neg (fun z=>hc ((hm.2.2 x).mp z).2)];rfl
theorem pG.ok{c:af}{l:List af}{os:List (Option af)}(h:pG c l os){B:Int}(hc:Valid c/\c.1≤1000)(hl:∀a∈l,Valid a/\a.1≤B)(hB:0≤B):∀b∈os.filterMap id,Valid b/\b.1≤B*1000:=by
 induction h with
 |nil=>nofun
 |@snoc l os a m _ hm ih=>
  intro b hb;rw[rJ] at hb;rcases cI.mp hb with z|z
  ·exact ih (fun a ha=>hl a (eG _ ha)) b z
  ·cases m with
   |none=>cases z
   |some d=>
    have:b=d:=by simpa using z
    subst this;obtain⟨v1,v2⟩:=hl a (aV _ Γ);refine⟨hm.1,gR hm.2.1 ?_⟩;have p0:=v1.1;exact gR (fy hc.2 (by lia)) (mx v2 (by decide))
def vC(l:List af):D:=.eS (l.map cD)
def fL(f:Nat->List af):List D:=[vC (f 0),vC (f 1),vC (f 2),vC (f 3)]
def o9(f:Nat->List af)(i:Nat)(v:List af):Nat->List af:=fun k=>if k=i then v else f k
theorem HK(f:Nat->List af){s:Nat}(h:s<4):lE (fL f) (s:Int)=some (vC (f s)):=by
 have:s=0∨s=1∨s=2∨s=3:=by lia
 rcases this with rfl|rfl|rfl|rfl<;>rfl
theorem NG(f:Nat->List af){s:Nat}(h:s<4)(v:List af):(fL f).set s (vC v)=fL (o9 f s v):=by
 have:s=0∨s=1∨s=2∨s=3:=by lia
 rcases this with rfl|rfl|rfl|rfl<;>rfl
theorem NF(os:List (Option af)):(os.filter fun o=>o.isSome).map mD=(os.filterMap id).map cD:=by
 induction os with
 |nil=>rfl
 |cons o os ih=>
  cases o with
  |none=>exact ih
  |some c=>
   show cD c::((os.filter fun o=>o.isSome).map mD)=cD c::((os.filterMap id).map cD);rw[ih]
def yI:fc:=fun ds G Q=>∃(cs:List af) (b:Nat),ds=[gY cs,.int b]/\(∀c∈cs,Valid c/\c.1≤1000)/\cs.length≤3/\b<10^60/\∀p G',cw G p (.lst (oj cs b)) G'->Q (.obj p) G'
def ND:ao:=bz (sy (aq tT (aq dE (ο 2) (aq dy (ο 4) (eC (.int 1)))) (gf ["met"] [] (lg (ο 5)) (hName 0) (cN (aq (CJ true) (ο 0) (eC .aC))) (ο 0)))) (hSub (ο 2) (aq dy (ο 4) (eC (.int 1))))
def HJ:ao:=aX (bz (gf ["met"] [3] (lg (aq dE (ο 2) (ο 4))) (hName 0) (eQ) (bx yJ (ν (ο 0) (ν (ο 1) (ae))))) (hName 5)) ND
def HI:ao:=kr (lg (fh (ν (eC (.int 2)) (ν (eC (.int 1)) (ν (eC (.int 0)) (ae)))))) (hName 4) (HJ)
def NC:ao:=dh (zD (fh (ν (ο 7) (ν (ο 8) (ν (aq gb (aq dE (ο 6) (eC (.int 2))) (aq eY (eC (.int 3)) (aq dE (ο 6) (eC (.int 3))))) (ν (aq dE (ο 6) (eC (.int 3))) (ae)))))) (wg) (se (aq dy (eL kv (ν (ο 0) (ae))) (eC (.int 1)))))
def NB:ao:=aX (bz (aq dy (aq gb (aq dE (ο 6) (eC (.int 1))) (aq eY (eC (.int 2)) (aq dE (ο 6) (eC (.int 2))))) (aq eY (eC (.int 3)) (aq dE (ο 6) (eC (.int 3))))) (hName 8)) NC
def NA:ao:=aX (bz (aq gb (aq dy (aq gb (ο 1) (aq dE (ο 6) (eC (.int 1)))) (aq dE (ο 6) (eC (.int 2)))) (aq dE (ο 6) (eC (.int 3)))) (hName 7)) NB
def HH:ao:=aX (bz (gf ["mets"] [1] (lg (ο 2)) (hName 0) (eQ) (eL Au (ν (gf ["step","rest"] [1] (lg (ο 0)) (mT 2 (eZ (hName 0) (eZ (hName 1) (mU)))) (eQ) (aq lO (aq gb (aq gb (aq dy (ο 2) (ο 0)) (eC (.int 1))) (ο 1)) (ο 0))) (ae)))) (hName 6)) NA
def Nz:ao:=aX (kr (lg (ο 0)) (hName 3) (HI)) HH
def HG:ao:=aX (bz (fh (ν (sy (fh (ν (ky (ν (eC (.int 1)) (ν (eC (.int 0)) (ae)))) (ae)))) (ν (sy (fh (ae))) (ν (sy (fh (ae))) (ν (sy (fh (ae))) (ae)))))) (hName 2)) Nz
def YH(p:ζ)(G G':Gp):Prop:=∀a o,a≠p->G a=some o->G' a=some o
theorem C0{D3:gg}{G0 G:Gp}{p:ζ}{f:Nat->List af}{c:af}{s:Nat}{x0 x1 x5 x6 x7 x8:Option D}(hs:s<3)(hc:Valid c/\c.1≤1000)(hf:∀a∈f s,Valid a/\a.1≤10^6)(hl:(f s).length≤100)(hl1:(f (s+1)).length≤100)
  (m:cw G0 p (.lst (fL f)) G) (q:∀G' y5 os,pG c (f s) os->cw G0 p (.lst (fL (o9 f (s+1) (f (s+1)++os.filterMap id)))) G'->YH p G G'->D3.nx [x0,x1,some (.obj p),some (cD c),some (.int (s:Nat)),y5,x6,x7,x8] G'):
  HJ D3 [x0,x1,some (.obj p),some (cD c),some (.int (s:Nat)),x5,x6,x7,x8] G:=by
 refine⟨_,_,m.at_,HK f (by lia),?_,?_⟩
 ·show ((f s).map cD).length≤au;rw[π];exact da (by lia)
 refine xh (fun ds acc τ G'=>∃(dn rs:List af) (os:List (Option af)) (x:Option D),dn++rs=f s/\ds=rs.map cD/\acc=os.map mD/\pG c dn os/\τ=[x,some (cD c)]/\G'=G) (fun _ _ _ _ _=>trivial) ?_ ?_ _ _ _ _ ⟨[],f s,[],none,rfl,rfl,rfl,.nil,rfl,rfl⟩
 ·rintro d ds acc τ G' K1 K2 ⟨dn,rs,os,x,e1,e2,rfl,ho,rfl,rfl⟩ g1 g2;cases rs with
  |nil=>cases e2
  |cons a rs=>
   cases e2;have ham:a∈f s:=by rw[←e1];exact aV _ Γ
   obtain⟨va,ha⟩:=hf a ham;refine⟨fun _=>⟨a,c,rfl,⟨va,by lia⟩,hc,fun mo hm=>?_⟩,nofun⟩;exact g1 _ _ _ ⟨dn++[a],rs,os++[mo],_,by rw[dO];exact e1,rfl,by rw[bM];rfl,ho.snoc hm,rfl,rfl⟩
 ·rintro acc τ G' ⟨dn,rs,os,x,e1,e2,rfl,ho,rfl,rfl⟩;have e0:rs=[]:=by
   cases rs with
   |nil=>rfl
   |cons z zs=>cases e2
  subst e0;rw[bB] at e1;subst e1;intro r1 G1 n1;have hlo:=ho.len;have hs1:(((s:Nat):Int)+1)=((s+1:Nat):Int):=by lia
  refine⟨_,_,n1.sub _ _ m.at_,by rw[hs1];exact HK f (by lia),?_⟩;refine⟨_,n1.at_,by rw[π];exact da (by lia),?_⟩;refine nP (guard:=fun G'=>G' r1=some (.lst (os.map mD))) (fun τ=>∃x,τ=[x]) mD (fun o=>o.isSome) mD (G:=G1) n1.at_ os [] _ ⟨none,rfl⟩ ?_ ?_
  ·rintro o hm τ K1 K2 ⟨_,rfl⟩ h1 h2;cases o with
   |none=>exact⟨nofun,fun _=>h2 rfl _ ⟨_,rfl⟩⟩
   |some b=>exact⟨fun _=>h1 rfl _ ⟨_,rfl⟩,nofun⟩
  ·intro r2 G2 n2;rw[cX,NF] at n2;have hfl:(os.filterMap id).length≤os.length:=pV _ _;refine⟨_,_,rfl,n2.at_,?_,fun r3 G3 n3=>?_⟩
   ·rw[π,π];exact da (by lia)
   rw[←bM] at n3;have s3:Sub G' (pA G3 r3):=(n1.sub.trans n2.sub).trans n3.del;refine⟨_,n3.at_,?_⟩;refine⟨_,s+1,s3 _ _ m.at_,by rw[hs1];exact Im (n:=4) (by lia),?_⟩;refine q _ _ os ho ⟨m.aC,Sub.tO (m.sub.trans s3) m.aC,?_⟩ fun a o ha e=>?_
   ·rw[mF,show D.eS (((f (s+1))++os.filterMap id).map cD)=vC (f (s+1)++os.filterMap id) from rfl,NG f (by lia)]
   ·rw[ny ha];exact s3 _ _ e
structure Ms(dn:List af)(f:Nat->List af):Prop where
 val:∀s,s<4->∀a∈f s,Valid a/\a.1≤1000^dn.length
 len:∀s,s<4->(f s).length≤2^dn.length
 cnt:∀s,s<4->∀x,((f s).filter (bJ x)).length=wx (dn.filter (bJ x)).length s
theorem Ny:Ms [] (o9 (fun _=>[]) 0 [(1,0)]):=by
 have hr:∀x:Int,bJ x ((1,0):af)=true:=fun x=>cP.mpr (vt _);refine⟨fun s hs a ha=>?_,fun s hs=>?_,fun s hs x=>?_⟩
 ·have:s=0∨s=1∨s=2∨s=3:=by lia
  rcases this with rfl|rfl|rfl|rfl
  ·have:a=(1,0):=by simpa [o9] using ha
   rw[this];exact⟨⟨by decide,by decide,by decide⟩,by decide⟩
  all_goals cases ha
 ·have:s=0∨s=1∨s=2∨s=3:=by lia
  rcases this with rfl|rfl|rfl|rfl<;>decide
 ·have:s=0∨s=1∨s=2∨s=3:=by lia
  rcases this with rfl|rfl|rfl|rfl
  ·show ([((1,0):af)].filter (bJ x)).length=1;rw[cK,if_pos (hr x)];rfl
  all_goals rfl
theorem Nx{dn:List af}{f g:Nat->List af}{c:af}{o0 o1 o2:List (Option af)}(hc:Valid c/\c.1≤1000)(h:Ms dn f)(h0:pG c (f 0) o0)(h1:pG c (f 1) o1)(h2:pG c (f 2) o2)
  (g0:g 0=f 0) (g1:g 1=f 1++o0.filterMap id) (g2:g 2=f 2++o1.filterMap id) (g3:g 3=f 3++o2.filterMap id):Ms (dn++[c]) g:=by
 have hL:(dn++[c]).length=dn.length+1:=Ω;have hB:(0:Int)≤1000^dn.length:=rM (by decide);have up:∀s,s<4->∀a∈f s,Valid a/\a.1≤1000^(dn.length+1):=fun s hs a ha=>by
  obtain⟨v,z⟩:=h.val s hs a ha;rw[uC];exact⟨v,by lia⟩
 have one:∀{s os},s<3->pG c (f s) os->g (s+1)=f (s+1)++os.filterMap id->(∀a∈g (s+1),Valid a/\a.1≤1000^(dn.length+1))/\(g (s+1)).length≤2^(dn.length+1)/\∀x,((g (s+1)).filter (bJ x)).length=wx ((dn++[c]).filter (bJ x)).length (s+1):=by
  intro s os hs ho eg;rw[eg];refine⟨fun a ha=>?_,?_,fun x=>?_⟩
  ·rcases cI.mp ha with z|z
   ·exact up _ (by lia) a z
   ·rw[uC];exact ho.ok hc (h.val s (by lia)) hB a z
  ·have:=ho.len;have:=h.len s (by lia);have:=h.len (s+1) (by lia);have:=pV id os;rw[Ω,iJ];lia
  ·rw[fX,Ω,ho.count,h.cnt s (by lia),h.cnt (s+1) (by lia),fX,Ω];by_cases hx:bJ x c=true
   ·have e1:[c].filter (bJ x)=[c]:=by rw[cK,if_pos hx];rfl
    rw[if_pos hx,e1];show _=wx ((dn.filter (bJ x)).length+1) (s+1);rw[show wx ((dn.filter (bJ x)).length+1) (s+1)=wx (dn.filter (bJ x)).length s+wx (dn.filter (bJ x)).length (s+1) from rfl];lia
   ·have e1:[c].filter (bJ x)=[]:=by rw[cK,if_neg hx];rfl
    rw[if_neg hx,e1];rfl
 obtain⟨a1,b1,c1⟩:=one (by decide) h0 g1;obtain⟨a2,b2,c2⟩:=one (by decide) h1 g2;obtain⟨a3,b3,c3⟩:=one (by decide) h2 g3;refine⟨fun s hs=>?_,fun s hs=>?_,fun s hs=>?_⟩<;>have:s=0∨s=1∨s=2∨s=3:=by lia
 ·rw[hL];rcases this with rfl|rfl|rfl|rfl
  ·rw[g0];exact up 0 (by decide)
  ·exact a1
  ·exact a2
  ·exact a3
 ·rw[hL];rcases this with rfl|rfl|rfl|rfl
  ·rw[g0,iJ];have:=h.len 0 (by decide);lia
  ·exact b1
  ·exact b2
  ·exact b3
 ·rcases this with rfl|rfl|rfl|rfl
  ·intro x;rw[g0,h.cnt 0 (by decide)];cases (dn.filter (bJ x)).length<;>cases ((dn++[c]).filter (bJ x)).length<;>rfl
  ·exact c1
  ·exact c2
  ·exact c3
def sB(l:List af)(b:Int):Int:=(l.map fun m=>ip m b).sum
theorem CG{l:List af}(h:∀a∈l,Valid a):sB l 0=0:=by
 unfold sB
 induction l with
 |nil=>rfl
 |cons a l ih=>
  rw[ak,bK,Gq (h a Γ),ih fun z hz=>h z (Δ _ hz)];rfl
theorem CZ{l:List af}(h:∀a∈l,Valid a)(b:Int):sB l (b+1)=sB l b+((l.filter (bJ b)).length:Nat):=by
 unfold sB
 induction l with
 |nil=>rfl
 |cons a l ih=>
  rw[ak,bK,ak,bK,HV (h a Γ),ih fun z hz=>h z (Δ _ hz),cK];by_cases hr:bJ b a=true
  ·rw[if_pos hr,if_pos hr,aB];lia
  ·rw[if_neg hr,if_neg hr];lia
theorem Mx{cs:List af}{f:Nat->List af}(h:Ms cs f)(hl:cs.length≤3):∀b:Nat,(b:Int)-sB (f 1) b+sB (f 2) b-sB (f 3) b=(dR cs 0 b:Nat)/\sB (f 1) b-2*sB (f 2) b+3*sB (f 3) b=(dR cs 1 b:Nat)/\sB (f 2) b-3*sB (f 3) b=(dR cs 2 b:Nat)/\sB (f 3) b=(dR cs 3 b:Nat)
 |0=>by
  have v:∀s,s<4->∀a∈f s,Valid a:=fun s hs a ha=>(h.val s hs a ha).1;rw[show ((0:Nat):Int)=0 from rfl,CG (v 1 (by decide)),CG (v 2 (by decide)),CG (v 3 (by decide))];exact⟨rfl,rfl,rfl,rfl⟩
 |b+1=>by
  have v:∀s,s<4->∀a∈f s,Valid a:=fun s hs a ha=>(h.val s hs a ha).1;obtain⟨i0,i1,i2,i3⟩:=Mx h hl b;have ht:(cs.filter (bJ (b:Int))).length≤3:=av (lH _ _) hl;rw[show ((b+1:Nat):Int)=(b:Int)+1 by lia,CZ (v 1 (by decide)),CZ (v 2 (by decide)),CZ (v 3 (by decide)),h.cnt 1 (by decide),h.cnt 2 (by decide),h.cnt 3 (by decide),qE,qE,qE,qE];generalize (cs.filter (bJ (b:Int))).length=t at ht;have:t=0∨t=1∨t=2∨t=3:=by lia
  rcases this with rfl|rfl|rfl|rfl<;>simp only[wx]<;>simp<;>lia
theorem Nw{m:af}(h:Valid m)(b:Int):(b+m.1-1-m.2) / m.1=ip m b:=by
 have p:=h.1;unfold ip;rw[show b+m.1-1-m.2=(b-m.2-1)+m.1*1 by lia,Int.add_mul_ediv_left _ _ (by lia)]
end My
namespace My
open PySem L2 L3
theorem XM{D3:gg}{G0 G:Gp}{p:ζ}{f:Nat->List af}{dn:List af}{c:af}{x0 x1 x4 x5 x6 x7 x8:Option D}(hd:dn.length≤2)(hc:Valid c/\c.1≤1000)(h:Ms dn f)(m:cw G0 p (.lst (fL f)) G)
  (q:∀G' y4 y5 g,Ms (dn++[c]) g->cw G0 p (.lst (fL g)) G'->D3.nx [x0,x1,some (.obj p),some (cD c),y4,y5,x6,x7,x8] G'):HI D3 [x0,x1,some (.obj p),some (cD c),x4,x5,x6,x7,x8] G:=by
 have hB:∀s,s<4->∀a∈f s,Valid a/\a.1≤10^6:=fun s hs a ha=>by
  obtain⟨v,z⟩:=h.val s hs a ha;have hz:dn.length=0∨dn.length=1∨dn.length=2:=by lia
  refine⟨v,?_⟩;rcases hz with e|e|e<;>rw[e] at z<;>lia
 have hL:∀s,s<4->(f s).length≤4:=fun s hs=>by
  have:=h.len s hs;have hz:dn.length=0∨dn.length=1∨dn.length=2:=by lia
  rcases hz with e|e|e<;>rw[e] at this<;>lia
 intro r G1 n1;have cQ:r≠p:=fun z=>by
  have:=n1.aC;rw[z,m.at_] at this;cases this
 have m1:cw G0 p (.lst (fL f)) G1:=⟨m.aC,m.sub.trans n1.sub,n1.sub _ _ m.at_⟩;refine⟨_,n1.at_,n1.at_,?_⟩;refine C0 (s:=2) (by decide) hc (hB 2 (by decide)) (av (hL 2 (by decide)) (by decide)) (av (hL 3 (by decide)) (by decide)) m1 fun G2 y5 o2 h2 m2 s2=>?_;have a2:=s2 r _ cQ n1.at_;refine⟨a2,?_⟩;refine C0 (s:=1) (f:=o9 f 3 (f 3++o2.filterMap id)) (by decide) hc (hB 1 (by decide)) (av (hL 1 (by decide)) (by decide)) (av (hL 2 (by decide)) (by decide)) m2 fun G3 y6 o1 h1 m3 s3=>?_;have a3:=s3 r _ cQ a2;refine⟨a3,?_⟩;refine C0 (s:=0) (f:=o9 (o9 f 3 (f 3++o2.filterMap id)) 2 (f 2++o1.filterMap id)) (by decide) hc (hB 0 (by decide)) (av (hL 0 (by decide)) (by decide)) (av (hL 1 (by decide)) (by decide)) m3 fun G4 y7 o0 h0 m4 s4=>?_;refine⟨s4 r _ cQ a3,?_⟩;refine q G4 _ _ _ (Nx (g:=o9 (o9 (o9 f 3 (f 3++o2.filterMap id)) 2 (f 2++o1.filterMap id)) 1 (f 1++o0.filterMap id)) hc h h0 h1 h2 rfl rfl rfl rfl) m4
theorem XJ{Q:V3}{G0 G:Gp}{p:ζ}{f:Nat->List af}{cs:List af}{b:Nat}{x3 x4 x5 x6 x7 x8:Option D}(hl:cs.length≤3)(hb:b<10^60)(h:Ms cs f)(m:cw G0 p (.lst (fL f)) G)
  (q:∀p G',cw G0 p (.lst (oj cs b)) G'->Q (.obj p) G'):HH (bo Q) [some (gY cs),some (.int b),some (.obj p),x3,x4,x5,x6,x7,x8] G:=by
 refine⟨_,m.at_,by show 4≤au;decide,?_⟩;refine xh (fun ds acc τ G'=>∃(dn rs:List (List af)) (x:Option D),dn++rs=[f 0,f 1,f 2,f 3]/\ds=rs.map vC/\acc=dn.map (fun l=>D.int (sB l b))/\Sub G G'/\τ=[x,some (.int b)]) (fun _ _ _ _ h=>?_) ?_ ?_ _ _ _ _ ⟨[],[f 0,f 1,f 2,f 3],none,rfl,rfl,rfl,Sub.refl _,rfl⟩
 ·obtain⟨_,_,_,_,_,_,s,_⟩:=h;exact s _ _ m.at_
 ·rintro d ds acc τ G1 K1 K2 ⟨dn,rs,x,e1,e2,rfl,s1,rfl⟩ g1 g2;cases rs with
  |nil=>cases e2
  |cons l rs=>
   cases e2;have hlm:l∈[f 0,f 1,f 2,f 3]:=by rw[←e1];exact aV _ Γ
   have hv:(∀a∈l,Valid a/\a.1≤1000^cs.length)/\l.length≤2^cs.length:=by
    simp only[aa,aZ,or_false] at hlm;rcases hlm with rfl|rfl|rfl|rfl
    ·exact⟨h.val 0 (by decide),h.len 0 (by decide)⟩
    ·exact⟨h.val 1 (by decide),h.len 1 (by decide)⟩
    ·exact⟨h.val 2 (by decide),h.len 2 (by decide)⟩
    ·exact⟨h.val 3 (by decide),h.len 3 (by decide)⟩
   have hpow:(2:Nat)^cs.length≤8:=cW (by decide) hl;have hpw:(1000:Int)^cs.length≤1000^3:=by
    have hz:cs.length=0∨cs.length=1∨cs.length=2∨cs.length=3:=by lia
    rcases hz with e|e|e|e<;>rw[e]<;>decide
   refine⟨fun _=>⟨?_,?_⟩,nofun⟩
   ·show (l.map cD).length≤au;rw[π];exact da (by lia)
   refine nP (fun τ=>∃x y,τ=[x,y,some (.int b)]) cD (fun _=>true) (fun c=>D.int (ip c b)) (G:=G1) trivial l [] _ ⟨none,none,rfl⟩ ?_ ?_
   ·rintro c hm τ K3 K4 ⟨_,_,rfl⟩ k1 k2;obtain⟨v,z⟩:=hv.1 c hm;have p0:=v.1;refine⟨rfl,fun _=>⟨⟨p0,ff (by lia) (by lia)⟩,?_⟩,nofun⟩;show K4 _ (D.int (((b:Int)+c.1-1-c.2) / c.1)) G1;rw[Nw v];exact k1 rfl _ ⟨_,_,rfl⟩
   ·intro p2 G2 n2;rw[filter_all,cX] at n2;refine⟨_,_,n2.at_,Iy _ _,?_⟩;exact g1 _ _ _ ⟨dn++[l],rs,_,by rw[dO];exact e1,rfl,by rw[bM];rfl,s1.trans n2.sub,rfl⟩
 ·rintro acc τ G1 ⟨dn,rs,x,e1,e2,rfl,s1,rfl⟩;have e0:rs=[]:=by
   cases rs with
   |nil=>rfl
   |cons z zs=>cases e2
  subst e0;rw[bB] at e1;subst e1;intro r2 G2 n2;obtain⟨t0,t1,t2,t3⟩:=Mx h hl b;have c0:=yM cs 0 b;have c1:=yM cs 1 b;have c2:=yM cs 2 b;have c3:=yM cs 3 b;have b2:gh (sB (f 2) b):=ff (by lia) (by lia);have b3:gh (sB (f 3) b):=ff (by lia) (by lia);have bg:∀n:Nat,n<100->gh (n:Int):=fun n h=>ff (by lia) (by lia);refine⟨_,_,n2.at_,rfl,_,_,n2.at_,rfl,_,_,n2.at_,rfl,?_⟩;refine⟨_,_,n2.at_,rfl,_,_,n2.at_,rfl,⟨bg 2 (by decide),b2⟩,_,_,n2.at_,rfl,⟨bg 3 (by decide),b3⟩,?_⟩;refine⟨_,_,n2.at_,rfl,_,_,n2.at_,rfl,⟨bg 3 (by decide),b3⟩,_,_,n2.at_,rfl,?_⟩;intro r3 G3 n3;refine⟨_,n3.at_,fun r4 G4 n4=>?_⟩;refine fK (q r4 G4 ⟨((m.sub.trans s1).trans (n2.sub.trans n3.sub)).of_none n4.aC,((m.sub.trans s1).trans (n2.sub.trans n3.sub)).trans n4.sub,?_⟩);rw[n4.at_];have ed:([D.int ((b:Int)-sB (f 1) b+sB (f 2) b-sB (f 3) b),D.int (sB (f 1) b-((2:Nat):Int)*sB (f 2) b+((3:Nat):Int)*sB (f 3) b),D.int (sB (f 2) b-((3:Nat):Int)*sB (f 3) b),D.int (sB (f 3) b)]:List D)=[nD (dR cs 0 b),nD (dR cs 1 b),nD (dR cs 2 b),nD (dR cs 3 b)]:=by
   rw[show ((2:Nat):Int)=2 from rfl,show ((3:Nat):Int)=3 from rfl,t0,t1,t2,t3];rfl
  show some (GO.lst (ll [D.int ((b:Int)-sB (f 1) b+sB (f 2) b-sB (f 3) b),D.int (sB (f 1) b-((2:Nat):Int)*sB (f 2) b+((3:Nat):Int)*sB (f 3) b),D.int (sB (f 2) b-((3:Nat):Int)*sB (f 3) b),D.int (sB (f 3) b)] none (some ((((cs.map cD).length:Nat):Int)+1))))=_;rw[ed,π];have e4:([nD (dR cs 0 b),nD (dR cs 1 b),nD (dR cs 2 b),nD (dR cs 3 b)]:List D)=(aA 4).map fun j=>nD (dR cs j b):=rfl;rw[e4,AU,show ((cs.length:Nat):Int)+1=((cs.length+1:Nat):Int) by lia,Dt];unfold oj iC;rw[List.take_range,Nat.min_eq_left (by lia)]
theorem XI:∀ds G Q,yI ds G Q->HG (bo Q) (bD ["clocks","bound","lists","clock","size","mets","sums","none","one"] ds) G:=by
 rintro ds G Q ⟨cs,b,rfl,ok,hl,hb,q⟩;intro p1 G1 n1;refine⟨_,n1.at_,fun p2 G2 n2=>⟨_,n2.at_,fun p3 G3 n3=>⟨_,n3.at_,fun p4 G4 n4=>⟨_,n4.at_,fun p G5 n5=>?_⟩⟩⟩⟩;have s5:=((n1.del.trans n2.del).trans n3.del).trans n4.del;have m5:cw G p (.lst (fL (o9 (fun _=>[]) 0 [(1,0)]))) G5:=⟨s5.of_none n5.aC,s5.trans n5.sub,n5.at_⟩;refine nS (fun ds τ G'=>∃(dn rs:List af) (f:Nat->List af) (y3 y4 y5:Option D),dn++rs=cs/\ds=rs.map cD/\Ms dn f/\cw G p (.lst (fL f)) G'/\τ=[some (gY cs),some (.int b),some (.obj p),y3,y4,y5,none,none,none]) (fun _ _ _ _=>trivial) ?_ ?_ _ _ _ ⟨[],cs,_,none,none,none,rfl,rfl,Ny,m5,rfl⟩
 ·rintro d ds τ G' N ⟨dn,rs,f,y3,y4,y5,e1,e2,hm,m,rfl⟩ hN;cases rs with
  |nil=>cases e2
  |cons c rs=>
   cases e2;have hcm:c∈cs:=by rw[←e1];exact aV _ Γ
   have hdl:dn.length≤2:=by
    have:=congrArg fe e1;rw[Ω,aB] at this;lia
   exact XM hdl (ok c hcm) hm m fun G2 z4 z5 g hg m2=>hN _ _ ⟨dn++[c],rs,g,_,_,_,by rw[dO];exact e1,rfl,hg,m2,rfl⟩
 ·rintro τ G' ⟨dn,rs,f,y3,y4,y5,e1,e2,hm,m,rfl⟩;have e0:rs=[]:=by
   cases rs with
   |nil=>rfl
   |cons z zs=>cases e2
  subst e0;rw[bB] at e1;subst e1;exact XJ hl hb hm m q
end My
namespace My
open PySem L2 L3
def nt:fc:=fun ds G Q=>∃ns:List Int,ds=[.eS (ns.map .int)]/\ns.length≤63/\Q (.bl true) G
def HF:ao:=kf (pz (cN (bx yK (ν (eL wX (ν (gf ["k"] [1] (kU (ν (ο 1) (ae))) (hName 0) (eQ) (ky (ν (ο 1) (ν (ο 0) (ae))))) (ae))) (ae))))) (dh (eC (.bl false))) (fZ)
def XH:ao:=qg (eM Eb (ο 9) (ν (eC (.int 0)) (ae)))
def XG:ao:=aX (kf (pz (cN (bx rS (ν (ο 9) (ν (bx yL (ν (ο 4) (ν (ο 7) (ae)))) (ae)))))) (dh (eC (.bl false))) (fZ)) XH
def XF:ao:=aX (bz (nA qC zA (ν (ο 4) (ν (ο 7) (ae)))) (hName 9)) XG
def HE:ao:=kr (kU (ν (eC (.int 2)) (ae))) (hName 8) (XF)
def HD:ao:=kf (pz (cN (bx rS (ν (nA qC zA (ν (ο 10) (ν (ο 7) (ae)))) (ν (bx yI (ν (ο 10) (ν (ο 7) (ae)))) (ae)))))) (dh (eC (.bl false))) (fZ)
def XD:ao:=aX (bz (aq gb (aq rR (eC (.int 10)) (eC (.int 40))) (bx ku (ν (ο 3) (ν (aq rR (eC (.int 10)) (eC (.int 39))) (ae))))) (hName 7)) HD
def GY:ao:=aX (bz (eL wX (ν (sx (gf ["turn"] [3] (kU (ν (eC (.int 3)) (ae))) (hName 0) (eQ) (bx vJ (ν (ο 1) (ν (eC (.int 1000)) (ae)))))) (ae))) (hName 10)) XD
def XC:ao:=aX (kf (cN (aq Gv (ο 6) (eC (.int 1000)))) (kr (lg (fh (ν (eC (.int 0)) (ν (aq gb (ο 6) (eC (.int 1))) (ν (ο 6) (ν (aq dy (ο 6) (eC (.int 1))) (ν (bx ku (ν (ο 3) (ν (aq rR (eC (.int 10)) (eC (.int 40))) (ae)))) (ae)))))))) (hName 7) (HE)) (fZ)) GY
def GX:ao:=aX (bz (bx tU (ν (ο 4) (ae))) (hName 6)) XC
def XB:ao:=aX (kf (pz (cN (bx rS (ν (nA qC zA (ν (ο 4) (ν (ο 5) (ae)))) (ν (bx vF (ν (ο 4) (ν (ο 5) (ae)))) (ae)))))) (dh (eC (.bl false))) (fZ)) GX
def CY:ao:=aX (bz (bx ku (ν (ο 3) (ν (eC (.int 60)) (ae)))) (hName 5)) XB
def XA:ao:=aX (kf (cN (aq wU (bx tU (ν (ο 4) (ae))) (eC (.int 1000)))) (bz (zD (ο 4) (wg) (se (eC (.int 3)))) (hName 4)) (fZ)) CY
def GW:ao:=aX (bz (bx yp (ν (ο 3) (ν (eC (.int 8)) (ae)))) (hName 4)) XA
def Xz:ao:=aX (bz (bx Du (ν (ο 2) (ae))) (hName 3)) GW
def Xy:ao:=dh (eC (.bl true))
def GV:ao:=aX (kr (lg (aq dy (fh (ν (bx yt (ν (ο 0) (ν (eC (.int 0)) (ae)))) (ae))) (zD (ο 0) (se (eC (.int 1))) (se (eC (.int 4)))))) (hName 2) (Xz)) Xy
def GU:ao:=aX (kr (lg (fh (ν (eC (.int 11)) (ν (eC (.int 12)) (ae))))) (hName 1) (HF)) GV
def GS:ao:=aX (kf (ze (pz (cN (bx rS (ν (nA qC zA (ν (ky (ae)) (ν (eC (.int 7)) (ae)))) (ν (fh (ν (eC (.int 7)) (ae))) (ae)))))) (pz (cN (bx rS (ν (nA qC zA (ν (ky (ν (ky (ν (eC (.int 1)) (ν (eC (.int 0)) (ae)))) (ae))) (ν (aq rR (eC (.int 10)) (eC (.int 40))) (ae)))) (ν (fh (ν (eC (.int 0)) (ν (aq rR (eC (.int 10)) (eC (.int 40))) (ae)))) (ae))))))) (dh (eC (.bl false))) (fZ)) GU
structure zL(cs:List af):Prop where
 c:∀c∈cs,Valid c/\c.1≤1000
 l:cs.length≤8
theorem Xx(b:Nat):dR [(1,0)] 0 b=0/\dR [(1,0)] 1 b=b:=by
 have hr:∀x:Int,bJ x ((1,0):af)=true:=fun x=>cP.mpr (vt _)
 induction b with
 |zero=>exact⟨rfl,rfl⟩
 |succ b ih=>
  have ef:([((1,0):af)].filter (bJ (b:Int))).length=1:=by
   rw[cK,if_pos (hr _)];rfl
  rw[qE,qE,ef,ih.1,ih.2];exact⟨rfl,rfl⟩
theorem Xw{D3:gg}{G:Gp}{us:List af}{b:Nat}{x0 x1 x2 x3 x4 x5 x6 x8 x9:Option D}(hu:zL us)(h3:us.length≤3)(hb:b<10^60)(q:∀G',Sub G G'->D3.nx [x0,x1,x2,x3,x4,x5,x6,some (.int b),x8,x9,some (gY us)] G'):
  HD D3 [x0,x1,x2,x3,x4,x5,x6,some (.int b),x8,x9,some (gY us)] G:=by
 have hl:=hu.l;refine⟨us,b,rfl,fun h=>absurd h (by lia),fun _=>⟨hu.c,by lia,hb,fun p G' n' G2 j=>?_⟩⟩;have m:=j.cw n'.at_;refine⟨us,b,rfl,hu.c,h3,hb,fun p2 G3 n3=>?_⟩;exact⟨p,p2,fun j=>dR us j b,us.length+1,rfl,n3.sub _ _ m.at_,n3.at_,by lia,fun G4 s4=>⟨nofun,fun _=>q _ ((m.sub.trans n3.sub).trans s4)⟩⟩
theorem GR{D3:gg}{G:Gp}{pp:ζ}{x0 x1 x2 x4 x5 x6 x7 x8 x9 x10:Option D}(hp:G pp=some .mG)(q:∀G' y7 y10,Sub G G'->D3.nx [x0,x1,x2,some (.obj pp),x4,x5,x6,y7,x8,x9,y10] G'):
  GY D3 [x0,x1,x2,some (.obj pp),x4,x5,x6,x7,x8,x9,x10] G:=by
 refine⟨⟨by decide,by decide⟩,?_,?_⟩
 ·show (jj 0 3).length≤au;rw[t6];decide
 refine xh (fun ds acc τ G'=>(∃cs:List af,acc=cs.map cD/\kA 1000 cs/\cs.length+ds.length≤3)/\G'=G/\∃x,τ=[x,some (.obj pp)]) (fun _ _ _ _ _=>trivial) ?_ ?_ _ _ _ _ ⟨⟨[],rfl,(fun c hc=>nomatch hc),?_⟩,rfl,none,rfl⟩
 ·rintro d ds acc τ G' K1 K2 ⟨⟨cs,rfl,ok,hl⟩,rfl,x,rfl⟩ g1 g2;refine⟨fun _=>⟨pp,1000,rfl,hp,⟨by decide,by decide⟩,fun c hv hc=>?_⟩,nofun⟩;refine g1 _ _ _ ⟨⟨cs++[c],by simp,fun c' hc'=>?_,?_⟩,rfl,_,rfl⟩
  ·rcases cI.mp hc' with z|z
   ·exact ok c' z
   ·have:c'=c:=by simpa using z
    rw[this];exact⟨hv,by lia⟩
  ·rw[Ω,dY];simp only[aB] at hl;lia
 ·rintro acc τ G' ⟨⟨os,rfl,ok,hl⟩,rfl,x,rfl⟩;intro q1 G1 n1;have hl3:os.length≤3:=by simpa using hl
  refine⟨os.map fb,AQ n1.at_,by rw[π];lia,AR,fun p3 mss G3 n3 hmem nd hr hl3'=>?_⟩;obtain⟨us,rfl,hmem2,hr2,hl2⟩:=IL hmem nd hr hl3';rw[yr] at n3;have hu:zL us:=⟨fun c hc=>ok c ((hmem2 c).mp hc),by lia⟩;have s13:=n1.sub.trans n3.sub;have hp3:=s13 _ _ hp;refine⟨_,n3.at_,⟨by decide,by decide⟩,⟨by decide,by decide⟩,pp,_,rfl,hp3,⟨by decide,ff (by decide) (by decide)⟩,fun r a1 a2=>?_⟩;obtain⟨b,eb⟩:∃b:Nat,(10:Int)^40-r=(b:Int):=⟨((10:Int)^40-r).toNat,by
   have a2':r<10^39:=a2;lia⟩
  have hb:b<10^60:=by lia
  have go:=Xw (D3:=D3) (G:=G3) (us:=us) (b:=b) (x0:=x0) (x1:=x1) (x2:=x2) (x3:=some (.obj pp)) (x4:=x4) (x5:=x5) (x6:=x6) (x8:=x8) (x9:=x9) hu (by lia) hb fun G4 s4=>q _ _ _ (s13.trans s4);rw[←eb] at go;exact go
 ·show ([]:List af).length+(jj 0 3).length≤3;rw[t6];decide
theorem Xv{D3:gg}{G:Gp}{cs:List af}{b:Nat}{x0 x1 x2 x3 x5 x6 x8 x9 x10:Option D}(h:zL cs)(hr:cZ cs≤1000)(hb:b<10^60)(q:∀G' y8 y9,Sub G G'->D3.nx [x0,x1,x2,x3,some (gY cs),x5,x6,some (.int b),y8,y9,x10] G'):
  HE D3 [x0,x1,x2,x3,some (gY cs),x5,x6,some (.int b),x8,x9,x10] G:=by
 have hl:=h.l;refine⟨⟨by decide,by decide⟩,?_⟩;refine nS (fun ds τ G'=>Sub G G'/\∃y8 y9,τ=[x0,x1,x2,x3,some (gY cs),x5,x6,some (.int b),y8,y9,x10]) (fun _ _ _ _=>trivial) ?_ ?_ _ _ _ ⟨Sub.refl _,_,_,rfl⟩
 ·rintro d ds τ G2 N ⟨s2,y8,y9,rfl⟩ hN;refine⟨cs,b,rfl,fun h=>absurd h (by lia),fun _=>⟨h.c,by lia,hb,fun p G' n' G3 j=>?_⟩⟩;have m:=j.cw n'.at_;refine⟨cs,b,rfl,h.c,by lia,hr,hb,fun p2 G4 n4=>?_⟩;refine⟨p,p2,fun j=>dR cs j b,cs.length+1,rfl,n4.sub _ _ m.at_,n4.at_,by lia,fun G5 s5=>⟨nofun,fun _=>?_⟩⟩;have hp5:=s5 _ _ (n4.sub _ _ m.at_);refine⟨⟨p,_,rfl,hp5⟩,_,hp5,?_,hN _ _ ⟨?_,_,_,rfl⟩⟩
  ·show (iC _ _).length<_;rw[DX];exact fV (show cs.length+1≤13 by lia) (by decide)
  ·exact s2.trans (Sub.tO ((m.sub.trans n4.sub).trans s5) m.aC)
 ·rintro τ G2 ⟨s2,y8,y9,rfl⟩;exact q _ _ _ s2
theorem Xu{D3:gg}{G:Gp}{pp:ζ}{cs:List af}{x0 x1 x2 x5 x6 x7 x8 x9 x10:Option D}(h:zL cs)(hp:G pp=some .mG)(q:∀G' y5 y6 y7 y8 y9 y10,Sub G G'->D3.nx [x0,x1,x2,some (.obj pp),some (gY cs),y5,y6,y7,y8,y9,y10] G'):
  GX D3 [x0,x1,x2,some (.obj pp),some (gY cs),x5,x6,x7,x8,x9,x10] G:=by
 have hl:=h.l;have hp0:=(Jm (cs:=cs) h.c (by lia)).1;refine⟨cs,1000,rfl,h.c,by decide,cW (by decide) (by lia),by lia,fun g=>?_,fun g=>GR hp fun G' y7 y10 s=>q _ _ _ _ _ _ _ s⟩;have g':((cZ cs:Nat):Int)≤1000:=of_decide_eq_true g;have hr:cZ cs≤1000:=by lia
 refine⟨⟨by decide,by decide⟩,pp,_,rfl,hp,⟨by decide,ff (by decide) (by decide)⟩,fun r a1 a2=>?_⟩;have a2':r<10^40:=a2;intro q1 G1 n1;refine⟨_,n1.at_,?_⟩;refine nS (fun ds τ G'=>Sub G1 G'/\(∀d∈ds,∃b:Nat,b<10^60/\d=.int b)/\∃y7 y8 y9,τ=[x0,x1,x2,some (.obj pp),some (gY cs),x5,some (.int (cZ cs:Nat)),y7,y8,y9,x10]) (fun _ _ _ h=>h.1 _ _ n1.at_) ?_ ?_ _ _ _ ⟨Sub.refl _,?_,_,_,_,rfl⟩
 ·rintro d ds τ G2 N ⟨s2,hd,y7,y8,y9,rfl⟩ hN;obtain⟨b,hb,rfl⟩:=hd d Γ;exact Xv h hr hb fun G3 z8 z9 s3=>hN _ _ ⟨s2.trans s3,fun z hz=>hd z (Δ _ hz),_,_,_,rfl⟩
 ·rintro τ G2 ⟨s2,hd,y7,y8,y9,rfl⟩;exact GR (s2 _ _ (n1.sub _ _ hp)) fun G' y7 y10 s=>q _ _ _ _ _ _ _ ((n1.sub.trans s2).trans s)
 ·intro d hd;have hd:d∈[D.int 0,D.int (((cZ cs:Nat):Int)-1),D.int ((cZ cs:Nat):Int),D.int (((cZ cs:Nat):Int)+1),D.int r]:=hd;simp only[aa,aZ,or_false] at hd;rcases hd with rfl|rfl|rfl|rfl|rfl
  ·exact⟨0,by decide,rfl⟩
  ·exact⟨cZ cs-1,by lia,by congr 1;lia⟩
  ·exact⟨cZ cs,by lia,rfl⟩
  ·exact⟨cZ cs+1,by lia,by congr 1⟩
  ·exact⟨r.toNat,by lia,by congr 1;lia⟩
theorem GQ{D3:gg}{G:Gp}{pp:ζ}{cs:List af}{x0 x1 x2 x5 x6 x7 x8 x9 x10:Option D}(h:zL cs)(hp:G pp=some .mG)(q:∀G' y5 y6 y7 y8 y9 y10,Sub G G'->D3.nx [x0,x1,x2,some (.obj pp),some (gY cs),y5,y6,y7,y8,y9,y10] G'):
  CY D3 [x0,x1,x2,some (.obj pp),some (gY cs),x5,x6,x7,x8,x9,x10] G:=by
 have hl:=h.l;refine⟨pp,60,rfl,hp,⟨by decide,ff (by decide) (by decide)⟩,fun r a1 a2=>?_⟩;obtain⟨b,rfl⟩:∃b:Nat,r=(b:Int):=⟨r.toNat,by lia⟩;refine⟨cs,b,rfl,fun h=>absurd h (by lia),fun _=>⟨h.c,by lia,by lia,fun p G' n' G3 j=>?_⟩⟩;have m:=j.cw n'.at_;refine⟨cs,b,rfl,h.c,by lia,by lia,fun p2 G4 n4=>?_⟩;refine⟨p,p2,fun j=>dR cs j b,cs.length+1,rfl,n4.sub _ _ m.at_,n4.at_,by lia,fun G5 s5=>⟨nofun,fun _=>?_⟩⟩;have s:=(m.sub.trans n4.sub).trans s5;exact Xu h (s _ _ hp) fun G6 y5 y6 y7 y8 y9 y10 s6=>q _ _ _ _ _ _ _ (s.trans s6)
theorem Xt{D3:gg}{G:Gp}{pp:ζ}{x0 x1 x2 x4 x5 x6 x7 x8 x9 x10:Option D}(hp:G pp=some .mG)(q:∀G' y4 y5 y6 y7 y8 y9 y10,Sub G G'->D3.nx [x0,x1,x2,some (.obj pp),y4,y5,y6,y7,y8,y9,y10] G'):
  GW D3 [x0,x1,x2,some (.obj pp),x4,x5,x6,x7,x8,x9,x10] G:=by
 refine⟨pp,8,rfl,hp,⟨by decide,by decide⟩,fun cs ok hl8 hr=>?_⟩;have h:zL cs:=⟨ok,by lia⟩;refine⟨cs,1000,rfl,ok,by decide,cW (by decide) (by lia),by lia,fun _=>?_,fun _=>GQ h hp fun G' y5 y6 y7 y8 y9 y10 s=>q _ _ _ _ _ _ _ _ s⟩;have e3:ll (cs.map cD) none (some (3:Int))=(cs.take 3).map cD:=by rw[AU,show (3:Int)=((3:Nat):Int) from rfl,Dt]
 show CY D3 [x0,x1,x2,some (.obj pp),some (.tup (ll (cs.map cD) none (some (3:Int)))),x5,x6,x7,x8,x9,x10] G;rw[e3];exact GQ (cs:=cs.take 3) ⟨fun c hc=>ok c (mn hc),by rw[eR];lia⟩ hp fun G' y5 y6 y7 y8 y9 y10 s=>q _ _ _ _ _ _ _ _ s
theorem GP{D3:gg}{G:Gp}{n:Nat}{x0:Option D}{τ:List (Option D)}(hn:10<n)(h60:n≤60)(q:∀G',Sub G G'->D3.nx (x0::some (.int n)::τ) G'):HF D3 (x0::some (.int n)::τ) G:=by
 refine⟨⟨by lia,by lia⟩,?_,?_⟩
 ·show (jj 0 ((n:Nat):Int).toNat).length≤au;rw[t6];exact da (by lia)
 show jI _ _ _ _ _ (jj 0 ((n:Nat):Int).toNat) _ _ _;rw[cB,CH];refine nP (fun τ=>∃x,τ=[x,some (.int n)]) nD (fun _=>true) (fun k:Nat=>cD ((n:Int),(k:Int))) (G:=G) trivial (aA n) [] _ ⟨none,rfl⟩ ?_ ?_
 ·rintro k hm τ K1 K2 ⟨_,rfl⟩ h1 h2;exact⟨fun _=>h1 rfl _ ⟨_,rfl⟩,nofun⟩
 ·intro p G1 n1;rw[filter_all,cX] at n1;have e:((aA n).map fun k:Nat=>cD ((n:Int),(k:Int)))=((aA n).map fun k:Nat=>(((n:Int),(k:Int)):af)).map cD:=by
   rw[bV];rfl
  rw[e] at n1;exact⟨_,n1.at_,_,rfl,by rw[π,cb];exact hn,nofun,fun _=>q _ n1.sub⟩
theorem Xs{Q:V3}{G:Gp}{ns:List Int}{x1 x2 x3 x4 x5 x6 x7 x8 x9 x10:Option D}(hl:ns.length≤63)(q:∀G',Sub G G'->(bo Q).rt (.bl true) G'):GV (bo Q) [some (.eS (ns.map .int)),x1,x2,x3,x4,x5,x6,x7,x8,x9,x10] G:=by
 refine⟨ns,0,rfl,fun i=>?_⟩;intro q0 G0 n0 q1 G1 n1;rw[AU] at n1;have hcl:=Rb ns (some 1) (some 4);refine⟨_,_,n1.sub _ _ n0.at_,n1.at_,?_,fun q2 G2 n2=>?_⟩
 ·rw[π];exact da (by simp;lia)
 have s2:=(n0.sub.trans n1.sub).trans n2.sub;refine⟨_,n2.at_,?_⟩;refine nS (fun ds τ G'=>(∃is:List Int,ds=is.map D.int)/\Sub G2 G'/\∃x1 x2 x3 x4 x5 x6 x7 x8 x9 x10,τ=[some (.eS (ns.map .int)),x1,x2,x3,x4,x5,x6,x7,x8,x9,x10]) (fun _ _ _ h=>h.2.1 _ _ n2.at_) ?_ ?_ _ _ _ ⟨⟨i::vZ ns (some 1) (some 4),rfl⟩,Sub.refl _,_,_,_,_,_,_,_,_,_,_,rfl⟩
 ·rintro d ds τ G3 N ⟨⟨is,e⟩,s3,x1,x2,x3,x4,x5,x6,x7,x8,x9,x10,rfl⟩ hN;cases is with
  |nil=>cases e
  |cons cc is=>
   cases e;exact⟨cc,rfl,fun pp G4 n4=>Xt n4.at_ fun G5 y4 y5 y6 y7 y8 y9 y10 s5=>hN _ _ ⟨⟨is,rfl⟩,s3.trans (n4.sub.trans s5),_,_,_,_,_,_,_,_,_,_,rfl⟩⟩
 ·rintro τ G3 ⟨_,s3,x1,x2,x3,x4,x5,x6,x7,x8,x9,x10,rfl⟩;exact q _ (s2.trans s3)
theorem Xr{Q:V3}{G:Gp}{ns:List Int}(hl:ns.length≤63)(q:∀G',Sub G G'->(bo Q).rt (.bl true) G'):GU (bo Q) [some (.eS (ns.map .int)),none,none,none,none,none,none,none,none,none,none] G:=by
 intro r G1 n1;refine⟨_,n1.at_,n1.at_,?_⟩;refine GP (n:=11) (by decide) (by decide) fun G2 s2=>⟨s2 _ _ n1.at_,?_⟩;refine GP (n:=12) (by decide) (by decide) fun G3 s3=>⟨s3 _ _ (s2 _ _ n1.at_),?_⟩;exact Xs hl fun G4 s4=>q _ (((n1.sub.trans s2).trans s3).trans s4)
theorem Xq:∀ds G Q,nt ds G Q->GS (bo Q) (bD ["script","step","cell","pen","clocks","small","size","bound","turn","found","some"] ds) G:=by
 rintro ds G Q ⟨ns,rfl,hl,q⟩;refine⟨[],7,rfl,fun h=>absurd h (by decide),fun _=>⟨nofun,by decide,by decide,fun p G' n' G1 j=>?_⟩⟩;have m:=j.cw n'.at_;intro p2 G2 n2;refine⟨p,p2,fun j=>dR [] j 7,1,rfl,n2.sub _ _ m.at_,n2.at_,by decide,fun G3 s3=>⟨nofun,fun _=>?_⟩⟩;refine⟨⟨by decide,by decide⟩,[(1,0)],10^40,rfl,fun h=>absurd h (by decide),fun _=>⟨fun c hc=>?_,by decide,by decide,fun p' G' n' G4 j4=>?_⟩⟩
 ·rw[cF.mp hc];exact⟨⟨by decide,by decide,by decide⟩,by decide⟩
 have m4:=j4.cw n'.at_;refine⟨⟨by decide,by decide⟩,fun p5 G5 n5=>?_⟩;refine⟨p',p5,fun j=>dR [(1,0)] j (10^40),2,rfl,n5.sub _ _ m4.at_,?_,by decide,fun G6 s6=>⟨nofun,fun _=>?_⟩⟩
 ·rw[n5.at_];obtain⟨z0,z1⟩:=Xx (10^40);show _=some (GO.lst [nD (dR [(1,0)] 0 (10^40)),nD (dR [(1,0)] 1 (10^40))]);rw[z0,z1];rfl
 ·exact Xr hl fun G7 s7=>AX ((((m.sub.trans n2.sub).trans s3).trans ((m4.sub.trans n5.sub).trans s6)).trans s7) q
end My
namespace My
open PySem L2 L3
def top(i:Nat):aR:=PySem.Challenge.pw_coverclocks_k49_rung_far_on.main.body.getD i (.Pass ⟨0,0,0,0⟩)
def Me:aR->aR
 |.ClassDef _ _ _ b ..=>b.getD 0 (.Pass ⟨0,0,0,0⟩)
 |s=>s
abbrev CW:aR:=top 10
abbrev Xp:List ξ:=["many","most"]
theorem Xo:bF Xp ["many","most"] (Ξ CW):=⟨rfl,rfl,rfl,by decide +kernel,rfl,by decide +kernel,by decide +kernel⟩
abbrev CV:aR:=top 11
abbrev Xn:List ξ:=["one","other","left"]
theorem xJ:bF Xn ["one","other"] (Ξ CV):=⟨rfl,rfl,rfl,by decide +kernel,rfl,by decide +kernel,by decide +kernel⟩
abbrev CU:aR:=top 12
abbrev Xm:List ξ:=["number","bound","high","low","high_factor","low_factor","turns","left","left_factor"]
theorem i5:bF Xm ["number","bound"] (Ξ CU):=⟨rfl,rfl,rfl,by decide +kernel,rfl,by decide +kernel,by decide +kernel⟩
abbrev CT:aR:=top 14
abbrev Xl:List ξ:=["one","other","shared","apart","many","turns"]
theorem tR:bF Xl ["one","other"] (Ξ CT):=⟨rfl,rfl,rfl,by decide +kernel,rfl,by decide +kernel,by decide +kernel⟩
abbrev Ad:aR:=top 17
abbrev GN:List ξ:=["clocks","bound","tally","met","weight","many"]
theorem qY:bF GN ["clocks","bound"] (Ξ Ad):=⟨rfl,rfl,rfl,by decide +kernel,rfl,by decide +kernel,by decide +kernel⟩
abbrev Ac:aR:=top 18
abbrev GL:List ξ:=["clocks","weights","clock","grown","met","weight","both"]
theorem nu:bF GL ["clocks"] (Ξ Ac):=⟨rfl,rfl,rfl,by decide +kernel,rfl,by decide +kernel,by decide +kernel⟩
abbrev Ab:aR:=top 19
abbrev GK:List ξ:=["weights","met","weight","ahead"]
theorem Cc:bF GK ["weights","met","weight"] (Ξ Ab):=⟨rfl,rfl,rfl,by decide +kernel,rfl,by decide +kernel,by decide +kernel⟩
abbrev CS:aR:=top 20
abbrev Xk:List ξ:=["clock","bound"]
theorem XY:bF Xk ["clock","bound"] (Ξ CS):=⟨rfl,rfl,rfl,by decide +kernel,rfl,by decide +kernel,by decide +kernel⟩
abbrev CQ:aR:=top 22
abbrev XX:List ξ:=["script","k"]
theorem XW:bF XX ["script","k"] (Ξ CQ):=⟨rfl,rfl,rfl,by decide +kernel,rfl,by decide +kernel,by decide +kernel⟩
abbrev CP:aR:=top 23
abbrev XU:List ξ:=["seed"]
theorem B9:bF XU ["seed"] (Ξ CP):=⟨rfl,rfl,rfl,by decide +kernel,rfl,by decide +kernel,by decide +kernel⟩
abbrev CO:aR:=top 24
abbrev XT:List ξ:=["cell","left"]
theorem Ca:bF XT ["cell"] (Ξ CO):=⟨rfl,rfl,rfl,by decide +kernel,rfl,by decide +kernel,by decide +kernel⟩
abbrev CN:aR:=top 25
abbrev XS:List ξ:=["pen","many","found"]
theorem B8:bF XS ["pen","many"] (Ξ CN):=⟨rfl,rfl,rfl,by decide +kernel,rfl,by decide +kernel,by decide +kernel⟩
abbrev CM:aR:=top 26
abbrev XR:List ξ:=["found"]
theorem XQ:bF XR ["found"] (Ξ CM):=⟨rfl,rfl,rfl,by decide +kernel,rfl,by decide +kernel,by decide +kernel⟩
abbrev CL:aR:=top 27
abbrev XO:List ξ:=["e","marks"]
theorem zP:bF XO ["e"] (Ξ CL):=⟨rfl,rfl,rfl,by decide +kernel,rfl,by decide +kernel,by decide +kernel⟩
abbrev CK:aR:=top 28
abbrev XN:List ξ:=["pen","most","step"]
theorem E6:bF XN ["pen","most"] (Ξ CK):=⟨rfl,rfl,rfl,by decide +kernel,rfl,by decide +kernel,by decide +kernel⟩
abbrev Aa:aR:=top 29
abbrev GJ:List ξ:=["pen","least","most","clocks","k","step","rest"]
theorem rQ:bF GJ ["pen","least","most"] (Ξ Aa):=⟨rfl,rfl,rfl,by decide +kernel,rfl,by decide +kernel,by decide +kernel⟩
abbrev zZ:aR:=top 30
abbrev GI:List ξ:=["pen","most","way","found","steps","turn","step"]
theorem oE:bF GI ["pen","most"] (Ξ zZ):=⟨rfl,rfl,rfl,by decide +kernel,rfl,by decide +kernel,by decide +kernel⟩
abbrev Dp:aR:=top 31
abbrev W9:List ξ:=["clock","number"]
theorem W8:bF W9 ["clock","number"] (Ξ Dp):=⟨rfl,rfl,rfl,by decide +kernel,rfl,by decide +kernel,by decide +kernel⟩
abbrev Dn:aR:=top 32
abbrev W7:List ξ:=["one","other"]
theorem Cb:bF W7 ["one","other"] (Ξ Dn):=⟨rfl,rfl,rfl,by decide +kernel,rfl,by decide +kernel,by decide +kernel⟩
abbrev Dm:aR:=top 33
abbrev W6:List ξ:=["clocks","found","step","rest"]
theorem tS:bF W6 ["clocks"] (Ξ Dm):=⟨rfl,rfl,rfl,by decide +kernel,rfl,by decide +kernel,by decide +kernel⟩
abbrev zY:aR:=top 34
abbrev GH:List ξ:=["clocks","number"]
theorem W5:bF GH ["clocks","number"] (Ξ zY):=⟨rfl,rfl,rfl,by decide +kernel,rfl,by decide +kernel,by decide +kernel⟩
abbrev Dl:aR:=top 35
abbrev W4:List ξ:=["clocks","bound","found","number"]
theorem yf:bF W4 ["clocks","bound"] (Ξ Dl):=⟨rfl,rfl,rfl,by decide +kernel,rfl,by decide +kernel,by decide +kernel⟩
abbrev zX:aR:=top 36
abbrev GG:List ξ:=["clocks","bound","size","turns","rest"]
theorem xI:bF GG ["clocks","bound"] (Ξ zX):=⟨rfl,rfl,rfl,by decide +kernel,rfl,by decide +kernel,by decide +kernel⟩
abbrev zW:aR:=top 37
abbrev GF:List ξ:=["found","due"]
theorem W3:bF GF ["found","due"] (Ξ zW):=⟨rfl,rfl,rfl,by decide +kernel,rfl,by decide +kernel,by decide +kernel⟩
abbrev Dk:aR:=top 38
abbrev W2:List ξ:=["clocks","e"]
theorem E7:bF W2 ["clocks"] (Ξ Dk):=⟨rfl,rfl,rfl,by decide +kernel,rfl,by decide +kernel,by decide +kernel⟩
abbrev Dj:aR:=top 39
abbrev W1:List ξ:=["one","other","turn","size"]
theorem ye:bF W1 ["one","other"] (Ξ Dj):=⟨rfl,rfl,rfl,by decide +kernel,rfl,by decide +kernel,by decide +kernel⟩
abbrev vE:aR:=top 40
abbrev zV:List ξ:=["clocks","bound","lists","clock","size","mets","sums","none","one"]
theorem qf:bF zV ["clocks","bound"] (Ξ vE):=⟨rfl,rfl,rfl,by decide +kernel,rfl,by decide +kernel,by decide +kernel⟩
abbrev yH:aR:=top 41
abbrev Di:List ξ:=["script","step","cell","pen","clocks","small","size","bound","turn","found","some"]
theorem iD:bF Di ["script"] (Ξ yH):=⟨rfl,rfl,rfl,by decide +kernel,rfl,by decide +kernel,by decide +kernel⟩
abbrev wW:aR:=Me (top 8)
theorem W0:bF ["self","many","most"] ["self","many","most"] (Ξ wW):=⟨rfl,rfl,rfl,by decide +kernel,rfl,by decide +kernel,by decide +kernel⟩
set_option genInjectivity false in
structure FI where
 Ex:ζ
 EJ:ay
 ED:ζ
 ES:ay
 Bl:ζ
 BG:ay
 Be:ζ
 Bz:ay
 Bp:ζ
 BK:ay
 Bm:ζ
 BH:ay
 Bq:ζ
 BL:ay
 Eu:ζ
 EH:ay
 Bs:ζ
 BM:ay
 Bh:ζ
 BC:ay
 Bn:ζ
 BI:ay
 Bg:ζ
 BB:ay
 xQ:ζ
 xR:ay
 Et:ζ
 EG:ay
 Ew:ζ
 EI:ay
 EA:ζ
 EN:ay
 EB:ζ
 EO:ay
 Bi:ζ
 BD:ay
 Bo:ζ
 BJ:ay
 Bj:ζ
 BE:ay
 Bk:ζ
 BF:ay
 Bt:ζ
 BN:ay
 EC:ζ
 ER:ay
 Bd:ζ
 By:ay
 Ez:ζ
 EM:ay
 Bf:ζ
 BA:ay
 Ey:ζ
 EK:ay
 Bu:ζ
 wu:ay
 lZ:ζ
 qi:ζ
 oI:ζ
 qh:ζ
 uO:ζ
 oJ:ζ
 sC:ζ
 dq:ζ
 gF:ζ
 zp:ay
 uT:Tok
structure Txt(K:η)(mg:ξ->Option ε)(t:FI):Prop where
 Lv:eP K "refuse_above" "refuse_above" CW t.Ex t.EJ
 X7:mg "refuse_above" = some (.ref t.Ex)
 Yy:Binds K t.EJ ["many","most"] []
 LB:eP K "common_divisor" "common_divisor" CV t.ED t.ES
 Yd:mg "common_divisor" = some (.ref t.ED)
 YE:Binds K t.ES ["one","other"] []
 FD:eP K "inverse_of" "inverse_of" CU t.Bl t.BG
 LZ:mg "inverse_of" = some (.ref t.Bl)
 Mn:Binds K t.BG ["number","bound"] []
 Fz:eP K "meet_of" "meet_of" CT t.Be t.Bz
 LW:mg "meet_of" = some (.ref t.Be)
 Mk:Binds K t.Bz ["one","other"] []
 sL:eP K "rung_below" "rung_below" Ad t.Bp t.BK
 uI:mg "rung_below" = some (.ref t.Bp)
 uP:Binds K t.BK ["clocks","bound"] []
 FE:eP K "weights_of" "weights_of" Ac t.Bm t.BH
 L4:mg "weights_of" = some (.ref t.Bm)
 Mo:Binds K t.BH ["clocks"] []
 BY:eP K "put_weight" "put_weight" Ab t.Bq t.BL
 Fi:mg "put_weight" = some (.ref t.Bq)
 Fs:Binds K t.BL ["weights","met","weight"] []
 Lu:eP K "rings_below" "rings_below" CS t.Eu t.EH
 X6:mg "rings_below" = some (.ref t.Eu)
 Yx:Binds K t.EH ["clock","bound"] []
 FH:eP K "_law_cell_at" "_law_cell_at" CQ t.Bs t.BM
 L7:mg "_law_cell_at" = some (.ref t.Bs)
 Mr:Binds K t.BM ["script","k"] []
 BW:eP K "_law_next" "_law_next" CP t.Bh t.BC
 Fg:mg "_law_next" = some (.ref t.Bh)
 Fp:Binds K t.BC ["seed"] []
 FF:eP K "_law_pen_of" "_law_pen_of" CO t.Bn t.BI
 L5:mg "_law_pen_of" = some (.ref t.Bn)
 Mp:Binds K t.BI ["cell"] []
 iR:eP K "_law_draw" "_law_draw" CN t.Bg t.BB
 jw:mg "_law_draw" = some (.ref t.Bg)
 jx:Binds K t.BB ["pen","many"] []
 xV:eP K "_law_whole" "_law_whole" CM t.xQ t.xR
 A2:mg "_law_whole" = some (.ref t.xQ)
 BQ:Binds K t.xR ["found"] []
 Ls:eP K "_law_kind_of" "_law_kind_of" CL t.Et t.EG
 X5:mg "_law_kind_of" = some (.ref t.Et)
 Yw:Binds K t.EG ["e"] []
 BV:eP K "_law_clock_by" "_law_clock_by" CK t.Ew t.EI
 Ek:mg "_law_clock_by" = some (.ref t.Ew)
 EU:Binds K t.EI ["pen","most"] []
 Ly:eP K "_law_parts_by" "_law_parts_by" Aa t.EA t.EN
 Ya:mg "_law_parts_by" = some (.ref t.EA)
 YB:Binds K t.EN ["pen","least","most"] []
 Lz:eP K "_law_clocks_by" "_law_clocks_by" zZ t.EB t.EO
 Yb:mg "_law_clocks_by" = some (.ref t.EB)
 YC:Binds K t.EO ["pen","most"] []
 BX:eP K "_law_rings" "_law_rings" Dp t.Bi t.BD
 Fh:mg "_law_rings" = some (.ref t.Bi)
 Fq:Binds K t.BD ["clock","number"] []
 FG:eP K "_law_common" "_law_common" Dn t.Bo t.BJ
 L6:mg "_law_common" = some (.ref t.Bo)
 Mq:Binds K t.BJ ["one","other"] []
 wD:eP K "_law_round" "_law_round" Dm t.Bj t.BE
 xN:mg "_law_round" = some (.ref t.Bj)
 xS:Binds K t.BE ["clocks"] []
 FC:eP K "_law_times" "_law_times" zY t.Bk t.BF
 LY:mg "_law_times" = some (.ref t.Bk)
 Mm:Binds K t.BF ["clocks","number"] []
 xW:eP K "_law_counted" "_law_counted" Dl t.Bt t.BN
 A3:mg "_law_counted" = some (.ref t.Bt)
 BR:Binds K t.BN ["clocks","bound"] []
 LA:eP K "_law_by_rounds" "_law_by_rounds" zX t.EC t.ER
 Yc:mg "_law_by_rounds" = some (.ref t.EC)
 YD:Binds K t.ER ["clocks","bound"] []
 uS:eP K "_law_is" "_law_is" zW t.Bd t.By
 wj:mg "_law_is" = some (.ref t.Bd)
 wy:Binds K t.By ["found","due"] []
 Lx:eP K "_law_too_many" "_law_too_many" Dk t.Ez t.EM
 X9:mg "_law_too_many" = some (.ref t.Ez)
 YA:Binds K t.EM ["clocks"] []
 FA:eP K "_law_met" "_law_met" Dj t.Bf t.BA
 LX:mg "_law_met" = some (.ref t.Bf)
 Ml:Binds K t.BA ["one","other"] []
 Lw:eP K "_law_by_meets" "_law_by_meets" vE t.Ey t.EK
 X8:mg "_law_by_meets" = some (.ref t.Ey)
 Yz:Binds K t.EK ["clocks","bound"] []
 Mu:eP K "law" "law" yH t.Bu t.wu
 Ma:mg "law" = some (.ref t.Bu)
 Zd:Binds K t.wu ["script"] []
 yS:mg "ClockError" = some (.ref t.lZ)
 FX:dQ K "ClockError" t.lZ
 Cn:mg "NoClock" = some (.ref t.qi)
 Mh:dQ K "NoClock" t.qi
 A4:mg "NoNumber" = some (.ref t.oI)
 LD:dQ K "NoNumber" t.oI
 Cm:mg "NoPlace" = some (.ref t.qh)
 Mg:dQ K "NoPlace" t.qh
 FR:mg "NoRow" = some (.ref t.uO)
 Yt:dQ K "NoRow" t.uO
 A5:mg "NoClocks" = some (.ref t.oJ)
 LF:dQ K "NoClocks" t.oJ
 El:mg "NoText" = some (.ref t.sC)
 MB:dQ K "NoText" t.sC
 wm:mg "TooGreat" = some (.ref t.dq)
 eB:dQ K "TooGreat" t.dq
 we:uR K t.dq t.lZ t.gF t.zp "TooGreat.__init__" wW ["many","most"]
 fR:gw K t.dq
 tF:ar K (.ref t.dq) (.ref t.qi)=some false
 sr:ar K (.ref t.dq) (.ref t.oJ)=some false
 sm:ar K (.ref t.dq) (.ref t.oI)=some false
 tE:ar K (.ref t.dq) (.ref t.qh)=some false
 uV:ar K (.ref t.dq) (.ref t.uO)=some false
 ua:ar K (.ref t.dq) (.ref t.sC)=some false
 sk:ar K (.ref t.dq) (.ref t.dq)=some true
 zk:ar K (.ref t.dq) (.type "ValueError")=some true
 vX:pH K t.dq "many"
 vW:pH K t.dq "most"
 uU:mg "MOST_FAR_CLOCKS" = some (.int 10 t.uT)
 yR:mg "ValueError" = none
 Mb:mg "all" = none
 K7:mg "bool" = none
 Fk:mg "int" = none
 ee:mg "isinstance" = none
 jY:mg "len" = none
 K6:mg "list" = none
 xO:mg "max" = none
 L9:mg "min" = none
 lD:mg "range" = none
 Fj:mg "set" = none
 sf:mg "sorted" = none
 L8:mg "sum" = none
 xp:mg "tuple" = none
 xM:mg "zip" = none
abbrev rs:List ξ:=["TooGreat"]
section
variable {P:ah} {w:ax} {K:η} {mg:ξ->Option ε} {base:Φ} {t:FI}
theorem pe{x:ξ}{C D:ζ}(h:dQ K x C)(h2:dQ K x D):C=D:=by
 unfold dQ at h h2;rw[h] at h2;cases h2;rfl
theorem Txt.zm(T:Txt K mg t):∀z∈rs,∀D,dQ K z D->gw K D/\ar K (.ref D) (.ref t.qi)=some (z=="NoClock"):=by
 intro z hz D cn;simp only[aa,aZ,or_false] at hz;subst hz;cases pe cn T.eB;exact⟨T.fR,T.tF⟩
theorem Txt.yZ(T:Txt K mg t):∀z∈rs,∀D,dQ K z D->gw K D/\ar K (.ref D) (.ref t.oJ)=some (z=="NoClocks"):=by
 intro z hz D cn;simp only[aa,aZ,or_false] at hz;subst hz;cases pe cn T.eB;exact⟨T.fR,T.sr⟩
theorem Txt.yY(T:Txt K mg t):∀z∈rs,∀D,dQ K z D->gw K D/\ar K (.ref D) (.ref t.oI)=some (z=="NoNumber"):=by
 intro z hz D cn;simp only[aa,aZ,or_false] at hz;subst hz;cases pe cn T.eB;exact⟨T.fR,T.sm⟩
theorem Txt.zl(T:Txt K mg t):∀z∈rs,∀D,dQ K z D->gw K D/\ar K (.ref D) (.ref t.qh)=some (z=="NoPlace"):=by
 intro z hz D cn;simp only[aa,aZ,or_false] at hz;subst hz;cases pe cn T.eB;exact⟨T.fR,T.tE⟩
theorem Txt.Co(T:Txt K mg t):∀z∈rs,∀D,dQ K z D->gw K D/\ar K (.ref D) (.ref t.uO)=some (z=="NoRow"):=by
 intro z hz D cn;simp only[aa,aZ,or_false] at hz;subst hz;cases pe cn T.eB;exact⟨T.fR,T.uV⟩
theorem Txt.A9(T:Txt K mg t):∀z∈rs,∀D,dQ K z D->gw K D/\ar K (.ref D) (.ref t.sC)=some (z=="NoText"):=by
 intro z hz D cn;simp only[aa,aZ,or_false] at hz;subst hz;cases pe cn T.eB;exact⟨T.fR,T.ua⟩
theorem Txt.yX(T:Txt K mg t):∀z∈rs,∀D,dQ K z D->gw K D/\ar K (.ref D) (.ref t.dq)=some (z=="TooGreat"):=by
 intro z hz D cn;simp only[aa,aZ,or_false] at hz;subst hz;cases pe cn T.eB;exact⟨T.fR,T.sk⟩
theorem Txt.YM(T:Txt K mg t):∀z∈rs,∀D,dQ K z D->gw K D/\ar K (.ref D) (.type "ValueError")=some true:=by
 intro z hz D cn;simp only[aa,aZ,or_false] at hz;subst hz;cases pe cn T.eB;exact⟨T.fR,T.zk⟩
theorem Txt.zc(T:Txt K mg t):∀z∈rs,∀D,dQ K z D->pH K D "many":=by
 intro z hz D cn;simp only[aa,aZ,or_false] at hz;subst hz;cases pe cn T.eB;exact T.vX
theorem Txt.zb(T:Txt K mg t):∀z∈rs,∀D,dQ K z D->pH K D "most":=by
 intro z hz D cn;simp only[aa,aZ,or_false] at hz;subst hz;cases pe cn T.eB;exact T.vW
theorem Txt.takes(T:Txt K mg t):xT K rs t.lZ:=by
 intro z hz D cn;simp only[aa,aZ,or_false] at hz;subst hz;cases pe cn T.eB;exact⟨_,T.we.ex⟩
theorem WZ:∀ds Q E,yO ds Q E->ds.length=2:=by
 intro ds Q E h
 first
  | (rcases ds with _|⟨_,_|⟨_,_|⟨_,_|⟨_,_⟩⟩⟩⟩<;>first|rfl|exact h.elim)
  | (obtain⟨rfl,_⟩:=h;rfl)
  | (obtain⟨_,rfl,_⟩:=h;rfl)
  | (obtain⟨_,_,rfl,_⟩:=h;rfl)
  | (obtain⟨_,_,_,rfl,_⟩:=h;rfl)
  | (obtain⟨_,_,_,_,rfl,_⟩:=h;rfl)
  | (obtain⟨_,_,_,_,_,rfl,_⟩:=h;rfl)
  | (obtain⟨_,_,_,_,_,_,rfl,_⟩:=h;rfl)
  | (obtain⟨_,_,_,_,_,_,_,rfl,_⟩:=h;rfl)
  | (obtain⟨_,_,_,_,_,_,_,_,rfl,_⟩:=h;rfl)
theorem WY(T:Txt K mg t):wC P w K mg base 1 t.Ex t.EJ ["many","most"] yO:=by
 refine KL (k:=0) (sp:=yO) T.Lv Xo (by decide) WZ Hq (fun cdv A outer s H E0 E hr hE=>?_) NI;refine cA (lB (kE yW yE (χ (pv 0)) (χ (pv 1)) (dB _)) ?_ mC);refine cA (NQ OE hE T.we T.eB T.wm hr rfl (ω (χ (pv 0)) (ω (χ (pv 1)) aI)))
theorem WX:∀ds G Q,ym ds G Q->ds.length=2:=by
 intro ds G Q h;obtain⟨_,_,rfl,_⟩:=h;rfl
theorem WW(T:Txt K mg t):dS P w K mg base 1 t.ED t.ES ["one","other"] ym:=by
 refine gy (k:=0) (sp:=ym) T.LB xJ (by decide) WX (Iu) (fun cdv A outer s H E hr=>?_) Qy;refine bQ ?_ (cA (fg (χ (pv 0))));refine Ao bY (kE yV (yB hr.units) (χ (pv 1)) aH (dB _)) ?_;refine bQ (cV (i:=2) xJ.nd (bu mP mQ (χ (pv 0)) (χ (pv 1)))) ?_;refine bQ (cV (i:=0) xJ.nd (χ (pv 1))) (cA (cV (i:=1) xJ.nd (χ (pv 2))))
theorem WV:∀ds G Q,yl ds G Q->ds.length=2:=by
 intro ds G Q h;obtain⟨_,_,rfl,_⟩:=h;rfl
theorem WU(T:Txt K mg t):dS P w K mg base 1 t.Bl t.BG ["number","bound"] yl:=by
 refine gy (k:=0) (sp:=yl) T.FD i5 (by decide) WV (Ir) (fun cdv A outer s H E hr=>?_) Q4;refine bQ (cV (i:=2) i5.nd (χ (pv 1))) ?_;refine bQ (cV (i:=3) i5.nd (bu mP mQ (χ (pv 0)) (χ (pv 1)))) ?_;refine bQ (cV (i:=4) i5.nd aH) (bQ (cV (i:=5) i5.nd aH) ?_);refine bQ ?_ (cA (fg (bu mP mQ (χ (pv 4)) (χ (pv 1)))));refine Ao bY (kE yV (yB hr.units) (χ (pv 3)) aH (dB _)) ?_;refine bQ (cV (i:=6) i5.nd (bu qH qI (χ (pv 2)) (χ (pv 3)))) ?_;refine bQ (cV (i:=7) i5.nd (bu lR lS (χ (pv 2)) (bu kg kh (χ (pv 6)) (χ (pv 3))))) ?_;refine bQ (cV (i:=8) i5.nd (bu lR lS (χ (pv 4)) (bu kg kh (χ (pv 6)) (χ (pv 5))))) ?_;refine bQ (cV (i:=2) i5.nd (χ (pv 3))) (bQ (cV (i:=4) i5.nd (χ (pv 5))) ?_);refine bQ (cV (i:=3) i5.nd (χ (pv 7))) (cA (cV (i:=5) i5.nd (χ (pv 8))))
theorem WT:∀ds G Q,yk ds G Q->ds.length=2:=by
 intro ds G Q h;obtain⟨_,_,rfl,_⟩:=h;rfl
theorem WS(T:Txt K mg t):dS P w K mg base 2 t.Be t.Bz ["one","other"] yk:=by
 refine gy (k:=1) (sp:=yk) T.Fz tR (by decide) WT (Ip) (fun cdv A outer s H E hr=>?_) QR;refine bQ (cV (i:=2) tR.nd ?_) ?_;refine dG ((WW T).mono (by decide)) hr T.Yd T.LB.kp T.YE ?_;refine ω (fM (χ (pv 0)) aH) (ω (fM (χ (pv 1)) aH) aI);refine bQ (cV (i:=3) tR.nd (bu lR lS (fM (χ (pv 1)) aH) (fM (χ (pv 0)) aH))) ?_;refine bQ (lB (kE yV (yB hr.units) (bu mP mQ (χ (pv 3)) (χ (pv 2))) aH (dB _)) (cA (fg As)) mC) ?_;refine bQ (cV (i:=4) tR.nd (bu qH qI (fM (χ (pv 1)) aH) (χ (pv 2)))) ?_;refine bQ (cV (i:=5) tR.nd ?_) (cA (fg ?_));refine bu mP mQ (bu kg kh (bu qH qI (χ (pv 3)) (χ (pv 2))) ?_) (χ (pv 4));refine dG ((WU T).mono (by decide)) hr T.LZ T.FD.kp T.Mn ?_;refine ω (bu qH qI (fM (χ (pv 0)) aH) (χ (pv 2))) (ω (χ (pv 4)) aI);refine lQ (ω (bu kg kh (fM (χ (pv 0)) aH) (χ (pv 4))) ?_);refine ω (bu gU gV (fM (χ (pv 0)) aH) (bu kg kh (fM (χ (pv 0)) aH) (χ (pv 5)))) aI
theorem WR:∀ds G Q,xf ds G Q->ds.length=3:=by
 intro ds G Q h;obtain⟨_,_,_,_,_,_,rfl,_⟩:=h;rfl
theorem GD(T:Txt K mg t):dS P w K mg base 1 t.Bq t.BL ["weights","met","weight"] xf:=by
 refine gy (k:=0) (sp:=xf) T.BY Cc (by decide) WR (IH) (fun cdv A outer s H E hr=>?_) Pa;refine bQ ?_ (cA (Pj hr.units (χ (pv 0)) (χ (pv 1)) (vI ?_)));refine cV (i:=3) Cc.nd (Ph hr.units (χ (pv 0)) (χ (pv 1)) ?_);refine bu kg kh (iE (ω aH aI)) (mL hr.units T.jY (ω (χ (pv 2)) aI));refine qF rfl (show dJ GK (Ξ Ab) _ ["one","other"] [] from⟨rfl,by decide +kernel,by decide +kernel,by decide +kernel,by decide +kernel,by decide +kernel⟩) ?_ ?_;refine AZ T.xM (ω (χ (pv 3)) (ω (χ (pv 2)) aI));intro s0 H0 fp0;refine⟨(rT rfl ?_),nQ,(bu gU gV (χ (pv 0)) (χ (pv 1)))⟩;refine mB (fC (i:=0) (show (["one","other"]:List ξ).Nodup by decide +kernel)) ?_;refine mB (fC (i:=1) (show (["one","other"]:List ξ).Nodup by decide +kernel)) rU
theorem WQ:∀ds G Q,xc ds G Q->ds.length=1:=by
 intro ds G Q h;obtain⟨_,rfl,_⟩:=h;rfl
theorem WO(T:Txt K mg t):dS P w K mg base 3 t.Bm t.BH ["clocks"] xc:=by
 refine gy (k:=2) (sp:=xc) T.FE nu (by decide) WQ (IE) (fun cdv A outer s H E hr=>?_) OZ;refine bQ (cV (i:=1) nu.nd (Pg hr.units (lQ (ω aH (ω aH aI))) (vI (iE (ω aH aI))))) ?_;refine bQ ?_ (cA (fg (χ (pv 1))));refine mM bY rfl (mO (χ (pv 0))) (fC (i:=2) nu.nd) ?_;refine bQ (cV (i:=3) nu.nd Pk) (bQ ?_ (cA (cV (i:=1) nu.nd (χ (pv 3)))));refine mM bY rfl (HP (χ (pv 1))) ?_ ?_;refine rT rfl (mB (fC (i:=4) nu.nd) (mB (fC (i:=5) nu.nd) rU));refine bQ (xk ?_) ?_;refine dG ((GD T).mono (by decide)) hr T.Fi T.BY.kp T.Fs ?_;refine ω (χ (pv 3)) (ω (χ (pv 4)) (ω (bu Ah Ai (χ (pv 5)) (iE (ω aH aI))) aI));refine bQ (cV (i:=6) nu.nd ?_) (cA ?_);refine dG ((WS T).mono (by decide)) hr T.LW T.Fz.kp T.Mk (ω (χ (pv 4)) (ω (χ (pv 2)) aI));refine lB (kE JP Kt (χ (pv 6)) As (dB _)) (cA (xk ?_)) mC;refine dG ((GD T).mono (by decide)) hr T.Fi T.BY.kp T.Fs ?_;refine ω (χ (pv 3)) (ω (χ (pv 6)) (ω ?_ aI));refine qF rfl (show dJ GL (Ξ Ac) _ ["more","less"] [] from⟨rfl,by decide +kernel,by decide +kernel,by decide +kernel,by decide +kernel,by decide +kernel⟩) ?_ ?_;refine AZ T.xM ?_;refine ω (bu Ah Ai (iE (ω aH aI)) (χ (pv 5))) ?_;refine ω (bu Ah Ai (χ (pv 5)) (iE (ω aH aI))) aI;intro s0 H0 fp0;refine⟨(rT rfl ?_),nQ,(bu lR lS (χ (pv 0)) (χ (pv 1)))⟩;refine mB (fC (i:=0) (show (["more","less"]:List ξ).Nodup by decide +kernel)) ?_;refine mB (fC (i:=1) (show (["more","less"]:List ξ).Nodup by decide +kernel)) rU
theorem WN:∀ds G Q,xb ds G Q->ds.length=2:=by
 intro ds G Q h;obtain⟨_,_,rfl,_⟩:=h;rfl
theorem WM(T:Txt K mg t):dS P w K mg base 1 t.Eu t.EH ["clock","bound"] xb:=by
 refine gy (k:=0) (sp:=xb) T.Lu XY (by decide) WN (IB) (fun cdv A outer s H E hr=>?_) OY;refine cA (fg ?_);refine Am hr.units T.xO (ω aH (ω (bu gU gV ?_ aH) aI));refine bu qH qI (bu lR lS (bu lR lS (χ (pv 1)) (fM (χ (pv 0)) aH)) aH) (fM (χ (pv 0)) aH)
theorem WL:∀ds Q E,qC ds Q E->ds.length=2:=by
 intro ds Q E h
 first
  | (rcases ds with _|⟨_,_|⟨_,_|⟨_,_|⟨_,_⟩⟩⟩⟩<;>first|rfl|exact h.elim)
  | (obtain⟨rfl,_⟩:=h;rfl)
  | (obtain⟨_,rfl,_⟩:=h;rfl)
  | (obtain⟨_,_,rfl,_⟩:=h;rfl)
  | (obtain⟨_,_,_,rfl,_⟩:=h;rfl)
  | (obtain⟨_,_,_,_,rfl,_⟩:=h;rfl)
  | (obtain⟨_,_,_,_,_,rfl,_⟩:=h;rfl)
  | (obtain⟨_,_,_,_,_,_,rfl,_⟩:=h;rfl)
  | (obtain⟨_,_,_,_,_,_,_,rfl,_⟩:=h;rfl)
  | (obtain⟨_,_,_,_,_,_,_,_,rfl,_⟩:=h;rfl)
theorem wV(T:Txt K mg t):wC P w K mg base 4 t.Bp t.BK ["clocks","bound"] qC:=by
 refine KL (k:=3) (sp:=qC) T.sL qY (by decide) WL Hi (fun cdv A outer s H E0 E hr hE=>?_) Nt;refine bQ (xk ?_) ?_;refine xa ((WY T).mono (by decide)) hr (LR hE) T.X7 T.Lv.kp T.Yy ?_;refine ω (mL hr.units T.jY (ω (χ (pv 0)) aI)) (ω (Rx T.uU) aI);refine bQ (cV (i:=2) qY.nd ?_) (bQ ?_ (cA (fg (χ (pv 2)))));refine bu kg kh (iE (ω aH aI)) (bu gU gV (mL hr.units T.jY (ω (χ (pv 0)) aI)) aH);refine mM OF rfl (HP (dG ((WO T).mono (by decide)) hr T.L4 T.FE.kp T.Mo (ω (χ (pv 0)) aI))) ?_ ?_;refine rT rfl (mB (fC (i:=3) qY.nd) (mB (fC (i:=4) qY.nd) rU));refine bQ (cV (i:=5) qY.nd ?_) (cA ?_);refine dG ((WM T).mono (by decide)) hr T.X6 T.Lu.kp T.Yx (ω (χ (pv 3)) (ω (χ (pv 1)) aI));refine AY (i:=2) rfl qY.nd (show dJ GN (Ξ Ad) _ ["counted","part"] [5] from⟨rfl,by decide +kernel,by decide +kernel,by decide +kernel,by decide +kernel,by decide +kernel⟩) ?_ ?_;refine AZ T.xM (ω (χ (pv 2)) (ω (χ (pv 4)) aI));intro s0 H0 fp0;refine⟨(rT rfl ?_),nQ,(bu gU gV (χ (pv 0)) (bu kg kh (χ (pv 2)) (χ (pv 1))))⟩;refine mB (fC (i:=0) (show (["counted","part","many"]:List ξ).Nodup by decide +kernel)) ?_;refine mB (fC (i:=1) (show (["counted","part","many"]:List ξ).Nodup by decide +kernel)) rU
theorem WJ:∀ds G Q,yt ds G Q->ds.length=2:=by
 intro ds G Q h;obtain⟨_,_,rfl,_⟩:=h;rfl
theorem WI(T:Txt K mg t):dS P w K mg base 1 t.Bs t.BM ["script","k"] yt:=by
 refine gy (k:=0) (sp:=yt) T.FH XW (by decide) WJ (IU) (fun cdv A outer s H E hr=>?_) Rj;refine bQ ?_ (cA (fg aH));refine lB (kE Ee (Ef hr.xX) (χ (pv 1)) (mL hr.units T.jY (ω (χ (pv 0)) aI)) (dB _)) ?_ mC;refine cA (fg (fM (χ (pv 0)) (χ (pv 1))))
theorem Xj:∀ds G Q,xi ds G Q->ds.length=1:=by
 intro ds G Q h;obtain⟨_,rfl,_⟩:=h;rfl
theorem GC(T:Txt K mg t):dS P w K mg base 1 t.Bh t.BC ["seed"] xi:=by
 refine gy (k:=0) (sp:=xi) T.BW B9 (by decide) Xj (IT) (fun cdv A outer s H E hr=>?_) Ri;refine bQ (cV (i:=0) B9.nd (bu mP mQ (bu gU gV (χ (pv 0)) aH) aH)) ?_;refine cA (fg (bu mP mQ ?_ aH));refine bu gU gV (bu gU gV (bu kg kh (χ (pv 0)) (χ (pv 0))) (bu kg kh aH (χ (pv 0)))) aH
theorem Xi:∀ds G Q,AV ds G Q->ds.length=1:=by
 intro ds G Q h;obtain⟨_,rfl,_⟩:=h;rfl
theorem Xh(T:Txt K mg t):dS P w K mg base 1 t.Bn t.BI ["cell"] Du:=by
 refine jn.imp ?_ Rc;refine gy (k:=0) (sp:=AV) T.FF Ca (by decide) Xi (IQ) (fun cdv A outer s H E hr=>?_) Rf;refine bQ (cV (i:=1) Ca.nd (Am hr.units T.xO (ω (χ (pv 0)) (ω (bu lR lS aH (χ (pv 0))) aI)))) ?_;refine cA (fg (iE (ω (χ (pv 1)) ?_)));refine ω (Rt hr.units T.Fk (ω (yx Yh V4 (χ (pv 1)) (bu wZ w9 aH aH) (dB _)) aI)) ?_;refine ω (bu mP mQ (χ (pv 1)) aH) aI
theorem Xg:∀ds G Q,AW ds G Q->ds.length=2:=by
 intro ds G Q h;obtain⟨_,_,_,_,_,rfl,_⟩:=h;rfl
theorem lP(T:Txt K mg t):dS P w K mg base 2 t.Bg t.BB ["pen","many"] ku:=by
 refine jn.imp ?_ Rg;refine gy (k:=1) (sp:=AW) T.iR B8 (by decide) Xg (IS) (fun cdv A outer s H E hr=>?_) Rh;refine bQ ?_ ?_;refine lB (kE sj (rX hr.units) (fM (χ (pv 0)) aH) aH (dB _)) ?_ mC;refine bQ (cV (i:=2) B8.nd (bu mP mQ (fM (χ (pv 0)) aH) (χ (pv 1)))) ?_;refine bQ (Ap (bu qH qI (fM (χ (pv 0)) aH) (χ (pv 1))) (Dy (χ (pv 0)) aH)) (cA (fg (χ (pv 2))));refine bQ (Ap ?_ (Dy (χ (pv 0)) aH)) ?_;refine dG ((GC T).mono (by decide)) hr T.Fg T.BW.kp T.Fp (ω ?_ aI);refine bu gU gV (dG ((GC T).mono (by decide)) hr T.Fg T.BW.kp T.Fp (ω (fM (χ (pv 0)) aH) aI)) (aH);refine cA (fg (bu mP mQ (bu qH qI (fM (χ (pv 0)) aH) aH) (χ (pv 1))))
theorem Xf:∀ds G Q,vK ds G Q->ds.length=1:=by
 intro ds G Q h
 first
  | (rcases ds with _|⟨_,_|⟨_,_|⟨_,_|⟨_,_⟩⟩⟩⟩<;>first|rfl|exact h.elim)
  | (obtain⟨rfl,_⟩:=h;rfl)
  | (obtain⟨_,rfl,_⟩:=h;rfl)
  | (obtain⟨_,_,rfl,_⟩:=h;rfl)
  | (obtain⟨_,_,_,rfl,_⟩:=h;rfl)
  | (obtain⟨_,_,_,_,rfl,_⟩:=h;rfl)
  | (obtain⟨_,_,_,_,_,rfl,_⟩:=h;rfl)
  | (obtain⟨_,_,_,_,_,_,rfl,_⟩:=h;rfl)
  | (obtain⟨_,_,_,_,_,_,_,rfl,_⟩:=h;rfl)
  | (obtain⟨_,_,_,_,_,_,_,_,rfl,_⟩:=h;rfl)
theorem Dh(T:Txt K mg t):xw P w K mg base 1 t.xQ t.xR ["found"] vK:=by
 refine KN (k:=0) (sp:=vK) T.xV XQ (by decide) Xf (Rl) (fun cdv A outer s H E hr=>?_) Rk;refine cA (fg ?_);refine Aq (Dv R8 rfl (χ (pv 0)) T.ee T.Fk rfl (by decide) (by decide)) ?_;refine Dz (Ru (Dv R7 rfl (χ (pv 0)) T.ee T.K7 rfl (by decide) (by decide)))
theorem Xe(T:Txt K mg t):dS P w K mg base 1 t.xQ t.xR ["found"] vK:=(Dh T).calm
theorem Xd:∀ds G Q,(yN rs) ds G Q->ds.length=1:=by
 intro ds G Q h
 first
  | (rcases ds with _|⟨_,_|⟨_,_|⟨_,_|⟨_,_⟩⟩⟩⟩<;>first|rfl|exact h.elim)
  | (obtain⟨rfl,_⟩:=h;rfl)
  | (obtain⟨_,rfl,_⟩:=h;rfl)
  | (obtain⟨_,_,rfl,_⟩:=h;rfl)
  | (obtain⟨_,_,_,rfl,_⟩:=h;rfl)
  | (obtain⟨_,_,_,_,rfl,_⟩:=h;rfl)
  | (obtain⟨_,_,_,_,_,rfl,_⟩:=h;rfl)
  | (obtain⟨_,_,_,_,_,_,rfl,_⟩:=h;rfl)
  | (obtain⟨_,_,_,_,_,_,_,rfl,_⟩:=h;rfl)
  | (obtain⟨_,_,_,_,_,_,_,_,rfl,_⟩:=h;rfl)
theorem Xc(T:Txt K mg t):xw P w K mg base 1 t.Et t.EG ["e"] (yN rs):=by
 refine KN (k:=0) (sp:=(yN rs)) T.Ls zP (by decide) Xd (Ho rs) (fun cdv A outer s H E hr=>?_) (Oe rs);refine bQ (cV (i:=1) zP.nd ?_) ?_;refine iE (ω (vG (T.zm) (χ (pv 0)) T.ee T.Cn) ?_);refine ω (vG (T.yY) (χ (pv 0)) T.ee T.A4) ?_;refine ω (vG (T.zl) (χ (pv 0)) T.ee T.Cm) (ω (vG (T.Co) (χ (pv 0)) T.ee T.FR) aI);refine bQ ?_ ?_;refine cV (i:=1) zP.nd (bu gU gV (χ (pv 1)) (iE ?_));refine ω (vG (T.yZ) (χ (pv 0)) T.ee T.A5) ?_;refine ω (vG (T.A9) (χ (pv 0)) T.ee T.El) (ω (vG (T.yX) (χ (pv 0)) T.ee T.wm) aI);refine bQ (lB (yv ?_) (cA (fg rW)) mC) (cA (fg ?_));refine yw (rV (pf (NP (T.YM) (χ (pv 0)) T.ee T.yR))) (Ar ?_);refine kE yV (yB hr.units) (xj NY PySem.F.slot_list_count PySem.F.type_list_count N0 (χ (pv 1)) (ω qG aI)) aH (dB _);refine IZ (ω rW (ω rW (ω rW (ω rW (ω rW (ω rW (ω rW aI))))))) ?_;refine xj NX PySem.F.slot_list_index PySem.F.type_list_index NZ (χ (pv 1)) (ω qG aI)
theorem Xb:∀ds G Q,vJ ds G Q->ds.length=2:=by
 intro ds G Q h;obtain⟨_,_,rfl,_⟩:=h;rfl
theorem Dg(T:Txt K mg t):dS P w K mg base 3 t.Ew t.EI ["pen","most"] vJ:=by
 refine gy (k:=2) (sp:=vJ) T.BV E6 (by decide) Xb (IJ) (fun cdv A outer s H E hr=>?_) Q6;refine bQ (cV (i:=2) E6.nd (bu gU gV aH ?_)) (cA (fg (lQ (ω (χ (pv 2)) ?_))));refine dG ((lP T).mono (by decide)) hr T.jw T.iR.kp T.jx (ω (χ (pv 0)) (ω (χ (pv 1)) aI));refine ω (dG ((lP T).mono (by decide)) hr T.jw T.iR.kp T.jx (ω (χ (pv 0)) (ω (χ (pv 2)) aI))) (aI)
theorem Xa:∀ds G Q,yq ds G Q->ds.length=3:=by
 intro ds G Q h;obtain⟨_,_,_,rfl,_⟩:=h;rfl
theorem WH(T:Txt K mg t):dS P w K mg base 3 t.EA t.EN ["pen","least","most"] yq:=by
 refine gy (k:=2) (sp:=yq) T.Ly rQ (by decide) Xa (Js) (fun cdv A outer s H E hr=>?_) RC;refine bQ (cV (i:=3) rQ.nd (iE (ω (lQ (ω aH (ω aH aI))) aI))) ?_;refine bQ ?_ (cA (fg (IY hr.units T.sf (ω (χ (pv 3)) aI))));refine Ao bY (yv ?_) ?_;refine yw (kE Ee (Ef hr.xX) (mL hr.units T.jY (ω (χ (pv 3)) aI)) (χ (pv 1)) (dB _)) (Ar (yv ?_));refine Rv ?_ (Rw (kE Ee (Ef hr.xX) (mL hr.units T.jY (ω (χ (pv 3)) aI)) (χ (pv 2)) (dB _)));refine kE yW yE (dG ((lP T).mono (by decide)) hr T.jw T.iR.kp T.jx (ω (χ (pv 0)) (ω aH aI))) ?_ (dB _);refine aH;refine bQ (cV (i:=4) rQ.nd ?_) ?_;refine IZ (ω aH (ω aH (ω aH (ω aH (ω aH (ω aH aI)))))) ?_;refine dG ((lP T).mono (by decide)) hr T.jw T.iR.kp T.jx (ω (χ (pv 0)) (ω aH aI));refine bQ (cV (i:=4) rQ.nd ?_) ?_;refine Rr hr.units T.L9 (ω (χ (pv 4)) (ω (Am hr.units T.xO ?_) aI));refine ω aH (ω (bu gU gV (bu lR lS (χ (pv 2)) (mL hr.units T.jY (ω (χ (pv 3)) aI))) aH) aI);refine bQ ?_ ?_;refine Ap ?_ (rT rfl (mB (fC (i:=5) rQ.nd) (mB (fC (i:=6) rQ.nd) rU)));refine xj JK rD rC Ke (χ (pv 3)) (ω ?_ aI);refine dG ((lP T).mono (by decide)) hr T.jw T.iR.kp T.jx ?_;refine ω (χ (pv 0)) (ω (mL hr.units T.jY (ω (χ (pv 3)) aI)) aI);refine bQ ?_ ?_;refine lB (kE yW yE (bu kg kh (χ (pv 5)) (χ (pv 4))) aH (dB _)) (cA (fg (IY hr.units T.sf ?_))) mC;refine ω (bu gU gV (χ (pv 3)) (iE (ω (lQ (ω (χ (pv 5)) (ω (χ (pv 6)) aI))) aI))) aI;refine cA (cV (i:=3) rQ.nd (bu gU gV (χ (pv 3)) ?_));refine qF rfl (show dJ GJ (Ξ Aa) _ ["part"] [5,4,6] from⟨rfl,by decide +kernel,by decide +kernel,by decide +kernel,by decide +kernel,by decide +kernel⟩) ?_ ?_;refine tX T.lD (ω (χ (pv 4)) aI);intro s0 H0 fp0;refine⟨(fC (i:=0) (show (["part","step","k","rest"]:List ξ).Nodup by decide +kernel)),nQ,?_⟩;refine lQ (ω (bu kg kh (χ (pv 1)) (χ (pv 2))) ?_);refine ω (bu gU gV (χ (pv 3)) (bu kg kh (χ (pv 1)) (χ (pv 0)))) aI
theorem WG:∀ds G Q,yp ds G Q->ds.length=2:=by
 intro ds G Q h;obtain⟨_,_,rfl,_⟩:=h;rfl
theorem WE(T:Txt K mg t):dS P w K mg base 4 t.EB t.EO ["pen","most"] yp:=by
 refine gy (k:=3) (sp:=yp) T.Lz oE (by decide) WG (Jq) (fun cdv A outer s H E hr=>?_) QN;refine bQ (cV (i:=2) oE.nd ?_) ?_;refine dG ((lP T).mono (by decide)) hr T.jw T.iR.kp T.jx (ω (χ (pv 0)) (ω aH aI));refine bQ ?_ ?_;refine lB (kE sj (rX hr.units) (χ (pv 2)) aH (dB _)) (cA ?_) (cA ?_);refine AY (i:=3) rfl oE.nd (show dJ GI (Ξ zZ) _ ["turn"] [0] from⟨rfl,by decide +kernel,by decide +kernel,by decide +kernel,by decide +kernel,by decide +kernel⟩) ?_ ?_;refine tX T.lD (ω ?_ aI);refine dG ((lP T).mono (by decide)) hr T.jw T.iR.kp T.jx ?_;refine ω (χ (pv 0)) (ω (bu gU gV (χ (pv 1)) aH) aI);intro s0 H0 fp0;refine⟨(fC (i:=0) (show (["turn","pen"]:List ξ).Nodup by decide +kernel)),nQ,?_⟩;refine dG ((Dg T).mono (by decide)) hr T.Ek T.BV.kp T.EU (ω (χ (pv 1)) (ω aH aI));refine lB (kE sj (rX hr.units) (χ (pv 2)) aH (dB _)) ?_ ?_;refine bQ (cV (i:=4) oE.nd ?_) (bQ (cV (i:=3) oE.nd (iE aI)) (cA ?_));refine iE (ω aH (ω aH (ω aH (ω aH (ω aH (ω aH (ω aH aI)))))));refine mM bY rfl (tX T.lD (ω ?_ aI)) (fC (i:=5) oE.nd) ?_;refine dG ((lP T).mono (by decide)) hr T.jw T.iR.kp T.jx ?_;refine ω (χ (pv 0)) (ω (bu gU gV (χ (pv 1)) aH) aI);refine bQ (cV (i:=6) oE.nd ?_) (cA (xk ?_));refine fM (χ (pv 4)) (dG ((lP T).mono (by decide)) hr T.jw T.iR.kp T.jx (ω (χ (pv 0)) (ω aH aI)));refine xj JL pO pN D4 (χ (pv 3)) (ω (lQ (ω (χ (pv 6)) ?_)) aI);refine ω (dG ((lP T).mono (by decide)) hr T.jw T.iR.kp T.jx (ω (χ (pv 0)) (ω (χ (pv 6)) aI))) (aI);refine bQ (cV (i:=3) oE.nd ?_) ?_;refine dG ((WH T).mono (by decide)) hr T.Ya T.Ly.kp T.YB ?_;refine ω (χ (pv 0)) (ω aH (ω (Am hr.units T.xO (ω aH (ω (bu lR lS (χ (pv 1)) aH) aI))) aI));refine bQ ?_ (cA ?_);refine lB (kE sj (rX hr.units) (χ (pv 2)) aH (dB _)) (cA ?_) mC;refine cV (i:=3) oE.nd (bu gU gV (χ (pv 3)) (iE (ω ?_ aI)));refine dG ((Dg T).mono (by decide)) hr T.Ek T.BV.kp T.EU (ω (χ (pv 0)) (ω aH aI));refine lB (kE sj (rX hr.units) (χ (pv 2)) aH (dB _)) (cA (xk ?_)) mC;refine xj JK rD rC Ke (χ (pv 3)) (ω ?_ aI);refine dG ((lP T).mono (by decide)) hr T.jw T.iR.kp T.jx ?_;refine ω (χ (pv 0)) (ω (mL hr.units T.jY (ω (χ (pv 3)) aI)) aI);refine cA (fg (An (Dw hr.units T.xp (ω (IX hr.units (χ (pv 3)) T.sf T.Fj) aI)) Dx (yu (χ (pv 1)))))
theorem WD:∀ds G Q,xg ds G Q->ds.length=2:=by
 intro ds G Q h;obtain⟨_,_,rfl,_⟩:=h;rfl
theorem GB(T:Txt K mg t):dS P w K mg base 1 t.Bi t.BD ["clock","number"] xg:=by
 refine gy (k:=0) (sp:=xg) T.BX W8 (by decide) WD (Jp) (fun cdv A outer s H E hr=>?_) QM;refine cA (fg ?_);refine yx sj (rX hr.units) (bu mP mQ (bu lR lS (χ (pv 1)) (fM (χ (pv 0)) aH)) (fM (χ (pv 0)) aH)) aH (dB _)
theorem WC:∀ds G Q,yo ds G Q->ds.length=2:=by
 intro ds G Q h;obtain⟨_,_,rfl,_⟩:=h;rfl
theorem WB(T:Txt K mg t):dS P w K mg base 1 t.Bo t.BJ ["one","other"] yo:=by
 refine gy (k:=0) (sp:=yo) T.FG Cb (by decide) WC (Jo) (fun cdv A outer s H E hr=>?_) QJ;refine bQ ?_ (cA (fg (χ (pv 0))));refine Ao bY (kE yW yE (χ (pv 1)) aH (dB _)) (cA ?_);refine Rn (i:=0) (j:=1) rfl Cb.nd rfl rfl (by decide) rfl rfl ?_ rfl;refine ω (χ (pv 1)) (ω (bu mP mQ (χ (pv 0)) (χ (pv 1))) aI)
theorem WA:∀ds G Q,tU ds G Q->ds.length=1:=by
 intro ds G Q h;obtain⟨_,_,rfl,_⟩:=h;rfl
theorem zU(T:Txt K mg t):dS P w K mg base 2 t.Bj t.BE ["clocks"] tU:=by
 refine gy (k:=1) (sp:=tU) T.wD tS (by decide) WA (He) (fun cdv A outer s H E hr=>?_) Nj;refine bQ (cV (i:=1) tS.nd aH) (bQ ?_ (cA (fg (χ (pv 1)))));refine mM bY rfl (mO (χ (pv 0))) ?_ (cA ?_);refine rT rfl (mB (fC (i:=2) tS.nd) (mB (fC (i:=3) tS.nd) rU));refine cV (i:=1) tS.nd (bu kg kh (bu qH qI (χ (pv 1)) ?_) (χ (pv 2)));refine dG ((WB T).mono (by decide)) hr T.L6 T.FG.kp T.Mq (ω (χ (pv 1)) (ω (χ (pv 2)) aI))
theorem Wz:∀ds G Q,yn ds G Q->ds.length=2:=by
 intro ds G Q h;obtain⟨_,_,rfl,_⟩:=h;rfl
theorem Wy(T:Txt K mg t):dS P w K mg base 2 t.Bk t.BF ["clocks","number"] yn:=by
 refine gy (k:=1) (sp:=yn) T.FC W5 (by decide) Wz (Iv) (fun cdv A outer s H E hr=>?_) QH;refine cA (fg (mL hr.units T.jY (ω ?_ aI)));refine qF rfl (show dJ GH (Ξ zY) _ ["clock"] [1] from⟨rfl,by decide +kernel,by decide +kernel,by decide +kernel,by decide +kernel,by decide +kernel⟩) ?_ ?_;refine mO (χ (pv 0));intro s0 H0 fp0;refine⟨(fC (i:=0) (show (["clock","number"]:List ξ).Nodup by decide +kernel)),(Ja ?_),(χ (pv 0))⟩;refine pf (dG ((GB T).mono (by decide)) hr T.Fh T.BX.kp T.Fq (ω (χ (pv 0)) (ω (χ (pv 1)) aI)))
theorem Wx:∀ds G Q,vF ds G Q->ds.length=2:=by
 intro ds G Q h;obtain⟨_,_,rfl,_⟩:=h;rfl
theorem Df(T:Txt K mg t):dS P w K mg base 3 t.Bt t.BN ["clocks","bound"] vF:=by
 refine gy (k:=2) (sp:=vF) T.xW yf (by decide) Wx (Hh) (fun cdv A outer s H E hr=>?_) Nn;refine bQ (cV (i:=2) yf.nd ?_) (bQ ?_ (cA (fg (χ (pv 2)))));refine bu kg kh (iE (ω aH aI)) (bu gU gV (mL hr.units T.jY (ω (χ (pv 0)) aI)) aH);refine mM bY rfl (tX T.lD (ω (χ (pv 1)) aI)) (fC (i:=3) yf.nd) ?_;refine cA (Ro (χ (pv 2)) ?_ aH);refine dG ((Wy T).mono (by decide)) hr T.LY T.FC.kp T.Mm (ω (χ (pv 0)) (ω (χ (pv 3)) aI))
theorem Ww:∀ds G Q,yL ds G Q->ds.length=2:=by
 intro ds G Q h;obtain⟨_,_,rfl,_⟩:=h;rfl
theorem Wv(T:Txt K mg t):dS P w K mg base 4 t.EC t.ER ["clocks","bound"] yL:=by
 refine gy (k:=3) (sp:=yL) T.LA xI (by decide) Ww (Hc) (fun cdv A outer s H E hr=>?_) Nf;refine bQ ?_ ?_;refine cV (i:=2) xI.nd (dG ((zU T).mono (by decide)) hr T.xN T.wD.kp T.xS (ω (χ (pv 0)) aI));refine bQ (cV (i:=3) xI.nd (bu qH qI (χ (pv 1)) (χ (pv 2)))) ?_;refine bQ (cV (i:=4) xI.nd ?_) (cA (fg ?_));refine dG ((Df T).mono (by decide)) hr T.A3 T.xW.kp T.BR ?_;refine ω (χ (pv 0)) (ω (bu lR lS (χ (pv 1)) (bu kg kh (χ (pv 3)) (χ (pv 2)))) aI);refine qF rfl (show dJ GG (Ξ zX) _ ["one","other"] [3] from⟨rfl,by decide +kernel,by decide +kernel,by decide +kernel,by decide +kernel,by decide +kernel⟩) ?_ ?_;refine AZ T.xM (ω ?_ (ω (χ (pv 4)) aI));refine dG ((Df T).mono (by decide)) hr T.A3 T.xW.kp T.BR (ω (χ (pv 0)) (ω (χ (pv 2)) aI));intro s0 H0 fp0;refine⟨(rT rfl ?_),nQ,(bu gU gV (bu kg kh (χ (pv 2)) (χ (pv 0))) (χ (pv 1)))⟩;refine mB (fC (i:=0) (show (["one","other","turns"]:List ξ).Nodup by decide +kernel)) ?_;refine mB (fC (i:=1) (show (["one","other","turns"]:List ξ).Nodup by decide +kernel)) rU
theorem Wu:∀ds G Q,rS ds G Q->ds.length=2:=by
 intro ds G Q h
 first
  | (rcases ds with _|⟨_,_|⟨_,_|⟨_,_|⟨_,_⟩⟩⟩⟩<;>first|rfl|exact h.elim)
  | (obtain⟨rfl,_⟩:=h;rfl)
  | (obtain⟨_,rfl,_⟩:=h;rfl)
  | (obtain⟨_,_,rfl,_⟩:=h;rfl)
  | (obtain⟨_,_,_,rfl,_⟩:=h;rfl)
  | (obtain⟨_,_,_,_,rfl,_⟩:=h;rfl)
  | (obtain⟨_,_,_,_,_,rfl,_⟩:=h;rfl)
  | (obtain⟨_,_,_,_,_,_,rfl,_⟩:=h;rfl)
  | (obtain⟨_,_,_,_,_,_,_,rfl,_⟩:=h;rfl)
  | (obtain⟨_,_,_,_,_,_,_,_,rfl,_⟩:=h;rfl)
theorem yG(T:Txt K mg t):dS P w K mg base 2 t.Bd t.By ["found","due"] rS:=by
 refine gy (k:=1) (sp:=rS) T.uS W3 (by decide) Wu (GZ) (fun cdv A outer s H E hr=>?_) Nd;refine cA (fg ?_);refine Aq (Dv R6 rfl (χ (pv 0)) T.ee T.K6 rfl (by decide) (by decide)) ?_;refine Aq (yx sj (rX hr.units) (χ (pv 0)) (χ (pv 1)) (dB _)) (Dz (Rq hr.units T.Mb (ω ?_ aI)));refine qF rfl (show dJ GF (Ξ zW) _ ["one"] [] from⟨rfl,by decide +kernel,by decide +kernel,by decide +kernel,by decide +kernel,by decide +kernel⟩) ?_ ?_;refine mO (χ (pv 0));intro s0 H0 fp0;refine⟨(fC (i:=0) (show (["one"]:List ξ).Nodup by decide +kernel)),nQ,?_⟩;refine dG ((Xe T).mono (by decide)) hr T.A2 T.xV.kp T.BQ (ω (χ (pv 0)) aI)
theorem Wt:∀ds G Q,yK ds G Q->ds.length=1:=by
 intro ds G Q h;obtain⟨_,rfl,_⟩:=h;rfl
theorem Ws(T:Txt K mg t):dS P w K mg base 5 t.Ez t.EM ["clocks"] yK:=by
 refine gy (k:=4) (sp:=yK) T.Lx E7 (by decide) Wt (HM rs) (fun cdv A outer s H E hr=>?_) Na;refine NR (i:=1) (names:=rs) Lf T.takes T.yS E7.nd ?_ ?_ (cA (fg qG));refine NT (NU ((wV T).mono (by decide)) hr T.uI T.sL.kp T.uP (ω (χ (pv 0)) (ω aH aI))) ?_;refine NS;intro e0;refine bQ (lB (yv ?_) (cA (fg qG)) mC) (cA (fg ?_));refine yw (kE yV (yB hr.units) ?_ rW (dB _)) ?_;refine C2 ((Xc T).mono (by decide)) hr.h.mark T.X5 T.Ls.kp T.Yw (ω (χ (pv 1)) aI);refine yw (rV (pf ?_)) (Ar (rV (pf ?_)));refine C2 ((Dh T).mono (by decide)) hr.h.mark T.A2 T.xV.kp T.BQ (ω (Ae T.zc (χ (pv 1))) aI);refine C2 ((Dh T).mono (by decide)) hr.h.mark T.A2 T.xV.kp T.BQ (ω (Ae T.zb (χ (pv 1))) aI);refine Aq (yx sj (rX hr.units) (Ae T.zc (χ (pv 1))) (mL hr.units T.jY (ω (χ (pv 0)) aI)) (dB _)) ?_;refine Dz (yx sj (rX hr.units) (Ae T.zb (χ (pv 1))) aH (dB _))
theorem Wr:∀ds G Q,yJ ds G Q->ds.length=2:=by
 intro ds G Q h
 first
  | (rcases ds with _|⟨_,_|⟨_,_|⟨_,_|⟨_,_⟩⟩⟩⟩<;>first|rfl|exact h.elim)
  | (obtain⟨rfl,_⟩:=h;rfl)
  | (obtain⟨_,rfl,_⟩:=h;rfl)
  | (obtain⟨_,_,rfl,_⟩:=h;rfl)
  | (obtain⟨_,_,_,rfl,_⟩:=h;rfl)
  | (obtain⟨_,_,_,_,rfl,_⟩:=h;rfl)
  | (obtain⟨_,_,_,_,_,rfl,_⟩:=h;rfl)
  | (obtain⟨_,_,_,_,_,_,rfl,_⟩:=h;rfl)
  | (obtain⟨_,_,_,_,_,_,_,rfl,_⟩:=h;rfl)
  | (obtain⟨_,_,_,_,_,_,_,_,rfl,_⟩:=h;rfl)
theorem Wq(T:Txt K mg t):dS P w K mg base 3 t.Bf t.BA ["one","other"] yJ:=by
 refine gy (k:=2) (sp:=yJ) T.FA ye (by decide) Wr (HL) (fun cdv A outer s H E hr=>?_) M3;refine bQ ?_ (cA (fg As));refine mM bY rfl (tX T.lD (ω (fM (χ (pv 1)) aH) aI)) (fC (i:=2) ye.nd) (cA ?_);refine lB (pf ?_) ?_ mC;refine dG ((GB T).mono (by decide)) hr T.Fh T.BX.kp T.Fq ?_;refine ω (χ (pv 1)) (ω (bu gU gV (fM (χ (pv 0)) aH) (bu kg kh (fM (χ (pv 0)) aH) (χ (pv 2)))) aI);refine bQ (cV (i:=3) ye.nd ?_) (cA (fg (lQ (ω (χ (pv 3)) (ω ?_ aI)))));refine dG ((zU T).mono (by decide)) hr T.xN T.wD.kp T.xS ?_;refine ω (lQ (ω (χ (pv 0)) (ω (χ (pv 1)) aI))) aI;refine bu mP mQ (bu gU gV (fM (χ (pv 0)) aH) (bu kg kh (fM (χ (pv 0)) aH) (χ (pv 2)))) (χ (pv 3))
theorem Wp:∀ds G Q,yI ds G Q->ds.length=2:=by
 intro ds G Q h;obtain⟨_,_,rfl,_⟩:=h;rfl
theorem Wo(T:Txt K mg t):dS P w K mg base 4 t.Ey t.EK ["clocks","bound"] yI:=by
 refine gy (k:=3) (sp:=yI) T.Lw qf (by decide) Wp (HG) (fun cdv A outer s H E hr=>?_) XI;refine bQ (cV (i:=2) qf.nd (iE ?_)) ?_;refine ω (vI (iE (ω (lQ (ω aH (ω aH aI))) aI))) ?_;refine ω (vI (iE aI)) (ω (vI (iE aI)) (ω (vI (iE aI)) aI));refine bQ ?_ ?_;refine mM bY rfl (mO (χ (pv 0))) (fC (i:=3) qf.nd) (cA ?_);refine mM bY rfl (mO (iE (ω aH (ω aH (ω aH aI))))) (fC (i:=4) qf.nd) ?_;refine bQ ?_ (cA ?_);refine AY (i:=5) rfl qf.nd (show dJ zV (Ξ vE) _ ["met"] [3] from⟨rfl,by decide +kernel,by decide +kernel,by decide +kernel,by decide +kernel,by decide +kernel⟩) ?_ ?_;refine mO (fM (χ (pv 2)) (χ (pv 4)));intro s0 H0 fp0;refine⟨(fC (i:=0) (show (["met","clock"]:List ξ).Nodup by decide +kernel)),nQ,?_⟩;refine dG ((Wq T).mono (by decide)) hr T.LX T.FA.kp T.Ml (ω (χ (pv 0)) (ω (χ (pv 1)) aI));refine Ap (vI ?_) (Dy (χ (pv 2)) (bu gU gV (χ (pv 4)) aH));refine bu Ah Ai (fM (χ (pv 2)) (bu gU gV (χ (pv 4)) aH)) ?_;refine qF rfl (show dJ zV (Ξ vE) _ ["met"] [] from⟨rfl,by decide +kernel,by decide +kernel,by decide +kernel,by decide +kernel,by decide +kernel⟩) ?_ ?_;refine mO (χ (pv 5));intro s0 H0 fp0;refine⟨(fC (i:=0) (show (["met"]:List ξ).Nodup by decide +kernel)),(Ja (kE JP Kt (χ (pv 0)) As (dB _))),(χ (pv 0))⟩;refine bQ ?_ ?_;refine AY (i:=6) rfl qf.nd (show dJ zV (Ξ vE) _ ["mets"] [1] from⟨rfl,by decide +kernel,by decide +kernel,by decide +kernel,by decide +kernel,by decide +kernel⟩) ?_ ?_;refine mO (χ (pv 2));intro s0 H0 fp0;refine⟨(fC (i:=0) (show (["mets","bound"]:List ξ).Nodup by decide +kernel)),nQ,(Rp hr.units T.L8 (ω ?_ aI))⟩;refine qF rfl (M1 (fsc:=Ξ vE) (N2:=["mets","bound"]) rfl rfl ⟨rfl,by decide +kernel,by decide +kernel,by decide +kernel,by decide +kernel,by decide +kernel⟩) ?_ ?_;refine mO (χ (pv 0));intro s0 H0 fp0;refine⟨(rT rfl ?_),nQ,?_⟩;refine mB (fC (i:=0) (show (["step","rest","bound"]:List ξ).Nodup by decide +kernel)) ?_;refine mB (fC (i:=1) (show (["step","rest","bound"]:List ξ).Nodup by decide +kernel)) rU;refine bu qH qI (bu lR lS (bu lR lS (bu gU gV (χ (pv 2)) (χ (pv 0))) aH) (χ (pv 1))) (χ (pv 0));refine bQ (cV (i:=7) qf.nd ?_) ?_;refine bu lR lS (bu gU gV (bu lR lS (χ (pv 1)) (fM (χ (pv 6)) aH)) (fM (χ (pv 6)) aH)) ?_;refine fM (χ (pv 6)) aH;refine bQ (cV (i:=8) qf.nd ?_) (cA (fg ?_));refine bu gU gV (bu lR lS (fM (χ (pv 6)) aH) (bu kg kh aH (fM (χ (pv 6)) aH))) ?_;refine bu kg kh aH (fM (χ (pv 6)) aH);refine An (iE (ω (χ (pv 7)) (ω (χ (pv 8)) ?_))) Dx ?_;refine ω (bu lR lS (fM (χ (pv 6)) aH) (bu kg kh aH (fM (χ (pv 6)) aH))) ?_;refine ω (fM (χ (pv 6)) aH) aI;refine yu (bu gU gV (mL hr.units T.jY (ω (χ (pv 0)) aI)) aH)
theorem Wn:∀ds G Q,nt ds G Q->ds.length=1:=by
 intro ds G Q h;obtain⟨_,rfl,_⟩:=h;rfl
theorem KU(T:Txt K mg t):dS P w K mg base 6 t.Bu t.wu ["script"] nt:=by
 refine gy (k:=5) (sp:=nt) T.Mu iD (by decide) Wn (GS) (fun cdv A outer s H E hr=>?_) Xq;refine bQ (lB (yv ?_) (cA (fg qG)) mC) ?_;refine yw (rV (pf ?_)) (Ar (rV (pf ?_)));refine dG ((yG T).mono (by decide)) hr T.wj T.uS.kp T.wy (ω ?_ (ω (iE (ω aH aI)) aI));refine xa ((wV T).mono (by decide)) hr wd T.uI T.sL.kp T.uP (ω (lQ aI) (ω aH aI));refine dG ((yG T).mono (by decide)) hr T.wj T.uS.kp T.wy ?_;refine ω ?_ (ω (iE (ω aH (ω (bu wZ w9 aH aH) aI))) aI);refine xa ((wV T).mono (by decide)) hr wd T.uI T.sL.kp T.uP ?_;refine ω (lQ (ω (lQ (ω aH (ω aH aI))) aI)) (ω (bu wZ w9 aH aH) aI);refine bQ ?_ (bQ ?_ (cA (fg qG)));refine mM bY rfl (mO (iE (ω aH (ω aH aI)))) (fC (i:=1) iD.nd) ?_;refine cA (lB (rV (pf ?_)) (cA (fg qG)) mC);refine dG ((Ws T).mono (by decide)) hr T.X9 T.Lx.kp T.YA ?_;refine ω (Dw hr.units T.xp (ω ?_ aI)) aI;refine qF rfl (show dJ Di (Ξ yH) _ ["k"] [1] from⟨rfl,by decide +kernel,by decide +kernel,by decide +kernel,by decide +kernel,by decide +kernel⟩) ?_ ?_;refine tX T.lD (ω (χ (pv 1)) aI);intro s0 H0 fp0;refine⟨(fC (i:=0) (show (["k","step"]:List ξ).Nodup by decide +kernel)),nQ,(lQ (ω (χ (pv 1)) (ω (χ (pv 0)) aI)))⟩;refine mM bY rfl (mO ?_) (fC (i:=2) iD.nd) ?_;refine bu gU gV (iE ?_) (An (χ (pv 0)) (yu aH) (yu aH));refine ω (dG ((WI T).mono (by decide)) hr T.L7 T.FH.kp T.Mr (ω (χ (pv 0)) (ω aH aI))) (aI);refine bQ ?_ ?_;refine cV (i:=3) iD.nd (dG ((Xh T).mono (by decide)) hr T.L5 T.FF.kp T.Mp (ω (χ (pv 2)) aI));refine bQ (cV (i:=4) iD.nd ?_) ?_;refine dG ((WE T).mono (by decide)) hr T.Yb T.Lz.kp T.YC (ω (χ (pv 3)) (ω aH aI));refine bQ ?_ ?_;refine lB ?_ (cA (cV (i:=4) iD.nd (An (χ (pv 4)) Dx (yu aH)))) mC;refine kE yW yE (dG ((zU T).mono (by decide)) hr T.xN T.wD.kp T.xS (ω (χ (pv 4)) aI)) aH (dB _);refine bQ (cV (i:=5) iD.nd ?_) ?_;refine dG ((lP T).mono (by decide)) hr T.jw T.iR.kp T.jx (ω (χ (pv 3)) (ω aH aI));refine bQ (lB (rV (pf ?_)) (cA (fg qG)) mC) ?_;refine dG ((yG T).mono (by decide)) hr T.wj T.uS.kp T.wy ?_;refine ω ?_ (ω ?_ aI);refine xa ((wV T).mono (by decide)) hr wd T.uI T.sL.kp T.uP (ω (χ (pv 4)) (ω (χ (pv 5)) aI));refine dG ((Df T).mono (by decide)) hr T.A3 T.xW.kp T.BR (ω (χ (pv 4)) (ω (χ (pv 5)) aI));refine bQ ?_ ?_;refine cV (i:=6) iD.nd (dG ((zU T).mono (by decide)) hr T.xN T.wD.kp T.xS (ω (χ (pv 4)) aI));refine bQ (lB (kE Yf V5 (χ (pv 6)) aH (dB _)) (cA ?_) mC) ?_;refine mM bY rfl (mO ?_) (fC (i:=7) iD.nd) (cA ?_);refine iE (ω aH (ω (bu lR lS (χ (pv 6)) aH) ?_));refine ω (χ (pv 6)) (ω (bu gU gV (χ (pv 6)) aH) (ω ?_ aI));refine dG ((lP T).mono (by decide)) hr T.jw T.iR.kp T.jx ?_;refine ω (χ (pv 3)) (ω (bu wZ w9 aH aH) aI);refine mM bY rfl (tX T.lD (ω aH aI)) (fC (i:=8) iD.nd) ?_;refine bQ (cV (i:=9) iD.nd ?_) ?_;refine xa ((wV T).mono (by decide)) hr wd T.uI T.sL.kp T.uP (ω (χ (pv 4)) (ω (χ (pv 7)) aI));refine bQ (lB (rV (pf ?_)) (cA (fg qG)) mC) ?_;refine dG ((yG T).mono (by decide)) hr T.wj T.uS.kp T.wy (ω (χ (pv 9)) (ω ?_ aI));refine dG ((Wv T).mono (by decide)) hr T.Yc T.LA.kp T.YD ?_;refine ω (χ (pv 4)) (ω (χ (pv 7)) aI)
 refine cA (xk (xj JL pO pN D4 (χ (pv 9)) (ω aH aI)));refine bQ (cV (i:=10) iD.nd ?_) ?_;refine Dw hr.units T.xp (ω (IX hr.units ?_ T.sf T.Fj) aI);refine qF rfl (show dJ Di (Ξ yH) _ ["turn"] [3] from⟨rfl,by decide +kernel,by decide +kernel,by decide +kernel,by decide +kernel,by decide +kernel⟩) ?_ ?_;refine tX T.lD (ω aH aI);intro s0 H0 fp0;refine⟨(fC (i:=0) (show (["turn","pen"]:List ξ).Nodup by decide +kernel)),nQ,?_⟩;refine dG ((Dg T).mono (by decide)) hr T.Ek T.BV.kp T.EU (ω (χ (pv 1)) (ω aH aI));refine bQ ?_ (cA (lB (rV (pf ?_)) (cA (fg qG)) mC));refine cV (i:=7) iD.nd (bu lR lS (bu wZ w9 aH aH) ?_);refine dG ((lP T).mono (by decide)) hr T.jw T.iR.kp T.jx ?_;refine ω (χ (pv 3)) (ω (bu wZ w9 aH aH) aI);refine dG ((yG T).mono (by decide)) hr T.wj T.uS.kp T.wy ?_;refine ω ?_ (ω ?_ aI);refine xa ((wV T).mono (by decide)) hr wd T.uI T.sL.kp T.uP (ω (χ (pv 10)) (ω (χ (pv 7)) aI));refine dG ((Wo T).mono (by decide)) hr T.X8 T.Lw.kp T.Yz ?_;refine ω (χ (pv 10)) (ω (χ (pv 7)) aI)
end
def hV(K:η)(nm:ξ)(st:aR):Prop:=∃f d,eP K nm nm st f d/\bt K aN nm=some (some (.ref f))
theorem dg{K:η}{nm:ξ}{st:aR}{f:ζ}{od an:Option ζ}{sl:Array (Option ε)}{oc kV dc pm cd ct:ε}(a:bt K aN nm=some (some (.ref f)))(l:K.lookup f=some ⟨oc,od,.func (gL nm nm (oR st) (fu st) (Ξ st) .none kV dc pm an cd ct),sl⟩)(c:j7 K cd nm=true)(k:cp K (.ref f)=true):hV K nm st:=⟨f,_,Kc l c k,a⟩
theorem xY{K:η}{h:Φ}{mg:ξ->Option ε}(X:K.In h)(G:h.Ns aN mg)
  (h0:hV K "refuse_above" CW)
  (h1:hV K "common_divisor" CV)
  (h2:hV K "inverse_of" CU)
  (h3:hV K "meet_of" CT)
  (h4:hV K "rung_below" Ad)
  (h5:hV K "weights_of" Ac)
  (h6:hV K "put_weight" Ab)
  (h7:hV K "rings_below" CS)
  (h8:hV K "_law_cell_at" CQ)
  (h9:hV K "_law_next" CP)
  (za:hV K "_law_pen_of" CO)
  (Y8:hV K "_law_draw" CN)
  (Y7:hV K "_law_whole" CM)
  (Y6:hV K "_law_kind_of" CL)
  (Y5:hV K "_law_clock_by" CK)
  (Y4:hV K "_law_parts_by" Aa)
  (Y3:hV K "_law_clocks_by" zZ)
  (Y2:hV K "_law_rings" Dp)
  (Y1:hV K "_law_common" Dn)
  (Y0:hV K "_law_round" Dm)
  (YZ:hV K "_law_times" zY)
  (YY:hV K "_law_counted" Dl)
  (YX:hV K "_law_by_rounds" zX)
  (YW:hV K "_law_is" zW)
  (YV:hV K "_law_too_many" Dk)
  (YU:hV K "_law_met" Dj)
  (YT:hV K "_law_by_meets" vE)
  (YS:hV K "law" yH)
  {C_ClockError:ζ} (n_ClockError:bt K aN "ClockError" = some (some (.ref C_ClockError)))
  {C_NoClock:ζ} (n_NoClock:bt K aN "NoClock" = some (some (.ref C_NoClock)))
  {C_NoNumber:ζ} (n_NoNumber:bt K aN "NoNumber" = some (some (.ref C_NoNumber)))
  {C_NoPlace:ζ} (n_NoPlace:bt K aN "NoPlace" = some (some (.ref C_NoPlace)))
  {C_NoRow:ζ} (n_NoRow:bt K aN "NoRow" = some (some (.ref C_NoRow)))
  {C_NoClocks:ζ} (n_NoClocks:bt K aN "NoClocks" = some (some (.ref C_NoClocks)))
  {C_NoText:ζ} (n_NoText:bt K aN "NoText" = some (some (.ref C_NoText)))
  {C_TooGreat:ζ} (n_TooGreat:bt K aN "TooGreat" = some (some (.ref C_TooGreat)))
  {gF:ζ} (i_TooGreat:dM K (.ref C_TooGreat) "__init__" = some (some (.ref gF)))
  {qd_TooGreat qn_TooGreat:Option ζ} {qs_TooGreat:Array (Option ε)} {qc_TooGreat qk_TooGreat qo_TooGreat qp_TooGreat qe_TooGreat qt_TooGreat:ε} (j_TooGreat:K.lookup gF=some ⟨qc_TooGreat,qd_TooGreat,.func (gL "__init__" "TooGreat.__init__" (oR wW) (fu wW) (Ξ wW) .none qk_TooGreat qo_TooGreat qp_TooGreat qn_TooGreat qe_TooGreat qt_TooGreat),qs_TooGreat⟩) (h_TooGreat:j7 K qe_TooGreat "TooGreat.__init__" = true) (g_TooGreat:cp K (.ref gF)=true) (y_TooGreat:rq K (.ref gF)=some (.type "function"))
  (lX:excIn K C_TooGreat (.ref C_ClockError::iA) (some (.ref gF)) "ValueError.__new__" = true)
  (qz:dM K (.ref C_TooGreat) "__setattr__" = some (some (.builtin "object.__setattr__"))) (v2_TooGreat:nW K C_TooGreat (.type "object")=some true) (v3_TooGreat:cp K (.ref C_TooGreat)=true) (v4_TooGreat:dM K (.ref C_TooGreat) "__getattribute__" = some (some (.builtin "BaseException.__getattribute__"))) (v8_TooGreat:dM K (.ref C_TooGreat) "__getattr__" = some none) (v9_TooGreat:nW K C_TooGreat (.type "BaseException")=some true) (v5_TooGreat:uZ K C_TooGreat=true) (v6_TooGreat:dM K (.ref C_TooGreat) "__class__" = some (some (.builtin "object.__class__")))
  (ju:dM K (.ref C_TooGreat) "many" = some none)
  (jr:dM K (.ref C_TooGreat) "most" = some none)
  (jF:ar K (.ref C_TooGreat) (.ref C_NoClock)=some false)
  (ji:ar K (.ref C_TooGreat) (.ref C_NoClocks)=some false)
  (jh:ar K (.ref C_TooGreat) (.ref C_NoNumber)=some false)
  (jE:ar K (.ref C_TooGreat) (.ref C_NoPlace)=some false)
  (kY:ar K (.ref C_TooGreat) (.ref C_NoRow)=some false)
  (kn:ar K (.ref C_TooGreat) (.ref C_NoText)=some false)
  (jg:ar K (.ref C_TooGreat) (.ref C_TooGreat)=some true)
  (qy:ar K (.ref C_TooGreat) (.type "ValueError")=some true)
  (eb:excIn K C_ClockError iA none "ValueError.__new__" = true) (u1:uX K (.builtin "object.__class__") "__get__" = some (some (.builtin "getset_descriptor.__get__"))) (u2:wK K (.builtin "object.__class__")=some true)
  {t0:Tok} (gint0:bt K aN "MOST_FAR_CLOCKS" = some (some (.int 10 t0)))
  (z0:bt K aN "ValueError" = some none)
  (z1:bt K aN "all" = some none)
  (z2:bt K aN "bool" = some none)
  (z3:bt K aN "int" = some none)
  (z4:bt K aN "isinstance" = some none)
  (z5:bt K aN "len" = some none)
  (z6:bt K aN "list" = some none)
  (z7:bt K aN "max" = some none)
  (z8:bt K aN "min" = some none)
  (z9:bt K aN "range" = some none)
  (Ge:bt K aN "set" = some none)
  (Gd:bt K aN "sorted" = some none)
  (Gc:bt K aN "sum" = some none)
  (FZ:bt K aN "tuple" = some none)
  (FY:bt K aN "zip" = some none)
  : ∃t:FI,Txt K mg t/\∀(s:θ) (v:ε),oY s t.wu ⟨[v],[]⟩ [("script",v)]:=by
 obtain⟨f0,d0,F0,a0⟩:=h0;obtain⟨f1,d1,F1,a1⟩:=h1;obtain⟨f2,d2,F2,a2⟩:=h2;obtain⟨f3,d3,F3,a3⟩:=h3;obtain⟨f4,d4,F4,a4⟩:=h4;obtain⟨f5,d5,F5,a5⟩:=h5;obtain⟨f6,d6,F6,a6⟩:=h6;obtain⟨f7,d7,F7,a7⟩:=h7;obtain⟨f8,d8,F8,a8⟩:=h8;obtain⟨f9,d9,F9,a9⟩:=h9;obtain⟨f10,d10,F10,a10⟩:=za;obtain⟨f11,d11,F11,a11⟩:=Y8;obtain⟨f12,d12,F12,a12⟩:=Y7;obtain⟨f13,d13,F13,a13⟩:=Y6;obtain⟨f14,d14,F14,a14⟩:=Y5;obtain⟨f15,d15,F15,a15⟩:=Y4;obtain⟨f16,d16,F16,a16⟩:=Y3;obtain⟨f17,d17,F17,a17⟩:=Y2;obtain⟨f18,d18,F18,a18⟩:=Y1;obtain⟨f19,d19,F19,a19⟩:=Y0;obtain⟨f20,d20,F20,a20⟩:=YZ;obtain⟨f21,d21,F21,a21⟩:=YY;obtain⟨f22,d22,F22,a22⟩:=YX;obtain⟨f23,d23,F23,a23⟩:=YW;obtain⟨f24,d24,F24,a24⟩:=YV;obtain⟨f25,d25,F25,a25⟩:=YU;obtain⟨f26,d26,F26,a26⟩:=YT;obtain⟨f27,d27,F27,a27⟩:=YS;have I_TooGreat:=Kc (st:=wW) j_TooGreat h_TooGreat g_TooGreat;exact⟨⟨f0,d0,f1,d1,f2,d2,f3,d3,f4,d4,f5,d5,f6,d6,f7,d7,f8,d8,f9,d9,f10,d10,f11,d11,f12,d12,f13,d13,f14,d14,f15,d15,f16,d16,f17,d17,f18,d18,f19,d19,f20,d20,f21,d21,f22,d22,f23,d23,f24,d24,f25,d25,f26,d26,f27,d27,C_ClockError,C_NoClock,C_NoNumber,C_NoPlace,C_NoRow,C_NoClocks,C_NoText,C_TooGreat,gF,_,t0⟩,⟨F0,
  aD X G a0,
  F0.binds (ps:=["many","most"]) fun _ _ _ _ _ _ us hl=>by obtain⟨_,_,rfl⟩:=iQ hl;rfl,
  F1,
  aD X G a1,
  F1.binds (ps:=["one","other"]) fun _ _ _ _ _ _ us hl=>by obtain⟨_,_,rfl⟩:=iQ hl;rfl,
  F2,
  aD X G a2,
  F2.binds (ps:=["number","bound"]) fun _ _ _ _ _ _ us hl=>by obtain⟨_,_,rfl⟩:=iQ hl;rfl,
  F3,
  aD X G a3,
  F3.binds (ps:=["one","other"]) fun _ _ _ _ _ _ us hl=>by obtain⟨_,_,rfl⟩:=iQ hl;rfl,
  F4,
  aD X G a4,
  F4.binds (ps:=["clocks","bound"]) fun _ _ _ _ _ _ us hl=>by obtain⟨_,_,rfl⟩:=iQ hl;rfl,
  F5,
  aD X G a5,
  F5.binds (ps:=["clocks"]) fun _ _ _ _ _ _ us hl=>by obtain⟨_,rfl⟩:=si hl;rfl,
  F6,
  aD X G a6,
  F6.binds (ps:=["weights","met","weight"]) fun _ _ _ _ _ _ us hl=>by obtain⟨_,_,_,rfl⟩:=Eo hl;rfl,
  F7,
  aD X G a7,
  F7.binds (ps:=["clock","bound"]) fun _ _ _ _ _ _ us hl=>by obtain⟨_,_,rfl⟩:=iQ hl;rfl,
  F8,
  aD X G a8,
  F8.binds (ps:=["script","k"]) fun _ _ _ _ _ _ us hl=>by obtain⟨_,_,rfl⟩:=iQ hl;rfl,
  F9,
  aD X G a9,
  F9.binds (ps:=["seed"]) fun _ _ _ _ _ _ us hl=>by obtain⟨_,rfl⟩:=si hl;rfl,
  F10,
  aD X G a10,
  F10.binds (ps:=["cell"]) fun _ _ _ _ _ _ us hl=>by obtain⟨_,rfl⟩:=si hl;rfl,
  F11,
  aD X G a11,
  F11.binds (ps:=["pen","many"]) fun _ _ _ _ _ _ us hl=>by obtain⟨_,_,rfl⟩:=iQ hl;rfl,
  F12,
  aD X G a12,
  F12.binds (ps:=["found"]) fun _ _ _ _ _ _ us hl=>by obtain⟨_,rfl⟩:=si hl;rfl,
  F13,
  aD X G a13,
  F13.binds (ps:=["e"]) fun _ _ _ _ _ _ us hl=>by obtain⟨_,rfl⟩:=si hl;rfl,
  F14,
  aD X G a14,
  F14.binds (ps:=["pen","most"]) fun _ _ _ _ _ _ us hl=>by obtain⟨_,_,rfl⟩:=iQ hl;rfl,
  F15,
  aD X G a15,
  F15.binds (ps:=["pen","least","most"]) fun _ _ _ _ _ _ us hl=>by obtain⟨_,_,_,rfl⟩:=Eo hl;rfl,
  F16,
  aD X G a16,
  F16.binds (ps:=["pen","most"]) fun _ _ _ _ _ _ us hl=>by obtain⟨_,_,rfl⟩:=iQ hl;rfl,
  F17,
  aD X G a17,
  F17.binds (ps:=["clock","number"]) fun _ _ _ _ _ _ us hl=>by obtain⟨_,_,rfl⟩:=iQ hl;rfl,
  F18,
  aD X G a18,
  F18.binds (ps:=["one","other"]) fun _ _ _ _ _ _ us hl=>by obtain⟨_,_,rfl⟩:=iQ hl;rfl,
  F19,
  aD X G a19,
  F19.binds (ps:=["clocks"]) fun _ _ _ _ _ _ us hl=>by obtain⟨_,rfl⟩:=si hl;rfl,
  F20,
  aD X G a20,
  F20.binds (ps:=["clocks","number"]) fun _ _ _ _ _ _ us hl=>by obtain⟨_,_,rfl⟩:=iQ hl;rfl,
  F21,
  aD X G a21,
  F21.binds (ps:=["clocks","bound"]) fun _ _ _ _ _ _ us hl=>by obtain⟨_,_,rfl⟩:=iQ hl;rfl,
  F22,
  aD X G a22,
  F22.binds (ps:=["clocks","bound"]) fun _ _ _ _ _ _ us hl=>by obtain⟨_,_,rfl⟩:=iQ hl;rfl,
  F23,
  aD X G a23,
  F23.binds (ps:=["found","due"]) fun _ _ _ _ _ _ us hl=>by obtain⟨_,_,rfl⟩:=iQ hl;rfl,
  F24,
  aD X G a24,
  F24.binds (ps:=["clocks"]) fun _ _ _ _ _ _ us hl=>by obtain⟨_,rfl⟩:=si hl;rfl,
  F25,
  aD X G a25,
  F25.binds (ps:=["one","other"]) fun _ _ _ _ _ _ us hl=>by obtain⟨_,_,rfl⟩:=iQ hl;rfl,
  F26,
  aD X G a26,
  F26.binds (ps:=["clocks","bound"]) fun _ _ _ _ _ _ us hl=>by obtain⟨_,_,rfl⟩:=iQ hl;rfl,
  F27,
  aD X G a27,
  F27.binds (ps:=["script"]) fun _ _ _ _ _ _ us hl=>by obtain⟨_,rfl⟩:=si hl;rfl,
  aD X G n_ClockError,
  n_ClockError,
  aD X G n_NoClock,
  n_NoClock,
  aD X G n_NoNumber,
  n_NoNumber,
  aD X G n_NoPlace,
  n_NoPlace,
  aD X G n_NoRow,
  n_NoRow,
  aD X G n_NoClocks,
  n_NoClocks,
  aD X G n_NoText,
  n_NoText,
  aD X G n_TooGreat,
  n_TooGreat,
  ⟨⟨lX,eb⟩,⟨qz,v2_TooGreat,NM lX,fun n hn=>by
   simp only[aa,aZ,or_false] at hn;rcases hn with rfl|rfl
   ·exact ju
   ·exact jr⟩,I_TooGreat,W0,.cons ⟨⟨_,_,_,_,rfl⟩,by decide⟩ (.cons ⟨⟨_,_,_,_,rfl⟩,by decide⟩ (.nil)),by decide +kernel,I_TooGreat.binds (ps:=["self","many","most"]) (fun _ _ _ _ _ _ us hl=>by obtain⟨_,_,_,rfl⟩:=Eo hl;rfl),v3_TooGreat,by decide,NK y_TooGreat⟩,
  ⟨⟨v4_TooGreat,v8_TooGreat,v9_TooGreat⟩,NL lX,v6_TooGreat,u1,u2,v2_TooGreat⟩,
  jF,
  ji,
  jh,
  jE,
  kY,
  kn,
  jg,
  qy,
  ⟨⟨v4_TooGreat,v8_TooGreat,v9_TooGreat⟩,v5_TooGreat,ju⟩,
  ⟨⟨v4_TooGreat,v8_TooGreat,v9_TooGreat⟩,v5_TooGreat,jr⟩,
  aD X G gint0,
  bL X G z0,
  bL X G z1,
  bL X G z2,
  bL X G z3,
  bL X G z4,
  bL X G z5,
  bL X G z6,
  bL X G z7,
  bL X G z8,
  bL X G z9,
  bL X G Ge,
  bL X G Gd,
  bL X G Gc,
  bL X G FZ,
  bL X G FY⟩,fun s v=>by
  obtain⟨_,_,_,_,_,_,_,_,_,rfl,_⟩:=F27.ex;exact .of_eq rfl⟩
theorem Wm(K:η)(H:Hp)(a:ζ)(ns:List Int)(hl:ns.length≤63)(ho:BU H)(hS:eU K H a (ns.map V.int)):mZ K nt [.ref a] H (fun v _=>v=.bl true) fun _ _ _=>False:=by
 refine⟨[.eS (ns.map .int)],fun _=>none,fun d _=>d=.bl true,.cons ?_ .nil,(fun _ _ e=>nomatch e),⟨ns,rfl,hl,rfl⟩,fun v H' d G' hv _ _ q=>?_⟩
 ·unfold Hv;refine⟨a,ns.map V.int,rfl,?_,aO.ints ns⟩;rcases hS with (h|h)|h
  ·rcases ho a with z|⟨o,xs,z⟩
   ·rw[z] at h;cases h
   ·rw[z] at h;cases h
  ·exact .inl h
  ·exact .inr h
 ·subst q;exact vO hv
theorem walk{l:wM}{q:ah}{loose:List ξ}{XP:(ξ->Option ε)->Φ->Prop}{YP:ax->Φ->Prop}{d:DefRec}{K:Params->η}(hn:l.most=some 63)(hdf:d.params.defaults=[])
  (hY:∀(w:ax) (h:Φ),YP w h->(K w.params).In h)
  (F:∀(w:ax) (mg:ξ->Option ε) (fa:ζ) (h:Φ),(K w.params).In h->h.Ns aN mg->mg d.name=some (.ref fa) ->
   ∃fd:ay,(∀(s:θ) (u:ε),oY s fd ⟨[u],[]⟩ [("script",u)])/\∀base:Φ,(K w.params).In base->base.Ns aN mg->jn l.prog w (K w.params) mg base qk 6 fa fd ["script"] (mZ (K w.params) nt)):
  PySem.W.WalkO q loose XP YP l.row.toRowW d [] (fun f vs=>wJ f vs):=
 L2.zt (n:=63) (k:=6) (x:="script") (CX:=fun _=>qk) (sp:=fun w=>mZ (K w.params) nt) hn (by decide) hdf ⟨rfl,by decide,by decide⟩ hY F (fun w H a ns hl ho hS=>Wm (K w.params) H a ns hl ho hS) fun _ _ _ _ _ z=>z
end My
open PySem PySem.W PyProof.Rows
set_option maxRecDepth 100000 in
set_option maxHeartbeats 0 in
theorem PySem.Challenge.cw_coverclocks_k49_rung_far_on_holds : PySem.Challenge.rw_coverclocks_k49_rung_far_on.Holds := by
 w_on;o_law;k_head;(case hw=>w_witness2)
 k_fill
 refine My.walk (l:=PySem.Challenge.rw_coverclocks_k49_rung_far_on) rfl rfl (fun w h Y=>PySem.W.kIn_of Y) ?F
 case F=>
  intro w mg fa h KX G hmg
  refine' Exists.elim (My.xY KX G (My.dg ?a0 ?l0 ?c0 ?k0) (My.dg ?a1 ?l1 ?c1 ?k1) (My.dg ?a2 ?l2 ?c2 ?k2) (My.dg ?a3 ?l3 ?c3 ?k3) (My.dg ?a4 ?l4 ?c4 ?k4) (My.dg ?a5 ?l5 ?c5 ?k5) (My.dg ?a6 ?l6 ?c6 ?k6) (My.dg ?a7 ?l7 ?c7 ?k7) (My.dg ?a8 ?l8 ?c8 ?k8) (My.dg ?a9 ?l9 ?c9 ?k9) (My.dg ?a10 ?l10 ?c10 ?k10) (My.dg ?a11 ?l11 ?c11 ?k11) (My.dg ?a12 ?l12 ?c12 ?k12) (My.dg ?a13 ?l13 ?c13 ?k13) (My.dg ?a14 ?l14 ?c14 ?k14) (My.dg ?a15 ?l15 ?c15 ?k15) (My.dg ?a16 ?l16 ?c16 ?k16) (My.dg ?a17 ?l17 ?c17 ?k17) (My.dg ?a18 ?l18 ?c18 ?k18) (My.dg ?a19 ?l19 ?c19 ?k19) (My.dg ?a20 ?l20 ?c20 ?k20) (My.dg ?a21 ?l21 ?c21 ?k21) (My.dg ?a22 ?l22 ?c22 ?k22) (My.dg ?a23 ?l23 ?c23 ?k23) (My.dg ?a24 ?l24 ?c24 ?k24) (My.dg ?a25 ?l25 ?c25 ?k25) (My.dg ?a26 ?l26 ?c26 ?k26) (My.dg ?a27 ?l27 ?c27 ?k27) ?n_ClockError ?n_NoClock ?n_NoNumber ?n_NoPlace ?n_NoRow ?n_NoClocks ?n_NoText ?n_TooGreat ?i_TooGreat ?j_TooGreat ?h_TooGreat ?g_TooGreat ?y_TooGreat ?lX ?qz ?v2_TooGreat ?v3_TooGreat ?v4_TooGreat ?v8_TooGreat ?v9_TooGreat ?v5_TooGreat ?v6_TooGreat ?ju ?jr ?jF ?ji ?jh ?jE ?kY ?kn ?jg ?qy ?eb ?u1 ?u2 ?gint0 ?z0 ?z1 ?z2 ?z3 ?z4 ?z5 ?z6 ?z7 ?z8 ?z9 ?Ge ?Gd ?Gc ?FZ ?FY) ?fin
  case a0|l0|c0|k0|a1|l1|c1|k1|a2|l2|c2|k2|a3|l3|c3|k3|a4|l4|c4|k4|a5|l5|c5|k5|a6|l6|c6|k6|a7|l7|c7|k7|a8|l8|c8|k8|a9|l9|c9|k9=>k_is
  case a10|l10|c10|k10|a11|l11|c11|k11|a12|l12|c12|k12|a13|l13|c13|k13|a14|l14|c14|k14|a15|l15|c15|k15|a16|l16|c16|k16|a17|l17|c17|k17|a18|l18|c18|k18|a19|l19|c19|k19=>k_is
  case a20|l20|c20|k20|a21|l21|c21|k21|a22|l22|c22|k22|a23|l23|c23|k23|a24|l24|c24|k24|a25|l25|c25|k25|a26|l26|c26|k26|a27|l27|c27|k27|n_ClockError|n_NoClock|n_NoNumber|n_NoPlace|n_NoRow|n_NoClocks|n_NoText|n_TooGreat=>k_is
  case i_TooGreat|j_TooGreat|h_TooGreat|g_TooGreat|y_TooGreat=>k_is
  case lX=>kernel_rfl
  case qz|v2_TooGreat|v3_TooGreat|v4_TooGreat|v8_TooGreat|v9_TooGreat|v5_TooGreat|v6_TooGreat|ju|jr=>k_is
  case jF|ji|jh|jE|kY|kn|jg|qy|eb=>kernel_rfl
  case u1|u2|gint0|z0|z1|z2|z3|z4|z5|z6|z7|z8|z9|Ge|Gd|Gc|FZ|FY=>k_is
  case fin=>
   rintro t ⟨T,b⟩
   have e2:=hmg.symm.trans T.Ma
   cases e2
   exact⟨t.wu,b,fun base _ _=>My.KU T⟩
