import PyProof.Rows.All
import Wide.All
import OpenK.AllK
import Wide.FinOn
import Lean
import PyProof.EqAt
import PyProof.EqKinds
import PyProof.TupleCall
import PyProof.NeKinds
import KE.KSortAsk
import PySem.SetTable
import PyProof.SetKind
import PyProof.TupleKey
import PyProof.IsRules
import PyProof.DictKinds
import PyProof.FactsAll.set
import PyProof.RangeIter
import PyProof.Seq
import PyProof.ForAny
import PyProof.WalksMore
import PyProof.CollectWalk
import PyProof.CollectIter
import PyProof.WalksS
import PyProof.Rows.SetFrom
import KE.KSortTup
import PyProof.Draws
import PyProof.Rows.Range3
import PyProof.ExcClass2
import PyProof.InstSpecial
import PyProof.RaisesMany
import PyProof.Rows.Own
import KE.KTryDeep
import PyProof.InstStoreFacts
import PyProof.ExcArgs
import PyProof.SetRoads
import PyProof.Rows.CallKwBuiltin
import KE.KMinKey
import PyProof.ListCopy
import PyProof.Rows.SortShell
import PyProof.DictRoadsH
import PyProof.DictTruth
import PyProof.TupleOfGen
import KE.BitLaws
import PySem.Challenge.RW_coverclocks_k28_least_covers_by_anybody
set_option Elab.async false
set_option linter.all false
set_option maxRecDepth 100000
set_option maxHeartbeats 6400000
namespace PySem.W.Fast
def tw10443697539388485923:=0
def tw10717324300475013512:=0
def tw1072175915568320523:=0
def tw10770498113698464810:=0
def tw10786469657665709085:=0
def tw10854227602251849171:=0
def tw11553974042023231152:=0
def tw11725419372768601860:=0
def tw11835851718730667532:=0
def tw1186882118000049350:=0
def tw12156568613319214964:=0
def tw12162675444623860282:=0
def tw1220101895327886051:=0
def tw12274783768944567241:=0
def tw12298511352410964151:=0
def tw12369558803444352868:=0
def tw12459629844289029207:=0
def tw12529853288163132147:=0
def tw12636489244764332841:=0
def tw1265964904702701124:=0
def tw12706997166854916140:=0
def tw1284902274114923232:=0
def tw13101252252065723815:=0
def tw13558153360075013157:=0
def tw13630377721313589865:=0
def tw13989630917669452034:=0
def tw14653957965434110398:=0
def tw15020590043659378187:=0
def tw15201627110444679983:=0
def tw15250993491707483543:=0
def tw15282513753030788394:=0
def tw15285726292790131061:=0
def tw15336739632556963074:=0
def tw15402966801537257772:=0
def tw15627558918483471732:=0
def tw15629890407917221920:=0
def tw15657247973252659452:=0
def tw15795388954265064782:=0
def tw16242867605183727109:=0
def tw16428784347451059016:=0
def tw16525157196304371136:=0
def tw16555857623590771072:=0
def tw16597111171600074144:=0
def tw16680431755155147028:=0
def tw16898891523939161208:=0
def tw17091441762674300444:=0
def tw17313029818838754281:=0
def tw17492203032577430784:=0
def tw17572522788344064143:=0
def tw17639717069658373897:=0
def tw17787192657154047779:=0
def tw17845376447129166581:=0
def tw1784611308458518121:=0
def tw17882501395866586959:=0
def tw17983747050017607607:=0
def tw18045428709483375560:=0
def tw18103370486879507003:=0
def tw18314312262975764872:=0
def tw18375731044759449465:=0
def tw18390864952785667125:=0
def tw2015115080247905460:=0
def tw2788148406749708438:=0
def tw2880359225264511723:=0
def tw2925472901386010762:=0
def tw2964248264742703541:=0
def tw3495437068150204621:=0
def tw3664383691709008690:=0
def tw3738984769430835733:=0
def tw3847492671859513939:=0
def tw3935256090541247020:=0
def tw4194781946087866190:=0
def tw4252439352276152481:=0
def tw4413142776524979821:=0
def tw4545141603090335083:=0
def tw459592120166828219:=0
def tw4722133716991911814:=0
def tw4792678882929142188:=0
def tw4870599302134072461:=0
def tw4898757364740362237:=0
def tw497534056849207835:=0
def tw4988106076958174315:=0
def tw5014575102433468501:=0
def tw5074761827116492235:=0
def tw5219858216112894682:=0
def tw5223456986584579817:=0
def tw5422865267651041318:=0
def tw5495645909089035061:=0
def tw6316189850557613101:=0
def tw6325584395804136702:=0
def tw6451409301052205673:=0
def tw6623672823482790359:=0
def tw6826605935541733186:=0
def tw6880256382812401847:=0
def tw6908922085194521557:=0
def tw6924957071437256335:=0
def tw6956273907155715172:=0
def tw7304455180965873837:=0
def tw7469699299077995581:=0
def tw7542112198674976725:=0
def tw7550932694382919735:=0
def tw7664602026463226111:=0
def tw7739287118903546541:=0
def tw7831047290438734974:=0
def tw7874753593957356174:=0
def tw8108598070529773722:=0
def tw8131317812347855150:=0
def tw8361297536687447992:=0
def tw8557910450579670444:=0
def tw8777777050566133032:=0
def tw8791562682670276873:=0
def tw8919206056229369856:=0
def tw9083224126994312830:=0
def tw9149824425203092734:=0
def tw9360441065713190972:=0
def tw9690290835733207672:=0
def tw9740366547690864954:=0
def tw9902499082556699832:=0
def tw10082180012957666031:=0
def tw10158171919635522439:=0
def tw10248602367564895100:=0
def tw10377097736482409166:=0
def tw11423250500139202660:=0
def tw1162331265890357871:=0
def tw11686170310884567194:=0
def tw12213294432412223953:=0
def tw12671914807870726757:=0
def tw13784993827717273465:=0
def tw1420794772839942744:=0
def tw14782067000066296301:=0
def tw15042160421664310108:=0
def tw15496686600272134681:=0
def tw16118000632850052364:=0
def tw16173397570707261116:=0
def tw16318551603488307545:=0
def tw1671818622734573938:=0
def tw16877782407829755851:=0
def tw17309554247771033910:=0
def tw1809628848599399997:=0
def tw18439133952767485020:=0
def tw1854844123191882671:=0
def tw2210379369673506483:=0
def tw2299172185748384019:=0
def tw2299209437295146420:=0
def tw2615974041628633772:=0
def tw2640855014328897559:=0
def tw2719636211708141492:=0
def tw2800676124822567140:=0
def tw3221515887229622970:=0
def tw3269198998728924541:=0
def tw363064400025931655:=0
def tw3713859091657327619:=0
def tw4480770925450089993:=0
def tw4950059406513379971:=0
def tw4982709661215457968:=0
def tw5962200590807734154:=0
def tw6135258486577086777:=0
def tw6243881201944593953:=0
def tw6590424127664526359:=0
def tw6833196766061794258:=0
def tw7152725133273556624:=0
def tw7511792940883404621:=0
def tw8252475149911676382:=0
def tw9433775732644406598:=0
def tw9883699588923595107:=0
def tw11181539258399726160:=0
def tw11184025789634957280:=0
def tw12107714821176662867:=0
def tw12669170101474476762:=0
def tw12739138228812614597:=0
def tw13910653322848443981:=0
def tw14170904463598539044:=0
def tw14325238372554599895:=0
def tw15905287708551613374:=0
def tw1662248248049864214:=0
def tw16964342721629230142:=0
def tw1703283341632115878:=0
def tw17077658261730434581:=0
def tw17086755541156493210:=0
def tw17214612790144350979:=0
def tw17293309958959622453:=0
def tw17426032900181107586:=0
def tw18013419647785161941:=0
def tw18422779456218563751:=0
def tw2936426544769356140:=0
def tw3012170762995757602:=0
def tw3126977878819572023:=0
def tw3496201690770641100:=0
def tw4106188863051962376:=0
def tw4932941072401641421:=0
def tw5103272727087701319:=0
def tw5206217063418345379:=0
def tw5475982852290207606:=0
def tw5520760205290519828:=0
def tw6010922604930405217:=0
def tw6602246406933563875:=0
def tw7661205775727942121:=0
def tw78917593195040877:=0
def tw831095201929347933:=0
def tw8352964696698293164:=0
def tw9070317600619218549:=0
def tw9625553402216768932:=0
def tw9626322914887734055:=0
def tw10295688761599152563:=0
def tw11451473268780313844:=0
def tw12231428372656210034:=0
def tw14447524207508762288:=0
def tw1724316824824491156:=0
def tw18221722608254066803:=0
def tw2107904147987222773:=0
def tw2400556893313646950:=0
def tw2433148644219585728:=0
def tw3966191641150874021:=0
def tw4840819693820186606:=0
def tw5404205117594494452:=0
def tw5802694903692095718:=0
def tw7343737665722475829:=0
def tw7627712930750275578:=0
def tw860283179366547387:=0
def tw10192136860555748928:=0
def tw14225873212276852912:=0
def tw16314973396551074061:=0
def tw2495573962514852245:=0
def tw5479032327818685608:=0
def tw610557414904801126:=0
def tw6704745444696285650:=0
def tw8161235525017846603:=0
def tw9371679658226080574:=0
def tw12966116849545499309:=0
def tw13543880337477887214:=0
def tw14518463871170761303:=0
def tw1779187058065310636:=0
def tw2832030921439863154:=0
def tw338128696919213829:=0
def tw340814985332516510:=0
def tw8996600416546786268:=0
end PySem.W.Fast
open Array renaming getElem?_eq_some_iff->aC,getElem?_toList->aW,length_toList->bG,mem_toList_iff->fY,toList_filterMap->gM,getElem?_eq_none_iff->iy,getD->ll,getElem?_eq_getElem->nq,toList->oz,toList_extract->rG,forIn_toList->tF,append_empty->tG
open Bool renaming false_ne_true->ak,and_eq_true->bF,false_eq_true->fB,eq_iff_iff->fG,and_true->rQ,or_true->tE
open Classical renaming byContradiction->aQ
open False renaming elim->bo
open ForInStep renaming yield->gG
open Int renaming toNat_natCast->bR,emod_lt_of_pos->fA,toNat_of_nonneg->gu,natCast_dvd_natCast->gv,emod_nonneg->gF,emod_eq_emod_iff_emod_sub_eq_zero->iZ,natCast_ediv->kn,natCast_mul->oY,ediv_nonneg->oZ,mul_one->uj
open List renaming length_map->ν,size_toArray->υ,mem_cons_of_mem->ω,mem_cons_self->Δ,mem_cons->Φ,range->ag,mem_map->ah,length_cons->aj,mem_range->aE,length_append->aF,getElem?_map->aJ,getElem?_eq_getElem->aK,not_mem_nil->aM,getElem?_eq_some_iff->aN,mem_singleton->aP,mem_append_right->aV,replicate->bj,mem_append->bp,append_nil->bw,mem_of_getElem?->bM,map_cons->bP,mem_append_left->bT,lookup_cons->cg,length_take->ck,pairwise_map->cm,map_map->cE,getElem?_eq_none_iff->cT,filterMap_cons->cV,nodup_cons->df,map_append->dg,length_nil->dF,nil_append->dU,getElem?_append_right->et,length_drop->eH,all_eq_true->eI,pairwise_iff_getElem->eK,getElem?_append_left->eL,of_mem_zip->eW,length_range->e8,replicate_succ->fg,map_congr_left->fh,take_of_length_le->fu,pairwise_cons->fy,lookup_append->fz,mem_of_mem_take->fW,getElem?_of_mem->fX,getElem?_range->gs,range_succ_eq_map->gJ,length->gK,drop_eq_nil_of_le->gL,flatten_cons->gV,nodup_nil->g8,length_singleton->g9,length_reverse->iI,mem_filter->iS,length_zip->iT,drop_eq_getElem_cons->iU,zip_cons_cons->jq,toArray->jr,find?_eq_none->ju,filterMap_cons_some->jv,pairwise_singleton->jK,length_eq_zero_iff->jL,getElem?_replicate->jM,take_sublist->jQ,reverse_cons->jR,ext_getElem?->jS,pairwise_lt_range->jX,length_eq_one_iff->jY,getElem?_set_self->jZ,filter_eq_nil_iff->j0,map_take->j7,map_drop->j8,isEmpty_map->kl,getElem_mem->km,length_replicate->ky,getElem?_toArray->kz,eraseIdx_eq_take_drop_succ->kA,getElem?_set_ne->lg,eq_nil_of_length_eq_zero->lp,getElem_of_mem->lC,mem_filterMap->ml,map_filterMap->mm,getD->mn,filterMap_map->mo,contains_cons->mq,all_cons->mC,append_assoc->mR,mem_of_find?_eq_some->m9,isEmpty_eq_false_iff->ng,take_length->oj,getElem?_take_of_lt->om,find?_range_eq_some->oo,getElem?_cons_succ->oE,lookup_nil->oW,forIn_cons->oX,take_append_drop->qr,getElem?_eq_none->qt,pairwise_append->rD,getElem_toArray->rE,mem_map_of_mem->rV,length_zipWith->rW,length_pos_iff->rX,filter_eq_self->rY,getElem?_drop->tm,all_map->tu,foldl->vw
open List.Pairwise renaming imp_of_mem->oq,sublist->qu,nil->t5,map->t6,imp->t7
open List.cons renaming injEq->vz
open Nat renaming le_refl->Ω,ne_of_lt->av,le_trans->aG,zero_le->aY,lt_of_lt_of_le->ba,lt_irrefl->cf,lt_succ_of_lt->e7,ne_of_gt->fx,le_of_dvd->fL,gcd->gd,le_add_right->gm,lcm->gz,mod_lt->gE,le_of_ble_eq_true->g7,lt_succ_self->iq,mul_comm->jn,lt_of_le_of_lt->jo,pow_le_pow_right->kZ,lt_trans->la,le_of_lt->lb,succ_pos->oh,gcd_comm->oi,le_mul_of_pos_right->oB,gcd_pos_of_pos_left->oC,mul_le_mul_right->rC,mul_le_mul_left->rT,pow_succ->tf,min_self->tj,lcm_pos->ug,lcm_dvd->uh
open Ne renaming symm->da
open Option renaming bind_some->ip,isSome_iff_exists->jm,map->rA,getD_none->uM
open Option.some renaming inj->ao
open Or renaming inr->qp,inl->sZ
open PyProof.Rows renaming slot_tuple_getitem->bB,callWith_type1->cG,IntsAre->gf,assignInOrder_cons->gC,IsTup->iW,AllBare->jF,get?_update_seq->kX,entry_tuple_getitem->lB,slicePart_none->lN,args_tuple_getitem->mi,listUpdate_at->mz,assignInOrder_nil->mP,SortKind->og,seqEpoch_at->pY,boot_range->rq
open PyProof.Rows.F renaming plain_set_update_loop->bX,entry_set_update_loop->dM
open PySem renaming wpAny_bind->δ,Addr->ε,Shared->ζ,wpAny_pure->θ,Str->ι,wpAny->μ,Expr->ο,Heap->Ξ,Program->Ψ,FuncData->ae,World->af,sizeLine->ai,Around->aq,Pos->ay,Obj->aA,Stmt->aB,mainGlobals->aL,wpAny_newObj_type->aR,wpAny_field->aX,wpAny_holding->aZ,SetTable->bh,starEach->bx,wpAny_callSpecial?_slot->bC,sizeLine_eq->bI,wpAny_call_entry->bL,wpAny_mono->cp,codeAny_builtin->cz,Env->cB,wpAny_setState_of->cI,Builtin->cM,wpAny_pyIter_tuple->cO,wpAny_passesOwn->cP,wpAny_Call_Name_kw->cQ,codeAny_mono->cZ,wpAny_setField_rec->dh,wpAny_seqItems->dq,Tok->dG,wpAny_truthy_bool->dR,Scope->ee,wpAny_setField->eJ,wpAny_execs_nil->eU,wpAny_call->eV,wpAny_pyIter_list->eZ,wpAny_loadPart_at->e6,NameKind->fo,codeAny->fF,wpAny_standAt->fH,wpAny_newFunctionEnv_cells->fI,wpAny_attempt->fJ,wpAny_rule->fU,wpAny_typeOf->gj,bootBuiltins->gk,IsPair->gp,plainId_quiet->gy,PassesOwn->gD,codeAny_call_function->g6,Sem->hX,wpAny_isInstance->ij,wpAny_execs_cons->ik,codeAny_call_builtin->il,wpAny_of_eq->iz,wpAny_isSubtype_exc->iH,codeAny_of_tree->iR,wpAny_runValue->jD,CmpOp->jE,wpAny_storeSet_of->jP,IsZip->j9,wpAny_forIn_list->kj,wpAny_updateSeq_pair->kU,wpAny_loadName_local->kW,call_meets->kY,IsPart->lh,wpAny_bindName->lM,isSubtype_stop->lO,BindsTo->lQ,wpAny_onRaise->my,wpAny_sequenceKey->mO,wpAny_Name->m4,Moved->m8,wpAny_comprehension_free->nW,wpAny_askSetting->nX,noFill_tuple_add->nY,codeAny_func->nZ,wpAny_pyNext_tuple_item->oA,wpAny_specialOf->oV,wpAny_throw->pV,wpAny_letGo->pW,seqIndex_of->pX,IsRangeIter->pZ,wpAny_newTuple->qm,isSubtype_type->qo,Operator->rB,wpAny_newList->rL,wpAny_handled->rM,seq_tuple_add->rN,evalPart_none->rO,DictEntry->tD
open PySem.Around renaming under_plainId->bU,frames_deeper->rH,under_plain->tH
open PySem.Builtin.Frozenset renaming updateFrom->lP,slot0->oF
open PySem.Builtin.Int renaming intBits->iJ
open PySem.Builtin.List renaming listTooLong->gq,listExtendWith->hZ,listSameRef->ou
open PySem.Builtin.Range renaming rangeSize->bD,small->fi,rangePlace?->iY,rangeFields->nk
open PySem.Builtin.Slice renaming slicePlaces->cU,sliceApplied->fM,sliceAdjust->iX,sliceFields->nj
open PySem.Builtin.SmallTypes renaming nextOf->cq,ownedTupleIsFree->dP,ownedTupleHandOut->jx
open PySem.Builtin.Tuple renaming tupleExact->bN,tupleItemsOf->ix
open PySem.Calls renaming Name_function_global->mD,call_function_entry->nh
open PySem.Code renaming quiet_builtin->jw
open PySem.EntryCells renaming newEntry->r0
open PySem.Flow renaming next->tz
open PySem.Heap renaming get?_push_of_some->η,lt_size->χ,get?_push_size->ψ,get?_update_other->bq,get?_update_self->bJ,size_push->de,SameBut->dn,get?_none_of_le->eX,ExtBut->j4,IsTuple->lj,IsList->p7,get?_push_cases->rF,get?_update_ne->rZ
open PySem.Heap.IsList renaming push->uN
open PySem.Heap.IsSliceOf renaming new->tw
open PySem.Heap.IsTuple renaming push->t8
open PySem.Heap.SameBut renaming update->bK
open PySem.IsRange renaming new->ui
open PySem.NameKind renaming free->cL,cell->rP
open PySem.Obj renaming mapSeq->bu,data_mapFields->cR,isFreed_of_fields->dH,mapFields->fK,putSet->fV,cls_mapFields->mQ
open PySem.PassesOwn renaming never->cA
open PySem.SeqAt.EqAt renaming bool_bool->rz
open PySem.SeqAt.RcAt renaming lists_lengths->sY
open PySem.SetTable renaming insertAt->aI,below->cu,grown->fm,sizeAbove->mj,relaid->vt
open PySem.Shared renaming heap->gb,TypeIs->mB
open PySem.Str renaming ofString->dm,empty->hV
open PySem.W renaming kas_ask->kx
open PySem.W.KasT renaming kasWp_bind->iV
open PySem.Within renaming cons->uf
open Sum renaming inr->ny,inl->nz
open True renaming intro->m5
namespace L2
open PySem PySem.Spec PyProof.Rows
abbrev Key:=Sum Int ι
def ES:Key->Value->Bool
 |.inl k,v=>Value.isInt k v
 |.inr x,v=>Value.isStrOf x v
def Zq(w:af):Key->Int
 |.inl k=>hashInt k
 |.inr x=>hashStr w x
theorem qO:∀{k:Key} {v:Value},ES k v=true->(∃i t,k=nz i/\v=Value.int i t)∨(∃x t,k=ny x/\v=Value.str x t)
 |.inl i,v,h=>by
  obtain⟨t,e⟩:=Value.isInt_shape (k:=i) (v:=v) h;exact .inl ⟨i,t,rfl,e⟩
 |.inr x,v,h=>by
  obtain⟨t,e⟩:=Value.isStrOf_shape (x:=x) (v:=v) h;exact .inr ⟨x,t,rfl,e⟩
theorem V2(a b:Int):decide ((nz a:Key)=nz b)=(a==b):=by
 by_cases e:a=b
 ·subst e;simp
 ·have h:¬(nz a:Key)=nz b:=fun q=>e (nz.inj q);rw[decide_eq_false h];exact (beq_eq_false_iff_ne.mpr e).symm
theorem V1(a b:ι):decide ((ny a:Key)=ny b)=decide (a=b):=by
 by_cases e:a=b
 ·subst e;simp
 ·have h:¬(ny a:Key)=ny b:=fun q=>e (ny.inj q);rw[decide_eq_false h,decide_eq_false e]
theorem V0(a:Int)(b:ι):decide ((nz a:Key)=ny b)=false:=decide_eq_false (fun q=>nomatch q)
theorem VZ(a:ι)(b:Int):decide ((ny a:Key)=nz b)=false:=decide_eq_false (fun q=>nomatch q)
def vS(prog:Ψ)(w:af):PySem.KeyKind prog w Key where
 is:=ES
 hash:=Zq w
 inj:=fun v a b ha hb=>by
  rcases qO ha with⟨i,t,rfl,rfl⟩|⟨x,t,rfl,rfl⟩
  ·rcases qO hb with⟨j,u,rfl,e⟩|⟨y,u,rfl,e⟩
   ·injection e with e1 _;rw[e1]
   ·exact nomatch e
  ·rcases qO hb with⟨j,u,rfl,e⟩|⟨y,u,rfl,e⟩
   ·exact nomatch e
   ·injection e with e1 _;rw[e1]
 byValue:=fun k v h=>by
  rcases qO h with⟨i,t,rfl,rfl⟩|⟨x,t,rfl,rfl⟩<;>rfl
 pyHash:=fun hv h=>by
  rcases qO hv with⟨i,t,rfl,rfl⟩|⟨x,t,rfl,rfl⟩
  ·exact wpAny_pyHash_int h
  ·exact wpAny_pyHash_str h
 eqBool:=fun hu hv h=>by
  rcases qO hu with⟨i,t,rfl,rfl⟩|⟨x,t,rfl,rfl⟩
  ·rcases qO hv with⟨j,u,rfl,rfl⟩|⟨y,u,rfl,rfl⟩
   ·rw[V2] at h;exact wpAny_eqBool_int h
   ·rw[V0] at h;exact SeqAt.EqAt.int_str i t y u _ _ _ _ h
  ·rcases qO hv with⟨j,u,rfl,rfl⟩|⟨y,u,rfl,rfl⟩
   ·rw[VZ] at h;exact SeqAt.EqAt.str_int x t j u _ _ _ _ h
   ·rw[V1] at h;exact wpAny_eqBool_str h
 «strs»:=fun k x t v h=>by
  rcases qO h with⟨i,u,rfl,e⟩|⟨y,u,rfl,e⟩
  ·exact nomatch e
  ·injection e with e1 _;subst e1;cases v<;>rfl
end L2
namespace L2
open PySem PySem.Spec PyProof.Rows
inductive V where
 |az|bl (b:Bool)|int (i:Int)|str (x:ι)|Cb (b:Array UInt8)|Lj (b:UInt64)|ref (a:ε)|ty (n:String)
 deriving DecidableEq
def RelV:V->Value->Prop
 |.az,u=>u=Value.none
 |.bl b,u=>u=Value.bool b
 |.int i,u=>∃t,u=Value.int i t
 |.str x,u=>∃t,u=Value.str x t
 |.Cb b,u=>∃t,u=Value.bytes b t
 |.Lj b,u=>∃t,u=Value.float b t
 |.ref a,u=>u=Value.ref a
 |.ty n,u=>u=Value.type n
abbrev aS:List V->List Value->Prop:=Paired RelV
theorem aS.length{xs:List V}{us:List Value}(r:aS xs us):xs.length=us.length:=Paired.length r
theorem aS.get:∀{xs:List V} {us:List Value} {i:Nat} {x:V},aS xs us->xs[i]?=some x->∃u,us[i]?=some u/\RelV x u
 |_,_,_,_,.nil,e=>by simp at e
 |_,_,0,_,.cons r _,e=>by simp at e;subst e;exact⟨_,rfl,r⟩
 |_,_,i+1,x,.cons _ t,e=>by
  obtain⟨u,h1,h2⟩:=aS.get (i:=i) (x:=x) t (by simpa using e);exact⟨u,by simpa using h1,h2⟩
theorem aS.set{x:V}{u:Value}(r:RelV x u):∀{xs:List V} {us:List Value} (i:Nat),aS xs us->aS (xs.set i x) (us.set i u)
 |_,_,_,.nil=>.nil
 |_,_,0,.cons _ t=>.cons r t
 |_,_,i+1,.cons q t=>.cons q (aS.set r i t)
theorem aS.append:∀{xs ys:List V} {us ws:List Value},aS xs us->aS ys ws->aS (xs++ys) (us++ws)
 |_,_,_,_,.nil,s=>s
 |_,_,_,_,.cons r t,s=>.cons r (aS.append t s)
theorem aS.take:∀{xs:List V} {us:List Value} (n:Nat),aS xs us->aS (xs.take n) (us.take n)
 |_,_,0,_=>.nil
 |_,_,_+1,.nil=>.nil
 |_,_,n+1,.cons r t=>.cons r (aS.take n t)
theorem aS.drop:∀{xs:List V} {us:List Value} (n:Nat),aS xs us->aS (xs.drop n) (us.drop n)
 |_,_,0,r=>r
 |_,_,_+1,.nil=>.nil
 |_,_,n+1,.cons _ t=>aS.drop n t
def rf:Option V->Option Value->Prop
 |some v,some u=>RelV v u
 |none,none=>True
 |_,_=>False
def KV{κ:Type}:List (κ×V)->List (κ×Value)->Prop:=Paired fun (p:κ×V) (q:κ×Value)=>p.1=q.1/\RelV p.2 q.2
def kV:Key->V
 |.inl i=>.int i
 |.inr x=>.str x
inductive HO where
 |lst (xs:List V)
 |tup (xs:List V)
 |dK (kvs:List (Key×V))|dT (kvs:List (List Key×V))
 |set (S:Int->Bool) (n:Nat)
 |ins (C dx:ε) (fs:List (ι×V))
 |own (x:ε)
 |xd (fs:List (ι×V))
 |met (f x:ε)
 |BV (lo hi:Int)
 |cN (o:aA) (u:HO)
 |uP (ps:Array Value)
 |ext (φ:Ξ->Prop)
abbrev Hp:=ε->Option HO
def upd(H:Hp)(a:ε)(o:HO):Hp:=fun b=>if b=a then some o else H b
theorem gh{H:Hp}{a:ε}{o:HO}:upd H a o a=some o:=by unfold upd;rw[if_pos rfl]
theorem dj{H:Hp}{a b:ε}{o:HO}(h:b≠a):upd H a o b=H b:=by unfold upd;rw[if_neg h]
theorem lH{H:Hp}{a b:ε}{o:HO}(h:H a=some o)(h':H b=none):a≠b:=by
 intro e;subst e;rw[h] at h';cases h'
def ji(h:Ξ)(a:ε)(items:Array Value):Prop:=∃o,h.get? a=some o/\o.cls=.type "tuple"/\(∃n,o.data=.seq items n)/\o.dict=none
theorem ji.tup{h:Ξ}{a:ε}{items:Array Value}(x:ji h a items):iW h a items:=let ⟨o,h1,h2,h3,_⟩:=x;⟨o,h1,h2,h3⟩
theorem ji.new(h:Ξ)(items:Array Value):ji (h.push { cls:=.type "tuple",data:=.seq items }) h.objs.size items:=⟨_,ψ _ rfl,rfl,⟨_,rfl⟩,rfl⟩
theorem ji.lt{h:Ξ}{a:ε}{items:Array Value}(x:ji h a items):a<h.objs.size:=let ⟨_,ho,_⟩:=x;χ ho
section
variable (P:Ψ) (w:af)
def bH(H:Hp)(h:Ξ)(a:ε):HO->Prop
 |.lst xs=>xs.length≤ai/\∃(its:List Value) (n:Nat),aS xs its/\h.get? a=some { cls:=.type "list",data:=.seq its.toArray n }
 |.tup xs=>xs.length≤ai/\∃its:List Value,aS xs its/\ji h a its.toArray
 |.dK kvs=>kvs.length≤ai/\(a==sysModules)=false/\∃vs,KV kvs vs/\h.DictOf (vS P w) a vs
 |.dT kvs=>kvs.length≤ai/\(a==sysModules)=false/\∃xs:List (List Key×ε×Value),
   Paired (fun (p:List Key×V) (q:List Key×ε×Value)=>p.1=q.1/\H q.2.1=some (.tup (p.1.map kV))/\RelV p.2 q.2.2) kvs xs ∧
   ∃o es ep,h.get? a=some o/\o.ExactDict/\o.data=.dict es ep/\es.toList=xs.map (entryOfKey (tupleKind (vS P w)))/\(xs.map (·.1)).Nodup
 |.set S n=>h.SetOf (intKind P w) a S n
 |.ins C dx fs=>H dx=some (.own a)/\fs.length≤1000/\dx≠a/\h.get? a=some (PySem.W.instObj C dx) ∧
   ∃mA,h.Ns1 dx mA/\(∀f,rf (fs.lookup f) (mA f))/\PySem.Within mA (fs.map (·.1))
 |.own _=>∃o,h.get? a=some o
 |.xd fs=>∃mA,h.Ns1 a mA/\∀f,rf (fs.lookup f) (mA f)
 |.BV lo hi=>∃t u v,h.get? a=some { cls:=.type "range",data:=.fields #[.int lo t,.int hi u,.int 1 v]}
 |.cN o u=>h.get? a=some o/\bH H h a u
 |.uP ps=>h.get? a=some { cls:=.none,data:=.fields ps }
 |.met f x=>h.get? a=some (PySem.W.methodObj (.ref f) (.ref x))
 |.ext φ=>φ h/\(∃o,h.get? a=some o)/\∀h1 h2:Ξ,φ h1->(∀o,h1.get? a=some o->h2.get? a=some o)->φ h2
def dJ(H:Hp)(h:Ξ):Prop:=∀a o,H a=some o->bH P w H h a o
end
section
variable {P:Ψ} {w:af} {H H':Hp} {h h':Ξ} {a:ε} {o:HO}
theorem bH.lt(x:bH P w H h a o):a<h.objs.size:=by
 cases o with
 |lst xs=>obtain⟨_,_,_,_,e⟩:=x;exact χ e
 |tup xs=>obtain⟨_,_,_,p⟩:=x;exact p.lt
 |dK kvs=>obtain⟨_,_,_,_,o,_,_,e,_⟩:=x;exact χ e
 |dT kvs=>obtain⟨_,_,_,_,o,_,_,e,_⟩:=x;exact χ e
 |set S n=>obtain⟨o,_,_,_,e,_⟩:=x;exact χ e
 |ins C dx fs=>obtain⟨_,_,_,e,_⟩:=x;exact χ e
 |own y=>obtain⟨_,e⟩:=x;exact χ e
 |xd fs=>obtain⟨_,⟨_,_,_,e,_⟩,_⟩:=x;exact χ e
 |BV lo hi=>obtain⟨_,_,_,e⟩:=x;exact χ e
 |cN ob u=>obtain⟨e,_⟩:=x;exact χ e
 |uP ps=>exact χ (show h.get? a=some _ from x)
 |met f y=>exact χ (show h.get? a=some _ from x)
 |ext φ=>obtain⟨_,⟨_,e⟩,_⟩:=x;exact χ e
theorem Paired.KZ{α β:Type}{F G:α->β->Prop}:∀{l₁:List α} {l₂:List β},Paired F l₁ l₂->(∀a b,F a b->G a b)->Paired G l₁ l₂
 |_,_,.nil,_=>.nil
 |_,_,.cons r t,f=>.cons (f _ _ r) (Paired.KZ t f)
theorem bH.kf(x:bH P w H h a o)(k:∀b u,(b=a∨H b=some (.own a))->h.get? b=some u->h'.get? b=some u)
  (ho:∀b,H b=some (.own a)->H' b=some (.own a)) (ht:∀b xs,H b=some (.tup xs)->H' b=some (.tup xs)):bH P w H' h' a o:=by
 induction o with
 |lst xs=>obtain⟨z,its,n,r,e⟩:=x;exact⟨z,its,n,r,k _ _ (.inl rfl) e⟩
 |tup xs=>obtain⟨z,its,r,ob,e,c⟩:=x;exact⟨z,its,r,ob,k _ _ (.inl rfl) e,c⟩
 |dK kvs=>obtain⟨z,y,vs,r,ob,es,ep,e,c⟩:=x;exact⟨z,y,vs,r,ob,es,ep,k _ _ (.inl rfl) e,c⟩
 |dT kvs=>
  obtain⟨z,y,xs,r,ob,es,ep,e,c⟩:=x;exact⟨z,y,xs,Paired.KZ r fun p q z=>⟨z.1,ht _ _ z.2.1,z.2.2⟩,ob,es,ep,k _ _ (.inl rfl) e,c⟩
 |set S n=>obtain⟨ob,es,ep,t,e,c⟩:=x;exact⟨ob,es,ep,t,k _ _ (.inl rfl) e,c⟩
 |ins C dx fs=>
  obtain⟨d,z,ne,e,mA,⟨od,es,ep,e2,c⟩,r⟩:=x;exact⟨ho _ d,z,ne,k _ _ (.inl rfl) e,mA,⟨od,es,ep,k _ _ (.inr d) e2,c⟩,r⟩
 |own y=>obtain⟨ob,e⟩:=x;exact⟨ob,k _ _ (.inl rfl) e⟩
 |xd fs=>obtain⟨mA,⟨od,es,ep,e,c⟩,r⟩:=x;exact⟨mA,⟨od,es,ep,k _ _ (.inl rfl) e,c⟩,r⟩
 |BV lo hi=>obtain⟨t,u,v,e⟩:=x;exact⟨t,u,v,k _ _ (.inl rfl) e⟩
 |cN ob u ih=>obtain⟨e,q⟩:=x;exact⟨k _ _ (.inl rfl) e,ih q⟩
 |uP ps=>
  have e:h.get? a=some { cls:=.none,data:=.fields ps }:=x;show h'.get? a=some { cls:=.none,data:=.fields ps };exact k a _ (.inl rfl) e
 |met f y=>
  have e:h.get? a=some (PySem.W.methodObj (.ref f) (.ref y)):=x;show h'.get? a=some (PySem.W.methodObj (.ref f) (.ref y));exact k a _ (.inl rfl) e
 |ext φ=>obtain⟨p,⟨o,e⟩,st⟩:=x;exact⟨st _ _ p fun o q=>k _ _ (.inl rfl) q,⟨o,k _ _ (.inl rfl) e⟩,st⟩
theorem dJ.lt(x:dJ P w H h)(e:H a=some o):a<h.objs.size:=(x a o e).lt
theorem dJ.fresh(x:dJ P w H h)(e:h.objs.size≤a):H a=none:=by
 cases q:H a with
 |none=>rfl
 |some u=>exact absurd (ba (x.lt q) e) (cf _)
theorem dJ.kept(x:dJ P w H h)(k:∀b u,h.get? b=some u->h'.get? b=some u):dJ P w H h':=fun a o e=>
 (x a o e).kf (fun b u _ q=>k b u q) (fun _ q=>q) fun _ _ q=>q
theorem dJ.laid(x:dJ P w H h)(k:∀b u,h.get? b=some u->h'.get? b=some u)(hp:h.objs.size≤a)(new:bH P w (upd H a o) h' a o):dJ P w (upd H a o) h':=fun b u e=>by
 have hn:=x.fresh hp;by_cases hb:b=a
 ·subst hb;rw[gh] at e;cases e;exact new
 ·rw[dj hb] at e;exact (x b u e).kf (fun c v _ q=>k c v q) (fun c q=>by rw[dj (lH q hn)];exact q) fun c xs q=>by rw[dj (lH q hn)];exact q
end
def Rd(H:Hp)(a:ε)(u:HO):Prop:=H a=some u∨∃o,H a=some (.cN o u)
theorem Rd.ok{P:Ψ}{w:af}{H:Hp}{h:Ξ}{a:ε}{u:HO}(r:Rd H a u)(x:dJ P w H h):bH P w H h a u:=by
 rcases r with r|⟨o,r⟩
 ·exact x a u r
 ·obtain⟨_,q⟩:=x a _ r;exact q
def Cf:Option HO->Prop
 |some (.lst _)=>True
 |some (.dK _)=>True
 |some (.dT _)=>True
 |some (.set _ _)=>True
 |some (.ins _ _ _)=>True
 |some (.ext _)=>True
 |_=>False
section
variable {P:Ψ} {w:af} {H:Hp} {h h':Ξ} {x e:ε} {o':HO}
theorem dJ.write(ok:dJ P w H h)(mu:Cf (H x))(he:e=x∨H e=some (.own x))(k:∀b u,b≠e->h.get? b=some u->h'.get? b=some u)(heo:∃u,h'.get? e=some u)
  (new:bH P w (upd H x o') h' x o'):dJ P w (upd H x o') h':=fun b u q=>by
 have nown:∀c y,H c=some (.own y)->c≠x:=fun c y r z=>by subst z;rw[r] at mu;exact mu
 have ntup:∀c xs,H c=some (.tup xs)->c≠x:=fun c xs r z=>by subst z;rw[r] at mu;exact mu
 by_cases hb:b=x
 ·subst hb;rw[gh] at q;cases q;exact new
 ·rw[dj hb] at q;by_cases hbe:b=e
  ·have q':H b=some (.own x):=by
    rcases he with z|z
    ·exact absurd (hbe.trans z) hb
    ·rw[hbe];exact z
   rw[q] at q';cases q';obtain⟨v,hv⟩:=heo;exact⟨v,by rw[hbe];exact hv⟩
  ·refine (ok b u q).kf (fun c v hc r=>k c v ?_ r) (fun c r=>by rw[dj (nown c b r)];exact r) fun c xs r=>by rw[dj (ntup c xs r)];exact r
   rcases hc with rfl|hc
   ·exact hbe
   ·rintro rfl;rcases he with z|z
    ·exact nown c b hc z
    ·rw[hc] at z;cases z;exact hb rfl
end
structure Un(fs ex:List ε)(H H':Hp)(h h':Ξ):Prop where
 keep:∀b o,h.get? b=some o->H b=none->b∉fs->b∉ex->h'.get? b=some o
 slot:∀b o,h.get? b=some o->H b=none->b∈fs->b∉ex->∃sl,h'.get? b=some { o with slots:=sl }
 free:∀b o,h.get? b=some o->H b=none->b∉ex->H' b=none
 there:∀b o,h.get? b=some o->b∉ex->∃o',h'.get? b=some o'
 gX:∀b xs,H b=some (.tup xs)->H' b=some (.tup xs)
 gZ:∀b o u,H b=some (.cN o u)->H' b=some (.cN o u)
 mr:∀b ps,H b=some (.uP ps)->∃more,H' b=some (.uP (ps++more))
section
variable {fs fs' ex ex':List ε} {H H1 H2:Hp} {h h1 h2 h':Ξ} {a x e:ε} {o:HO}
theorem Un.any(u:Un fs ex H H1 h h1){b:ε}{ob:aA}(q:h.get? b=some ob)(n:H b=none)(hx:b∉ex):∃sl,h1.get? b=some { ob with slots:=sl }:=by
 by_cases hb:b∈fs
 ·exact u.slot b ob q n hb hx
 ·exact⟨ob.slots,u.keep b ob q n hb hx⟩
theorem Un.kept(k:∀b u,h.get? b=some u->h'.get? b=some u):Un fs ex H H h h':=
 ⟨fun b ob q _ _ _=>k b ob q,fun b ob q _ _ _=>⟨ob.slots,k b ob q⟩,fun _ _ _ n _=>n,fun b ob q _=>⟨ob,k b ob q⟩,fun _ _ q=>q,fun _ _ _ q=>q,fun _ ps q=>⟨#[],by rw[q];simp⟩⟩
theorem Un.refl:Un fs ex H H h h:=Un.kept fun _ _ q=>q
theorem Un.laid(k:∀b u,h.get? b=some u->h'.get? b=some u)(hp:h.objs.size≤a)(hn:H a=none):Un fs ex H (upd H a o) h h' where
 keep:=fun b u q _ _ _=>k b u q
 slot:=fun b u q _ _ _=>⟨u.slots,k b u q⟩
 free:=fun b u q n _=>by rw[dj (av (ba (χ q) hp))];exact n
 there:=fun b u q _=>⟨u,k b u q⟩
 gX:=fun b xs q=>by rw[dj (lH q hn)];exact q
 gZ:=fun b u xs q=>by rw[dj (lH q hn)];exact q
 mr:=fun b ps q=>⟨#[],by rw[dj (lH q hn),q];simp⟩
theorem Un.write(mu:Cf (H x))(he:e=x∨H e=some (.own x))(k:∀b u,b≠e->h.get? b=some u->h'.get? b=some u)(heo:∃u,h'.get? e=some u):Un fs ex H (upd H x o) h h':=by
 have hx:∀b,H b=none->b≠x:=fun b n z=>by subst z;rw[n] at mu;exact mu
 have hb:∀b,H b=none->b≠e:=fun b n z=>by
  subst z;rcases he with r|r
  ·exact hx b n r
  ·rw[n] at r;cases r
 have hm:∀b u,H b=some u->¬Cf (some u)->b≠x:=fun b u q nm z=>by subst z;rw[q] at mu;exact nm mu
 refine⟨fun b u q n _ _=>k b u (hb b n) q,fun b u q n _ _=>⟨u.slots,k b u (hb b n) q⟩,fun b u q n _=>by rw[dj (hx b n)];exact n,fun b u q _=>?_,
  fun b xs q=>by rw[dj (hm b _ q fun z=>z)];exact q,fun b u xs q=>by rw[dj (hm b _ q fun z=>z)];exact q,fun b ps q=>⟨#[],by rw[dj (hm b _ q fun z=>z),q];simp⟩⟩
 by_cases hbe:b=e
 ·subst hbe;exact heo
 ·exact⟨u,k b u hbe q⟩
end
def mE(h:Ξ)(H:Hp):List ε:=(ag h.objs.size).filter fun a=>(H a).isSome
def qW(h:Ξ)(H:Hp):Ξ:=PySem.W.hideAll h (mE h H)
theorem VY(h:Ξ)(H:Hp):(qW h H).objs.size=h.objs.size:=PySem.W.hideAll_size _ _
theorem VX{h:Ξ}{H:Hp}{b:ε}{o:aA}(e:h.get? b=some o)(n:H b=none):(qW h H).get? b=some o:=
 PySem.W.hideAll_get _ e fun hm=>by
  have q:(H b).isSome=true:=(iS.mp hm).2;rw[n] at q;simp at q
theorem VW{h:Ξ}{H:Hp}{b:ε}{o:aA}(e:(qW h H).get? b=some o):h.get? b=some o/\H b=none:=by
 have e':h.get? b=some o:=PySem.W.of_hideAll (mE h H) e;refine⟨e',?_⟩;cases q:H b with
 |none=>rfl
 |some x=>
  have hm:b∈mE h H:=iS.mpr ⟨aE.mpr (χ e'),by simp[q]⟩;have z:(qW h H).get? b=none:=PySem.W.hideAll_none (mE h H) hm;rw[z] at e;cases e
end L2
namespace L2
open PySem PySem.Spec PyProof.Rows
structure Mod(K:PySem.W.Frag)(mg:ι->Option Value)(base:Ξ):Prop where
 nR:K.In base
 glob:base.Ns aL mg
 blt:∃mb,base.Ns builtinsNs mb/\∀x:ι,x≠"__name__"->mb x=gk x
 nolimit:base.NoLimit
structure Cx where
 prog:Ψ
 w:af
 K:PySem.W.Frag
 mg:ι->Option Value
 base:Ξ
 A:aq
 N:List ι
 s₀:ζ
 H₀:Hp
 env:cB
 outer:List cB
 stack:List cB
 ex:List ε
 fn:ι->Bool
 calm:Bool
 pn:List (ε×aA)
 xe:Value->ζ->Prop
def fb(l:List cB):List ε:=l.filterMap (·.frame)
abbrev Cx.fs(X:Cx):List ε:=fb X.outer
def Lu(sc:ee)(x:ι):Prop:=sc.names.lookup x=some .local∨sc.names.lookup x=some .cell∨sc.names.lookup x=some .free
def Loc(sc:ee)(x:ι):Prop:=sc.names.lookup x=some .local∨sc.names.lookup x=some .cell
def Look(env:cB)(h:Ξ)(m:ι->Option Value)(x:ι)(u:Value):Prop:=
 (env.kindOf x=some .local/\m x=some u)∨((env.kindOf x=some .cell∨env.kindOf x=some .free)/\∃c,env.cells.lookup x=some c/\h.IsCell c (some u))
structure Cx.Ok(X:Cx):Prop where
 mod:Mod X.K X.mg X.base
 kind:X.env.scope.kind=.function
 glob:X.env.globals=aL
 blt:X.env.builtins=builtinsNs
 above:X.s₀.heap.objs.size≤X.env.locals
 inj:∀x y c,X.env.cells.lookup x=some c->X.env.cells.lookup y=some c->x=y
 has:∀x,(X.env.kindOf x=some .cell∨X.env.kindOf x=some .free)->∃c,X.env.cells.lookup x=some c
 yJ:∀x c,X.fn x=true->X.env.cells.lookup x=some c->X.s₀.heap.objs.size≤c
 hd:X.calm=true->X.A.handled=none
 frames:X.A.frames=some X.stack
 yB:X.stack=X.outer∨(X.stack=X.env::X.outer/\X.env.frame=some X.env.locals)
 B9:∀b∈X.ex,b≠X.env.locals/\∀x c,X.env.cells.lookup x=some c->c≠b
 bs:∀b o,X.base.get? b=some o->X.s₀.heap.get? b=some o/\X.H₀ b=none
 oP:X.base.objs.size≤X.s₀.heap.objs.size
 uE:∀b o,X.base.get? b=some o->b∉X.ex
 vU:∀b∈X.ex,b∉X.fs
 kg:X.s₀.heap.FunFrames X.base X.outer
 vc:∀b∈X.fs,X.H₀ b=none
structure Inv(X:Cx)(pins:List (ε×aA))(σ:List (Option V))(H:Hp)(s:ζ):Prop where
 ok:X.Ok
 os:s.os=X.s₀.os
 bare:jF s.gens
 base:Un X.fs X.ex X.H₀ H X.s₀.heap s.heap
 loc:∃m,s.heap.Ns X.env.locals m/\∀(i:Nat) (x:ι) (v:V),X.N[i]?=some x->σ[i]?=some (some v)->Lu X.env.scope x->∃u,RelV v u/\Look X.env s.heap m x u
 cell:∀x c,X.env.cells.lookup x=some c->∃v,s.heap.IsCell c v
 free:H X.env.locals=none
 jA:∀x c,X.env.cells.lookup x=some c->H c=none
 pin:∀p∈X.pn++pins,s.heap.get? p.1=some p.2/\H p.1=none/\p.1≠X.env.locals/\p.1∉X.fs/\∀v,p.2.data≠.cell v
 bf:dJ X.prog X.w H s.heap
 len:σ.length=X.N.length
section
variable {X:Cx} {pins:List (ε×aA)} {σ:List (Option V)} {H H':Hp} {s:ζ} {h':Ξ}
theorem Cx.Ok.Zf(ok:X.Ok){b:ε}{o:aA}(e:X.base.get? b=some o):b∉X.fs:=fun hb=>by
 have:=(ok.kg.mem hb).1;rw[e] at this;cases this
theorem Inv.bs(I:Inv X pins σ H s):∀b o,X.base.get? b=some o->s.heap.get? b=some o/\H b=none:=fun b o e=>
 ⟨I.base.keep b o (I.ok.bs b o e).1 (I.ok.bs b o e).2 (I.ok.Zf e) (I.ok.uE b o e),I.base.free b o (I.ok.bs b o e).1 (I.ok.bs b o e).2 (I.ok.uE b o e)⟩
theorem Inv.bk(I:Inv X pins σ H s):∀b o,X.base.get? b=some o->s.heap.get? b=some o:=fun b o e=>(I.bs b o e).1
theorem Inv.mod(I:Inv X pins σ H s):Mod X.K X.mg X.base:=I.ok.mod
theorem Inv.fC(I:Inv X pins σ H s):X.K.In s.heap:=I.ok.mod.nR.keeps I.bk
theorem Inv.nolimit(I:Inv X pins σ H s):s.heap.NoLimit:=I.ok.mod.nolimit.keeps I.bk
theorem Inv.lt(I:Inv X pins σ H s):X.env.locals<s.heap.objs.size:=let ⟨_,hn,_⟩:=I.loc;hn.lt
theorem Inv.sz(I:Inv X pins σ H s):X.s₀.heap.objs.size≤s.heap.objs.size:=aG I.ok.above (lb I.lt)
theorem Inv.Ze(I:Inv X pins σ H s){a:ε}(h:s.heap.objs.size≤a):a∉X.fs:=fun hb=>by
 obtain⟨_,o,ho,_⟩:=I.ok.kg.mem hb;exact absurd (ba (χ ho) (aG I.sz h)) (cf _)
theorem Inv.wb(I:Inv X pins σ H s):∀x c,X.env.cells.lookup x=some c->c≠X.env.locals:=fun x c e z=>by
 obtain⟨v,o,ho,hd⟩:=I.cell x c e;obtain⟨m,⟨o',es,ep,ho',hd',_⟩,_⟩:=I.loc;rw[z,ho'] at ho;cases ho;rw[hd'] at hd;cases hd
theorem Inv.kg(I:Inv X pins σ H s):s.heap.FunFrames X.base X.outer:=by
 have all:∀(l:List cB),(∀b∈fb l,b∈X.fs)->X.s₀.heap.FunFrames X.base l->s.heap.FunFrames X.base l:=by
  intro l
  induction l with
  |nil=>intro _ _;trivial
  |cons env r ih=>
   intro hs hl;obtain⟨hk,⟨L,o,hf,hn,ho,hd⟩,hr⟩:=hl;have hL:L∈X.fs:=hs L (by unfold fb;rw[cV,hf];exact Δ);obtain⟨sl,e⟩:=I.base.slot L o ho (I.ok.vc L hL) hL fun z=>I.ok.vU L z hL;exact⟨hk,⟨L,_,hf,hn,e,hd⟩,ih (fun b hb=>hs b (by unfold fb;rw[cV,hf];exact ω _ hb)) hr⟩
 exact all X.outer (fun _ hb=>hb) I.ok.kg
theorem Inv.stack(I:Inv X pins σ H s):s.heap.FunFrames X.base X.stack:=by
 rcases I.ok.yB with e|⟨e,hf⟩
 ·rw[e];exact I.kg
 ·rw[e];obtain⟨m,hn,_⟩:=I.loc;refine .cons (by rw[I.ok.kind];decide) hf hn ?_ I.kg;exact eX (aG I.ok.oP I.ok.above)
theorem Inv.se(I:Inv X pins σ H s):∀b∈fb X.stack,b∈X.env.locals::X.fs:=fun b hb=>by
 rcases I.ok.yB with e|⟨e,hf⟩
 ·rw[e] at hb;exact ω _ hb
 ·rw[e] at hb;unfold fb at hb;rw[cV,hf] at hb;exact hb
theorem Inv.eY(I:Inv X pins σ H s):∀b∈fb X.stack,H b=none:=fun b hb=>by
 rcases Φ.mp (I.se b hb) with e|hb
 ·rw[e];exact I.free
 ·obtain⟨_,o,ho,_⟩:=I.ok.kg.mem hb;exact I.base.free b o ho (I.ok.vc b hb) fun z=>I.ok.vU b z hb
theorem Inv.step{g':Array GenState}{t':Nat}{d':Drawn}{ch:List ε}(I:Inv X pins σ H s)
  (ua:∀b∈ch,(b∈X.ex∨X.s₀.heap.objs.size≤b)/\b≠X.env.locals/\(∀x c,X.env.cells.lookup x=some c->c≠b)/\∀p∈X.pn++pins,p.1≠b)
  (keep:∀b o,b≠X.env.locals->b∉X.fs->b∉ch->s.heap.get? b=some o->H b=none->h'.get? b=some o)
  (slot:∀b o,b≠X.env.locals->b∈X.fs->b∉ch->s.heap.get? b=some o->H b=none->∃sl,h'.get? b=some { o with slots:=sl }) (free:∀b o,b∉ch->s.heap.get? b=some o->H b=none->H' b=none)
  (there:∀b o,b∉ch->s.heap.get? b=some o->∃o',h'.get? b=some o')
  (gX:∀b xs,H b=some (.tup xs)->H' b=some (.tup xs)) (gZ:∀b o u,H b=some (.cN o u)->H' b=some (.cN o u)) (mr:∀b ps,H b=some (.uP ps)->∃more,H' b=some (.uP (ps++more)))
  (ns:∀m,s.heap.Ns X.env.locals m->h'.Ns X.env.locals m) (bf:dJ X.prog X.w H' h') (hg:jF g'):
  Inv X pins σ H' { s with heap:=h',gens:=g',drawn:=d',toks:=t' }:=by
 have neL:∀b o,X.s₀.heap.get? b=some o->b≠X.env.locals:=fun b o e=>av (ba (χ e) I.ok.above);have neC:∀b o,X.s₀.heap.get? b=some o->b∉X.ex->b∉ch:=fun b o e hx hb=>by
  rcases (ua b hb).1 with z|z
  ·exact hx z
  ·exact absurd (ba (χ e) z) (cf _)
 have cellK:∀x c,X.env.cells.lookup x=some c->∀v,s.heap.IsCell c v->h'.IsCell c v:=fun x c e v ⟨o,ho,hd⟩=>by
  have nch:c∉ch:=fun z=>(ua c z).2.2.1 x c e rfl;by_cases hc:c∈X.fs
  ·obtain⟨sl,q⟩:=slot c o (I.wb x c e) hc nch ho (I.jA x c e);exact⟨_,q,hd⟩
  ·exact⟨o,keep c o (I.wb x c e) hc nch ho (I.jA x c e),hd⟩
 refine⟨I.ok,I.os,hg,⟨fun b o e n hb hx=>?_,fun b o e n hb hx=>?_,fun b o e n hx=>?_,fun b o e hx=>?_,fun b xs e=>gX b xs (I.base.gX b xs e),fun b o xs e=>gZ b o xs (I.base.gZ b o xs e),fun b ps e=>?_⟩,?_,fun x c e=>?_,?_,fun x c e=>?_,fun p hp=>?_,bf,I.len⟩
 ·exact keep b o (neL b o e) hb (neC b o e hx) (I.base.keep b o e n hb hx) (I.base.free b o e n hx)
 ·obtain⟨sl,e1⟩:=I.base.slot b o e n hb hx;obtain⟨sl',e2⟩:=slot b _ (neL b o e) hb (neC b o e hx) e1 (I.base.free b o e n hx);exact⟨sl',e2⟩
 ·obtain⟨o',e1⟩:=I.base.there b o e hx;exact free b o' (neC b o e hx) e1 (I.base.free b o e n hx)
 ·obtain⟨o',e1⟩:=I.base.there b o e hx;exact there b o' (neC b o e hx) e1
 ·obtain⟨m1,e1⟩:=I.base.mr b ps e;obtain⟨m2,e2⟩:=mr b _ e1;exact⟨m1++m2,by rw[e2,Array.append_assoc]⟩
 ·obtain⟨m,hn,hl⟩:=I.loc;refine⟨m,ns m hn,fun i x v e1 e2 e3=>?_⟩;obtain⟨u,r,l⟩:=hl i x v e1 e2 e3;refine⟨u,r,?_⟩;rcases l with l|⟨k,c,e,z⟩
  ·exact .inl l
  ·exact .inr ⟨k,c,e,cellK x c e _ z⟩
 ·obtain⟨v,z⟩:=I.cell x c e;exact⟨v,cellK x c e v z⟩
 ·obtain⟨m,⟨o,_,_,ho,_⟩,_⟩:=I.loc;exact free _ o (fun z=>(ua _ z).2.1 rfl) ho I.free
 ·obtain⟨v,o,ho,hd⟩:=I.cell x c e;exact free c o (fun z=>(ua c z).2.2.1 x c e rfl) ho (I.jA x c e)
 ·obtain⟨e,n,ne,nf,d⟩:=I.pin p hp;have nch:p.1∉ch:=fun z=>(ua p.1 z).2.2.2 p hp rfl;exact⟨keep p.1 p.2 ne nf nch e n,free p.1 p.2 nch e n,ne,nf,d⟩
theorem Inv.un{t':Nat}(I:Inv X pins σ H s)(u:Un X.fs [] H H' s.heap h')(bf:dJ X.prog X.w H' h'):Inv X pins σ H' { s with heap:=h',toks:=t' }:=by
 obtain⟨m,⟨o,es,ep,ho,r⟩,_⟩:=id I.loc;obtain⟨sl,hL⟩:=u.any ho I.free (by simp);exact I.step (g':=s.gens) (d':=s.drawn) (ch:=[]) (fun _ z=>nomatch z) (fun b o _ hb _ e n=>u.keep b o e n hb (by simp)) (fun b o _ hb _ e n=>u.slot b o e n hb (by simp)) (fun b o _ e n=>u.free b o e n (by simp)) (fun b o _ e=>u.there b o e (by simp)) u.gX u.gZ u.mr (fun m' hm=>by
  obtain⟨o',es',ep',ho',r'⟩:=hm;rw[ho] at ho';cases ho';exact⟨_,es',ep',hL,r'⟩) bf I.bare
theorem Inv.call{g':Array GenState}{t':Nat}{d':Drawn}{ch:List ε}(I:Inv X pins σ H s)(u:Un (fb X.stack) ch H H' s.heap h')(bf:dJ X.prog X.w H' h')(hg:jF g')
  (ua:∀b∈ch,(b∈X.ex∨X.s₀.heap.objs.size≤b)/\b≠X.env.locals/\(∀x c,X.env.cells.lookup x=some c->c≠b)/\∀p∈X.pn++pins,p.1≠b):
  Inv X pins σ H' { s with heap:=h',gens:=g',drawn:=d',toks:=t' }:=by
 obtain⟨m,⟨o,es,ep,ho,r⟩,_⟩:=id I.loc;obtain⟨sl,hL⟩:=u.any ho I.free fun z=>(ua _ z).2.1 rfl;exact I.step (ch:=ch) ua (fun b o hL hb hc e n=>u.keep b o e n (fun z=>(Φ.mp (I.se b z)).elim hL hb) hc) (fun b o _ _ hc e n=>u.any e n hc) (fun b o hc e n=>u.free b o e n hc) (fun b o hc e=>u.there b o e hc) u.gX u.gZ u.mr (fun m' hm=>by
  obtain⟨o',es',ep',ho',r'⟩:=hm;rw[ho] at ho';cases ho';exact⟨_,es',ep',hL,r'⟩) bf hg
theorem Inv.turned{t':Nat}{it:ε}(I:Inv X pins σ H s)(k:∀b o,b≠it->s.heap.get? b=some o->h'.get? b=some o)(hn:H it=none)(hL:it≠X.env.locals)
  (h1:it∈X.ex∨X.s₀.heap.objs.size≤it) (h2:∀x c,X.env.cells.lookup x=some c->c≠it) (h3:∀p∈X.pn++pins,p.1≠it):Inv X pins σ H { s with heap:=h',toks:=t' }:=by
 have nit:∀b u,H b=some u->b≠it:=fun b u e z=>by rw[z,hn] at e;cases e
 refine I.step (g':=s.gens) (d':=s.drawn) (ch:=[it]) (fun b hb=>?_) (fun b o _ _ hc e _=>k b o (fun z=>hc (by simp[z])) e) (fun b o _ _ hc e _=>⟨o.slots,k b o (fun z=>hc (by simp[z])) e⟩) (fun _ _ _ _ n=>n)
  (fun b o hc e=>⟨o,k b o (fun z=>hc (by simp[z])) e⟩) (fun _ _ e=>e) (fun _ _ _ e=>e) (fun b ps e=>⟨#[],by rw[e];simp⟩) (fun m hm=>?_) (fun b u e=>?_) I.bare
 ·have e:b=it:=by simpa using hb
  subst e;exact⟨h1,hL,h2,h3⟩
 ·obtain⟨o,es,ep,ho,r⟩:=hm;exact⟨o,es,ep,k _ o (da hL) ho,r⟩
 ·refine (I.bf b u e).kf (fun c v hc q=>k c v ?_ q) (fun _ q=>q) fun _ _ q=>q;rcases hc with z|z
  ·rw[z];exact nit b u e
  ·exact nit c _ z
theorem Inv.tok(I:Inv X pins σ H s)(t:Nat):Inv X pins σ H { s with toks:=t }:=I.un (h':=s.heap) (t':=t) Un.refl I.bf
theorem Inv.kept{t':Nat}(I:Inv X pins σ H s)(k:∀b u,s.heap.get? b=some u->h'.get? b=some u):Inv X pins σ H { s with heap:=h',toks:=t' }:=I.un (Un.kept k) (I.bf.kept k)
theorem Inv.laid{a:ε}{o:HO}{t':Nat}(I:Inv X pins σ H s)(k:∀b u,s.heap.get? b=some u->h'.get? b=some u)(hp:s.heap.objs.size≤a)(new:bH X.prog X.w (upd H a o) h' a o):
  Inv X pins σ (upd H a o) { s with heap:=h',toks:=t' }:=I.un (Un.laid k hp (I.bf.fresh hp)) (I.bf.laid k hp new)
theorem Inv.write{x e:ε}{o:HO}{t':Nat}(I:Inv X pins σ H s)(mu:Cf (H x))(he:e=x∨H e=some (.own x))(k:∀b u,b≠e->s.heap.get? b=some u->h'.get? b=some u)(heo:∃u,h'.get? e=some u)
  (new:bH X.prog X.w (upd H x o) h' x o):Inv X pins σ (upd H x o) { s with heap:=h',toks:=t' }:=I.un (Un.write mu he k heo) (I.bf.write mu he k heo new)
theorem Inv.vQ{pins':List (ε×aA)}(I:Inv X pins σ H s)(h:∀p∈pins',s.heap.get? p.1=some p.2/\H p.1=none/\p.1≠X.env.locals/\p.1∉X.fs/\∀v,p.2.data≠.cell v):Inv X pins' σ H s:=
 ⟨I.ok,I.os,I.bare,I.base,I.loc,I.cell,I.free,I.jA,fun p hp=>(bp.mp hp).elim (fun z=>I.pin p (bT _ z)) (h p),I.bf,I.len⟩
theorem Kx{N:List ι}(hN:N.Nodup){i j:Nat}{x:ι}(a:N[i]?=some x)(b:N[j]?=some x):i=j:=by
 obtain⟨h1,e1⟩:=aN.mp a;obtain⟨h2,e2⟩:=aN.mp b;exact (List.getElem_inj hN).mp (e1.trans e2.symm)
theorem DJ{M:Model}{A:aq}{E:Value->ζ->Prop}{i:Nat}{x:ι}{v:V}{u:Value}{Q:Unit->ζ->Prop}(I:Inv X pins σ H s)(hN:X.N.Nodup)(hi:X.N[i]?=some x)(hx:Loc X.env.scope x)(r:RelV v u)
  (h:∀s',Inv X pins (σ.set i (some v)) H s'->(∃a,dn a s.heap s'.heap/\(a=X.env.locals∨X.env.cells.lookup x=some a))->Q () s') (hf:X.fn x=true∨X.env.scope.names.lookup x=some .local:=by first|exact .inl rfl|exact .inr rfl|assumption):μ M A (storeName X.env x u) Q E s:=by
 obtain⟨m,hn,hl⟩:=id I.loc;have hcls:(X.env.scope.kind==.class||(X.env.scope.kind==.module&&X.env.locals != X.env.globals))=false:=by rw[I.ok.kind];rfl
 have hiσ:i<σ.length:=by rw[I.len];exact (aN.mp hi).1
 have wb:=I.wb;have tracked:∀{a:ε} {h':Ξ},(∃o,s.heap.get? a=some o/\H a=none)->dn a s.heap h'->dJ X.prog X.w H h':=fun {a h'} ha hs b ob e=>by
  obtain⟨_,_,hfree⟩:=ha;refine (I.bf b ob e).kf (fun c w' hc q=>(hs.2 c ?_).trans q) (fun _ q=>q) fun _ _ q=>q;rintro rfl;rcases hc with rfl|hc
  ·rw[hfree] at e;cases e
  ·rw[hfree] at hc;cases hc
 rcases hx with hk|hk
 ·refine wpAny_storeName_local hk hn (fun h' hn' hs=>?_) hcls;obtain⟨oL,_,_,hoL,_⟩:=id hn;refine h _ ⟨I.ok,I.os,I.bare,⟨fun b o e n hb hx=>?_,fun b o e n hb hx=>?_,I.base.free,fun b o e hx=>?_,I.base.gX,I.base.gZ,I.base.mr⟩,⟨_,hn',fun j y v' e1 e2 e3=>?_⟩,fun y c e=>?_,I.free,I.jA,fun p hp=>?_,tracked ⟨oL,hoL,I.free⟩ hs,by simpa using I.len⟩ ⟨_,hs,.inl rfl⟩
  ·exact (hs.2 b (av (ba (χ e) I.ok.above))).trans (I.base.keep b o e n hb hx)
  ·obtain⟨sl,e1⟩:=I.base.slot b o e n hb hx;exact⟨sl,(hs.2 b (av (ba (χ e) I.ok.above))).trans e1⟩
  ·obtain⟨o',e1⟩:=I.base.there b o e hx;exact⟨o',(hs.2 b (av (ba (χ e) I.ok.above))).trans e1⟩
  ·by_cases hj:j=i
   ·subst hj;rw[hi] at e1;cases e1;rw[jZ hiσ] at e2;cases e2;exact⟨u,r,.inl ⟨hk,by simp⟩⟩
   ·rw[lg (da hj)] at e2;obtain⟨u',r',q⟩:=hl j y v' e1 e2 e3;refine⟨u',r',?_⟩;rcases q with⟨k,e⟩|⟨k,c,e,z⟩
    ·refine .inl ⟨k,?_⟩;have:y≠x:=fun e=>hj (Kx hN e1 (e▸hi));simp[this,e]
    ·exact .inr ⟨k,c,e,z.sameBut hs (wb y c e)⟩
  ·obtain⟨w',z⟩:=I.cell y c e;exact⟨w',z.sameBut hs (wb y c e)⟩
  ·obtain⟨e,n,ne,nf,d⟩:=I.pin p hp;exact⟨(hs.2 p.1 ne).trans e,n,ne,nf,d⟩
 ·have hfn:X.fn x=true:=by
   rcases hf with z|z
   ·exact z
   ·rw[z] at hk;cases hk
  obtain⟨c,hc⟩:=I.ok.has x (.inl hk);obtain⟨w',z⟩:=I.cell x c hc;refine wpAny_storeName_cell I.ok.kind hk hc z (fun h' hc' hs=>?_);obtain⟨oc,hoc,hocd⟩:=id z;refine h { s with heap:=h' } ⟨I.ok,I.os,I.bare,⟨fun b o e n hb hx=>?_,fun b o e n hb hx=>?_,I.base.free,fun b o e hx=>?_,I.base.gX,I.base.gZ,I.base.mr⟩,⟨m,hn.sameBut hs (da (wb x c hc)),fun j y v' e1 e2 e3=>?_⟩,fun y c' e=>?_,I.free,I.jA,fun p hp=>?_,tracked ⟨oc,hoc,I.jA x c hc⟩ hs,by simpa using I.len⟩ ⟨c,hs,.inr hc⟩
  ·exact (hs.2 b (av (ba (χ e) (I.ok.yJ x c hfn hc)))).trans (I.base.keep b o e n hb hx)
  ·obtain⟨sl,e1⟩:=I.base.slot b o e n hb hx;exact⟨sl,(hs.2 b (av (ba (χ e) (I.ok.yJ x c hfn hc)))).trans e1⟩
  ·obtain⟨o',e1⟩:=I.base.there b o e hx;exact⟨o',(hs.2 b (av (ba (χ e) (I.ok.yJ x c hfn hc)))).trans e1⟩
  ·by_cases hj:j=i
   ·subst hj;rw[hi] at e1;cases e1;rw[jZ hiσ] at e2;cases e2;exact⟨u,r,.inr ⟨.inl hk,c,hc,hc'⟩⟩
   ·rw[lg (da hj)] at e2;obtain⟨u',r',q⟩:=hl j y v' e1 e2 e3;refine⟨u',r',?_⟩;rcases q with q|⟨k,c',e,z'⟩
    ·exact .inl q
    ·refine .inr ⟨k,c',e,z'.sameBut hs ?_⟩;rintro rfl;exact hj (Kx hN e1 (I.ok.inj _ _ _ e hc▸hi))
  ·by_cases hcc:c'=c
   ·subst hcc;exact⟨_,hc'⟩
   ·obtain⟨w2,z2⟩:=I.cell y c' e;exact⟨w2,z2.sameBut hs hcc⟩
  ·obtain⟨e,n,ne,nf,d⟩:=I.pin p hp;refine⟨(hs.2 p.1 ?_).trans e,n,ne,nf,d⟩;intro q;rw[q,hoc] at e;have q':oc=p.2:=ao e;exact d w' (by rw[←q'];exact hocd)
theorem vP{M:Model}{A:aq}{E:Value->ζ->Prop}{i:Nat}{x:ι}{v:V}{u:Value}{Q:Unit->ζ->Prop}(I:Inv X pins σ H s)(hN:X.N.Nodup)(hi:X.N[i]?=some x)(hx:Loc X.env.scope x)(r:RelV v u)
  (h:∀s',Inv X pins (σ.set i (some v)) H s'->Q () s') (hf:X.fn x=true∨X.env.scope.names.lookup x=some .local:=by first|exact .inl rfl|exact .inr rfl|assumption):μ M A (storeName X.env x u) Q E s:=
 DJ I hN hi hx r (fun s' I' _=>h s' I') hf
theorem Inv.Bt{s':ζ}{ch:List ε}(I:Inv X pins σ H s)(ho:s'.os=s.os)(u:Un (fb X.stack) ch H H' s.heap s'.heap)(bf:dJ X.prog X.w H' s'.heap)(hg:jF s'.gens)
  (ua:∀b∈ch,(b∈X.ex∨X.s₀.heap.objs.size≤b)/\b≠X.env.locals/\(∀x c,X.env.cells.lookup x=some c->c≠b)/\∀p∈X.pn++pins,p.1≠b):Inv X pins σ H' s':=by
 obtain⟨h',g',d',t',o'⟩:=s';have e:o'=s.os:=ho;subst e;exact I.call (g':=g') (t':=t') (d':=d') u bf hg ua
end
abbrev XK:=Value->Option ε->Hp->Prop
abbrev St:=List (Option V)
abbrev VK:=V->Hp->Prop
abbrev TE:=St->Hp->VK->Prop
abbrev TT:=St->Hp->(Bool->Hp->Prop)->Prop
abbrev TA:=St->Hp->(List V->Hp->Prop)->Prop
structure Ends where
 nx:St->Hp->Prop
 rt:VK
 bk:St->Hp->Prop:=fun _ _=>False
 ct:St->Hp->Prop:=fun _ _=>False
abbrev TS:=Ends->St->Hp->Prop
def EP(X:Cx)(pins:List (ε×aA))(σ:St)(Q:VK)(u:Value)(s':ζ):Prop:=∃v H',Inv X pins σ H' s'/\RelV v u/\Q v H'
def TP(X:Cx)(pins:List (ε×aA))(σ:St)(Q:Bool->Hp->Prop)(b:Bool)(s':ζ):Prop:=∃H',Inv X pins σ H' s'/\Q b H'
def AP(X:Cx)(pins:List (ε×aA))(σ:St)(Q:List V->Hp->Prop)(us:List Value)(s':ζ):Prop:=∃vs H',Inv X pins σ H' s'/\aS vs us/\Q vs H'
def SP(X:Cx)(pins:List (ε×aA))(D:Ends)(f:Flow)(s':ζ):Prop:=
 match f with
 |.next=>∃σ' H',Inv X pins σ' H' s'/\D.nx σ' H'
 |.brk=>∃σ' H',Inv X pins σ' H' s'/\D.bk σ' H'
 |.cont=>∃σ' H',Inv X pins σ' H' s'/\D.ct σ' H'
 |.ret u=>∃v σ' H',Inv X pins σ' H' s'/\RelV v u/\D.rt v H'
def PE(X:Cx)(e:ο)(t:TE):Prop:=
 ∀(pins:List (ε×aA)) (s:ζ) (σ:St) (H:Hp) (Q:VK),Inv X pins σ H s->t σ H Q->μ (model X.prog X.w) X.A (eval e X.env) (EP X pins σ Q) X.xe s
def PT(X:Cx)(e:ο)(t:TT):Prop:=
 ∀(pins:List (ε×aA)) (s:ζ) (σ:St) (H:Hp) (Q:Bool->Hp->Prop),Inv X pins σ H s->t σ H Q->μ (model X.prog X.w) X.A (isTrue e X.env (eval e X.env)) (TP X pins σ Q) X.xe s
def PW(X:Cx)(e:ο)(t:TT):Prop:=
 ∀(whole:hX Value) (pins:List (ε×aA)) (s:ζ) (σ:St) (H:Hp) (Q:Bool->Hp->Prop),Inv X pins σ H s->t σ H Q->μ (model X.prog X.w) X.A (isTrue e X.env whole) (TP X pins σ Q) X.xe s
theorem PW.pt{X:Cx}{e:ο}{t:TT}(h:PW X e t):PT X e t:=h _
def PA(X:Cx)(es:List ο)(t:TA):Prop:=
 ∀(pos:ay) (pins:List (ε×aA)) (s:ζ) (σ:St) (H:Hp) (Q:List V->Hp->Prop),Inv X pins σ H s->t σ H Q->μ (model X.prog X.w) X.A (spliced (backTo pos (bx es X.env))) (AP X pins σ Q) X.xe s
def PS(X:Cx)(st:aB)(t:TS):Prop:=
 ∀(pins:List (ε×aA)) (s:ζ) (σ:St) (H:Hp) (D:Ends),Inv X pins σ H s->t D σ H->μ (model X.prog X.w) X.A (exec st X.env) (SP X pins D) X.xe s
def kS(X:Cx)(st:List aB)(t:TS):Prop:=
 ∀(pins:List (ε×aA)) (s:ζ) (σ:St) (H:Hp) (D:Ends),Inv X pins σ H s->t D σ H->μ (model X.prog X.w) X.A (execs st X.env) (SP X pins D) X.xe s
theorem br{α:Type}{t:hX α}{Q Q':α->ζ->Prop}{M:Model}{A:aq}{E:Value->ζ->Prop}{s:ζ}(h:μ M A t Q E s)(hQ:∀a s,Q a s->Q' a s):μ M A t Q' E s:=cp h hQ fun _ _ x=>x
end L2
namespace L2
open PySem PySem.Spec PyProof.Rows
section
variable {X:Cx}
theorem bin{a b:ο}{ta tb:TE}(ha:PE X a ta)(hb:PE X b tb){pins:List (ε×aA)}{s:ζ}{σ:St}{H:Hp}{R:V->V->Hp->Prop}(I:Inv X pins σ H s)(h:ta σ H fun x H1=>tb σ H1 fun y H2=>R x y H2)
  {α:Type} {Q:α->ζ->Prop} {f:Value->Value->hX α}
  (hf:∀v u s2 x y H2,Inv X pins σ H2 s2->RelV x v->RelV y u->R x y H2->μ (model X.prog X.w) X.A (f v u) Q X.xe s2):
  μ (model X.prog X.w) X.A (eval a X.env) (fun v s₁=>μ (model X.prog X.w) X.A (eval b X.env) (fun u s₂=>μ (model X.prog X.w) X.A (f v u) Q X.xe s₂) X.xe s₁) X.xe s:=by
 refine br (ha pins s σ H _ I h) fun v s1 ⟨x,H1,I1,r1,q1⟩=>?_;refine br (hb pins s1 σ H1 _ I1 q1) fun u s2 ⟨y,H2,I2,r2,q2⟩=>?_;exact hf v u s2 x y H2 I2 r1 r2 q2
def yP(i:Nat):TE:=fun σ H Q=>∃v,σ[i]?=some (some v)/\Q v H
def tC(v:V):TE:=fun _ H Q=>Q v H
theorem VV{i:Nat}{x:ι}{pos:ay}(hN:X.N[i]?=some x)(hv:Lu X.env.scope x)(hd:(x==("__debug__":ι))=false:=by decide)(gQ:(x==("__classdict__":ι))=false:=by decide):PE X (.Name x pos) (yP i):=by
 intro pins s σ H Q I h;obtain⟨v,e,h⟩:=h;obtain⟨m,hn,hl⟩:=I.loc;obtain⟨u,r,l⟩:=hl i x v hN e hv;have fin:EP X pins σ Q u s:=⟨v,H,I,r,h⟩;rcases l with⟨hk,hm⟩|⟨hk,c,hc,hcell⟩
 ·exact m4 (kW I.ok.kind hk hn hm fin) hd
 ·rcases hk with hk|hk
  ·exact m4 (wpAny_loadName_cell I.ok.kind hk hc hcell fin) hd
  ·exact m4 (wpAny_loadName_free I.ok.kind hk hc hcell fin gQ) hd
theorem Kw{i j pos}:PE X (.Constant (.int i) j pos) (tC (.int i)):=fun _ _ _ H _ I h=>wpAny_Constant_int ⟨.int i,H,I.tok _,⟨_,rfl⟩,h⟩
theorem VU{b j pos}:PE X (.Constant (.bool b) j pos) (tC (.bl b)):=fun _ _ _ H _ I h=>Constant_bool ⟨.bl b,H,I,rfl,h⟩
theorem VT{j pos}:PE X (.Constant .none j pos) (tC .az):=fun _ _ _ H _ I h=>Constant_none ⟨.az,H,I,rfl,h⟩
theorem VS{x j pos}:PE X (.Constant (.str x) j pos) (tC (.str x)):=fun _ _ _ H _ I h=>Calls.Constant_str ⟨.str x,H,I.tok _,⟨_,rfl⟩,h⟩
def Gl(X:Cx)(x:ι):Prop:=X.env.kindOf x=some .globalImplicit
theorem pF{E:Value->ζ->Prop}{pins:List (ε×aA)}{s:ζ}{σ:St}{H:Hp}{x:ι}{u:Value}{pos:ay}{Q:Value->ζ->Prop}(I:Inv X pins σ H s)(hg:Gl X x)(hm:X.mg x=some u)(h:Q u s)
  (hd:(x==("__debug__":ι))=false:=by decide):μ (model X.prog X.w) X.A (eval (.Name x pos) X.env) Q E s:=
 mD I.ok.kind hg (Calls.loadGlobal_global (by rw[I.ok.glob];exact I.mod.glob.keeps I.bk) hm h) hd
theorem qN{E:Value->ζ->Prop}{pins:List (ε×aA)}{s:ζ}{σ:St}{H:Hp}{x:ι}{u:Value}{pos:ay}{Q:Value->ζ->Prop}(I:Inv X pins σ H s)(hg:Gl X x)(hm:X.mg x=none)(hv:gk x=some u)(h:Q u s)
  (hn:x≠"__name__":=by decide) (hd:(x==("__debug__":ι))=false:=by decide):μ (model X.prog X.w) X.A (eval (.Name x pos) X.env) Q E s:=by
 obtain⟨mb,h1,h2⟩:=I.mod.blt;exact mD I.ok.kind hg (Calls.loadGlobal_builtin (by rw[I.ok.glob];exact I.mod.glob.keeps I.bk) hm (by rw[I.ok.blt];exact h1.keeps I.bk) ((h2 x hn).trans hv) h) hd
theorem Kv{x:ι}{v:V}{u:Value}{pos:ay}(hg:Gl X x)(hm:X.mg x=some u)(r:RelV v u)(hd:(x==("__debug__":ι))=false:=by decide):PE X (.Name x pos) (tC v):=
 fun _ _ _ H _ I h=>pF I hg hm ⟨v,H,I,r,h⟩ hd
theorem Ku{x:ι}{v:V}{u:Value}{pos:ay}(hg:Gl X x)(hm:X.mg x=none)(hv:gk x=some u)(r:RelV v u)(hn:x≠"__name__":=by decide)(hd:(x==("__debug__":ι))=false:=by decide):PE X (.Name x pos) (tC v):=
 fun _ _ _ H _ I h=>qN I hg hm hv ⟨v,H,I,r,h⟩ hn hd
variable {a b:ο} {ta tb:TE} {pos:ay}
def PC(X:Cx)(op:jE)(a b:ο)(t:TE):Prop:=
 ∀(pins:List (ε×aA)) (s:ζ) (σ:St) (H:Hp) (Q:VK),Inv X pins σ H s->t σ H Q ->
  μ (model X.prog X.w) X.A (eval a X.env) (fun v s₁=>μ (model X.prog X.w) X.A (eval b X.env) (fun u s₂=>μ (model X.prog X.w) X.A (compareOp op v u) (EP X pins σ Q) X.xe s₂) X.xe s₁) X.xe s
def tB(t:TE):TT:=fun σ H Q=>t σ H fun x H1=>∃c,x=.bl c/\Q c H1
theorem VR{op:jE}{t:TE}(h:PC X op a b t)(h1:behindInMarks op b=false:=by first|exact nobehind _ (by decide) (by decide)|rfl):PT X (.Compare a [op] [b] pos) (tB t):=by
 intro pins s σ H Q I hw;refine wpAny_isTrue_Compare1 (br (h pins s σ H _ I hw) fun v s1 h1=>br h1 fun u s2 h2=>br h2 fun c s3 ⟨x,H1,I1,r1,q1⟩=>?_) h1;obtain⟨d,rfl,q⟩:=q1;cases r1;exact dR ⟨H1,I1,q⟩
variable {tA tB':TT} {rest:List ο}
def Ng(t u:TT):TT:=fun σ H Q=>t σ H fun c H1=>if c=true then u σ H1 Q else Q false H1
def ZS(t u:TT):TT:=fun σ H Q=>t σ H fun c H1=>if c=true then Q true H1 else u σ H1 Q
def Nc(t:TT):TT:=fun σ H Q=>t σ H fun c H1=>Q (!c) H1
theorem pw_and1(ha:PT X a tA):PW X (.BoolOp .And [a] pos) tA:=by
 intro wh pins s σ H Q I h;refine isTrue_and (br (ha pins s σ H Q I h) fun c s1 e=>?_);cases c with
 |true=>exact isTrue_and_nil e
 |false=>exact e
theorem pw_or1(ha:PT X a tA):PW X (.BoolOp .Or [a] pos) tA:=by
 intro wh pins s σ H Q I h;refine isTrue_or (br (ha pins s σ H Q I h) fun c s1 e=>?_);cases c with
 |false=>exact isTrue_or_nil e
 |true=>exact e
theorem pw_and(ha:PT X a tA)(hb:PW X (.BoolOp .And (b::rest) pos) tB'):PW X (.BoolOp .And (a::b::rest) pos) (Ng tA tB'):=by
 intro wh pins s σ H Q I h;refine isTrue_and (br (ha pins s σ H _ I h) fun c s1 ⟨H1,I1,q1⟩=>?_);cases c with
 |true=>exact hb wh pins s1 σ H1 Q I1 q1
 |false=>exact⟨H1,I1,q1⟩
theorem pw_or(ha:PT X a tA)(hb:PW X (.BoolOp .Or (b::rest) pos) tB'):PW X (.BoolOp .Or (a::b::rest) pos) (ZS tA tB'):=by
 intro wh pins s σ H Q I h;refine isTrue_or (br (ha pins s σ H _ I h) fun c s1 ⟨H1,I1,q1⟩=>?_);cases c with
 |true=>exact⟨H1,I1,q1⟩
 |false=>exact hb wh pins s1 σ H1 Q I1 q1
theorem VQ(ha:PT X a tA):PT X (.UnaryOp .Not a pos) (Nc tA):=by
 intro pins s σ H Q I h;exact isTrue_not (ha pins s σ H (fun c H1=>Q (!c) H1) I h)
def LS(ta tb:TE):TE:=fun σ H Q=>ta σ H fun x H1=>∃c,x=.bl c/\if c=true then tb σ H1 Q else Q (.bl false) H1
def LO(ta:TE):TE:=fun σ H Q=>ta σ H fun x H1=>∃c,x=.bl c/\Q (.bl (!c)) H1
theorem VP{op}{t:TE}(h:PE X a t):PE X (.BoolOp op [a] pos) t:=fun pins s σ H Q I hw=>BoolOp_one (h pins s σ H Q I hw)
theorem VO(ha:PE X a ta)(hb:PE X (.BoolOp .And (b::rest) pos) tb):PE X (.BoolOp .And (a::b::rest) pos) (LS ta tb):=by
 intro pins s σ H Q I h;refine BoolOp_and (br (ha pins s σ H _ I h) fun v s1 ⟨x,H1,I1,r1,q1⟩=>?_);obtain⟨c,rfl,q1⟩:=q1;cases r1;refine dR ?_;cases c with
 |true=>exact hb pins s1 σ H1 Q I1 q1
 |false=>exact⟨.bl false,H1,I1,rfl,q1⟩
theorem VN(ha:PE X a ta):PE X (.UnaryOp .Not a pos) (LO ta):=by
 intro pins s σ H Q I h;refine UnaryOp_ (br (ha pins s σ H _ I h) fun v s1 ⟨x,H1,I1,r1,q1⟩=>?_);obtain⟨c,rfl,q1⟩:=q1;cases r1;exact not_of (dR ⟨.bl (!c),H1,I1,rfl,q1⟩)
end
end L2
namespace L2
open PySem PySem.Spec PyProof.Rows
def ff(K:PySem.W.Frag)(H:Hp)(a:ε)(xs:List V):Prop:=
 Rd H a (.lst xs) ∨
  ∃(o:aA) (its:Array Value) (n:Nat),K.lookup a=some o/\o.cls=.type "list"/\o.dict=none/\o.data=.seq its n/\its.size≤ai/\aS xs its.toList
def bZ(K:PySem.W.Frag)(H:Hp)(a:ε)(xs:List V):Prop:=
 Rd H a (.tup xs) ∨
  ∃(o:aA) (its:Array Value) (n:Nat),K.lookup a=some o/\o.cls=.type "tuple"/\o.dict=none/\o.data=.seq its n/\its.size≤ai/\aS xs its.toList
def ZN:Value->Option V
 |.none=>some .az
 |.bool b=>some (.bl b)
 |.int i _=>some (.int i)
 |.str x _=>some (.str x)
 |.bytes b _=>some (.Cb b)
 |.float b _=>some (.Lj b)
 |.ref a=>some (.ref a)
 |.type n=>some (.ty n)
 |_=>none
theorem RelV.abs{x:V}{u:Value}(r:RelV x u):ZN u=some x:=by
 cases x with
 |az=>cases r;rfl
 |bl _=>cases r;rfl
 |int _=>obtain⟨t,rfl⟩:=r;rfl
 |str _=>obtain⟨t,rfl⟩:=r;rfl
 |Cb _=>obtain⟨t,rfl⟩:=r;rfl
 |Lj _=>obtain⟨t,rfl⟩:=r;rfl
 |ref _=>cases r;rfl
 |ty _=>cases r;rfl
theorem RelV.inj{x y:V}{u:Value}(r:RelV x u)(q:RelV y u):x=y:=ao (r.abs.symm.trans q.abs)
theorem aS.inj:∀{xs ys:List V} {us:List Value},aS xs us->aS ys us->xs=ys
 |_,_,_,.nil,.nil=>rfl
 |_,_,_,.cons r t,.cons r' t'=>by rw[r.inj r',aS.inj t t']
section
variable {X:Cx} {pins:List (ε×aA)} {σ:St} {H:Hp} {s:ζ} {a:ε} {xs ys:List V}
theorem ff.of{K:PySem.W.Frag}(h:H a=some (.lst xs)):ff K H a xs:=.inl (.inl h)
theorem bZ.of{K:PySem.W.Frag}(h:H a=some (.tup xs)):bZ K H a xs:=.inl (.inl h)
theorem Inv.list(I:Inv X pins σ H s)(h:ff X.K H a xs):∃its:List Value,aS xs its/\PlainL s.heap a its.toArray/\xs.length≤ai:=by
 rcases h with h|⟨o,its,n,hk,hc,hd,hs,hz,r⟩
 ·obtain⟨z,its,n,r,e⟩:=h.ok I.bf;exact⟨its,r,⟨_,n,e,rfl,rfl,rfl⟩,z⟩
 ·refine⟨its.toList,r,⟨o,n,I.fC a o hk,hc,hd,by simpa using hs⟩,?_⟩;have e:=r.length;simp only[bG] at e;lia
theorem Inv.tuple(I:Inv X pins σ H s)(h:bZ X.K H a xs):∃its:List Value,aS xs its/\iW s.heap a its.toArray/\xs.length≤ai:=by
 rcases h with h|⟨o,its,n,hk,hc,_,hs,hz,r⟩
 ·obtain⟨z,its,r,p⟩:=h.ok I.bf;exact⟨its,r,p.tup,z⟩
 ·refine⟨its.toList,r,⟨o,I.fC a o hk,hc,n,by simpa using hs⟩,?_⟩;have e:=r.length;simp only[bG] at e;lia
theorem Inv.x9(I:Inv X pins σ H s)(h:ff X.K H a xs)(h':ff X.K H a ys):xs=ys:=by
 obtain⟨its,r,⟨o,n,e,_,_,d⟩,_⟩:=I.list h;obtain⟨its',r',⟨o',n',e',_,_,d'⟩,_⟩:=I.list h';rw[e] at e';cases e';rw[d] at d';injection d' with d1 _
 have:its=its':=by simpa using congrArg oz d1
 subst this;exact r.inj r'
theorem Inv.sd(I:Inv X pins σ H s)(h:bZ X.K H a xs)(h':bZ X.K H a ys):xs=ys:=by
 obtain⟨its,r,⟨o,e,_,n,d⟩,_⟩:=I.tuple h;obtain⟨its',r',⟨o',e',_,n',d'⟩,_⟩:=I.tuple h';rw[e] at e';cases e';rw[d] at d';injection d' with d1 _
 have:its=its':=by simpa using congrArg oz d1
 subst this;exact r.inj r'
end
abbrev Cx.nF(X:Cx)(E:Value->ζ->Prop):Cx:={ X with xe:=E }
abbrev Cx.ly(X:Cx):Cx:=X.nF fun _ _=>False
theorem Cx.Ok.nF{X:Cx}(ok:X.Ok)(E:Value->ζ->Prop):(X.nF E).Ok:=
 ⟨ok.mod,ok.kind,ok.glob,ok.blt,ok.above,ok.inj,ok.has,ok.yJ,ok.hd,ok.frames,ok.yB,ok.B9,ok.bs,ok.oP,ok.uE,ok.vU,ok.kg,ok.vc⟩
theorem Cx.Ok.jT{X:Cx}{E:Value->ζ->Prop}(ok:(X.nF E).Ok):X.Ok:=
 ⟨ok.mod,ok.kind,ok.glob,ok.blt,ok.above,ok.inj,ok.has,ok.yJ,ok.hd,ok.frames,ok.yB,ok.B9,ok.bs,ok.oP,ok.uE,ok.vU,ok.kg,ok.vc⟩
section
variable {X:Cx} {pins:List (ε×aA)} {σ:St} {H:Hp} {s:ζ} {E:Value->ζ->Prop}
theorem Inv.nF(I:Inv X pins σ H s)(E:Value->ζ->Prop):Inv (X.nF E) pins σ H s:=⟨I.ok.nF E,I.os,I.bare,I.base,I.loc,I.cell,I.free,I.jA,I.pin,I.bf,I.len⟩
theorem Inv.jT(I:Inv (X.nF E) pins σ H s):Inv X pins σ H s:=⟨I.ok.jT,I.os,I.bare,I.base,I.loc,I.cell,I.free,I.jA,I.pin,I.bf,I.len⟩
theorem SP.jT{D:Ends}{f:Flow}{s':ζ}(h:SP (X.nF E) pins D f s'):SP X pins D f s':=by
 cases f with
 |next=>obtain⟨σ',H',I,q⟩:=h;exact⟨σ',H',I.jT,q⟩
 |brk=>obtain⟨σ',H',I,q⟩:=h;exact⟨σ',H',I.jT,q⟩
 |cont=>obtain⟨σ',H',I,q⟩:=h;exact⟨σ',H',I.jT,q⟩
 |ret u=>obtain⟨v,σ',H',I,r,q⟩:=h;exact⟨v,σ',H',I.jT,r,q⟩
theorem kS.ly{st:List aB}{t:TS}(h:kS X.ly st t):kS X st t:=fun pins s σ H D I hw=>
 cp (h pins s σ H D (I.nF _) hw) (fun _ _ q=>q.jT) fun _ _ z=>bo z
end
section
variable {X:Cx} {st:aB} {rest:List aB} {t u:TS} {e:ο} {te:TE} {pos:ay}
def LP:TS:=fun D σ H=>D.nx σ H
def M9(t u:TS):TS:=fun D σ H=>t { D with nx:=u D } σ H
theorem Wd:kS X [] LP:=fun _ _ σ H _ I h=>eU ⟨σ,H,I,h⟩
theorem Wc(h1:PS X st t)(h2:kS X rest u):kS X (st::rest) (M9 t u):=by
 intro pins s σ H D I h;refine ik (br (h1 pins s σ H { D with nx:=u D } I h) fun f s1 q=>?_);cases f with
 |next=>
  obtain⟨σ',H',I',q⟩:=q;exact h2 pins s1 σ' H' D I' q
 |ret v=>exact q
 |brk=>exact q
 |cont=>exact q
theorem Wb(h1:PS X st t):kS X [st] t:=by
 intro pins s σ H D I h;refine ik (br (h1 pins s σ H D I h) fun f s1 q=>?_);cases f with
 |next=>exact eU q
 |ret v=>exact q
 |brk=>exact q
 |cont=>exact q
theorem Inv.quiet{pins:List (ε×aA)}{σ:St}{H:Hp}{s:ζ}(I:Inv X pins σ H s):interactive X.env=false:=by simp[interactive,I.ok.kind]
def LQ(te:TE):TS:=fun D σ H=>te σ H fun _ H1=>D.nx σ H1
theorem Wa(he:PE X e te)(hs:swapsWith e none pos.line X.env=pure false:=by rfl):PS X (.Expr e pos) (LQ te):=by
 intro pins s σ H D I h;exact wpAny_Expr_any (br (he pins s σ H _ I h) fun v s1 ⟨x,H1,I1,r1,q1⟩=>⟨σ,H1,I1,q1⟩) I.quiet hs
def Nb(te:TE):TS:=fun D σ H=>te σ H D.rt
theorem V9(he:PE X e te):PS X (.Return (some e) pos) (Nb te):=by
 intro pins s σ H D I h;exact wpAny_Return_some (br (he pins s σ H _ I h) fun v s1 ⟨x,H1,I1,r1,q1⟩=>⟨x,σ,H1,I1,r1,q1⟩)
def Nf(c:TT)(t u:TS):TS:=fun D σ H=>c σ H fun b H1=>if b=true then t D σ H1 else u D σ H1
theorem V8{c:ο}{a b:List aB}{tc:TT}(hc:PT X c tc)(ha:kS X a t)(hb:kS X b u):PS X (.If c a b pos) (Nf tc t u):=by
 intro pins s σ H D I h;refine wpAny_If (br (hc pins s σ H _ I h) fun d s1 ⟨H1,I1,q1⟩=>?_);cases d with
 |true=>exact ha pins s1 σ H1 D I1 q1
 |false=>exact hb pins s1 σ H1 D I1 q1
end
abbrev TG:=V->St->Hp->(St->Hp->Prop)->Prop
abbrev uc:=List V->St->Hp->(St->Hp->Prop)->Prop
def PG(X:Cx)(target:ο)(t:TG):Prop:=
 ∀(pins:List (ε×aA)) (s:ζ) (σ:St) (H:Hp) (v:V) (u:Value) (Q:St->Hp->Prop),Inv X pins σ H s->RelV v u->t v σ H Q ->
  μ (model X.prog X.w) X.A (assign target X.env u) (fun _ s'=>∃σ' H',Inv X pins σ' H' s'/\Q σ' H') X.xe s
def wg(X:Cx)(ts:List ο)(t:uc):Prop:=
 ∀(pins:List (ε×aA)) (s:ζ) (σ:St) (H:Hp) (vs:List V) (us:List Value) (Q:St->Hp->Prop),Inv X pins σ H s->aS vs us->t vs σ H Q ->
  μ (model X.prog X.w) X.A (assignInOrder ((assignEach ts X.env).map (·.2)) us) (fun _ s'=>∃σ' H',Inv X pins σ' H' s'/\Q σ' H') X.xe s
abbrev ym:=V->V->V->Hp->(Hp->Prop)->Prop
def Es(X:Cx)(t:ym):Prop:=
 ∀(pins:List (ε×aA)) (s:ζ) (σ:St) (H:Hp) (o i v:V) (ov iv u:Value) (Q:Hp->Prop),Inv X pins σ H s->RelV o ov->RelV i iv->RelV v u->t o i v H Q ->
  μ (model X.prog X.w) X.A (setItem ov iv u) (fun _ s'=>∃H',Inv X pins σ H' s'/\Q H') X.xe s
abbrev E7:=V->V->Hp->VK->Prop
def M0(X:Cx)(op:rB)(t:E7):Prop:=
 ∀(pins:List (ε×aA)) (s:ζ) (σ:St) (H:Hp) (x y:V) (v u:Value) (Q:VK),Inv X pins σ H s->RelV x v->RelV y u->t x y H Q ->
  μ (model X.prog X.w) X.A (inplaceOp op v u) (EP X pins σ Q) X.xe s
section
variable {X:Cx} {pos:ay}
def Aw(i:Nat):TG:=fun v σ H Q=>Q (σ.set i (some v)) H
theorem V7{i:Nat}{x:ι}(hN:X.N.Nodup)(hi:X.N[i]?=some x)(hx:Loc X.env.scope x)(hf:X.fn x=true∨X.env.scope.names.lookup x=some .local:=by first|exact .inl rfl|exact .inr rfl|assumption):PG X (.Name x pos) (Aw i):=by
 intro pins s σ H v u Q I r h;exact wpAny_assign_Name (vP I hN hi hx r (fun s' I'=>⟨_,H,I',h⟩) hf)
def Zv:uc:=fun vs σ H Q=>vs=[]/\Q σ H
def Mr(t:TG)(u:uc):uc:=fun vs σ H Q=>∃v r,vs=v::r/\t v σ H fun σ' H'=>u r σ' H' Q
theorem V6:wg X [] Zv:=by
 intro pins s σ H vs us Q I r h;obtain⟨e,h⟩:=h;subst e;cases r;exact mP ⟨σ,H,I,h⟩
theorem V5{e:ο}{es:List ο}{t:TG}{u:uc}(h1:PG X e t)(h2:wg X es u)
  (hs:(assignEach (e::es) X.env).map (·.2)=assign e X.env::(assignEach es X.env).map (·.2):=by rfl):wg X (e::es) (Mr t u):=by
 intro pins s σ H vs us Q I r h;obtain⟨v,vr,e1,h⟩:=h;subst e1;cases r with
 |cons r rr=>
  rw[hs];refine gC (br (h1 pins s σ H _ _ _ I r h) fun _ s1 ⟨σ1,H1,I1,q1⟩=>?_);exact h2 pins s1 σ1 H1 _ _ Q I1 rr q1
def Lg(K:PySem.W.Frag)(n:Nat)(t:uc):TG:=fun v σ H Q=>∃a xs,v=.ref a/\bZ K H a xs/\xs.length=n/\t xs σ H Q
theorem V4{es:List ο}{k:Nat}{t:uc}{n:Nat}(hc:X.calm=true)(h:wg X es t)
  (hn:(assignEach es X.env).length=n:=by rfl) (hst:(assignEach es X.env).findIdx? (·.1)=none:=by rfl):PG X (.Tuple es k pos) (Lg X.K n t):=by
 intro pins s σ H v u Q I r hw;obtain⟨a,xs,e1,hq,hl,hw⟩:=hw;subst e1;cases r;obtain⟨its,rv,ht,hz⟩:=I.tuple hq;refine assign_Tuple_tuple (I.ok.hd hc) ht (by simp[hn,←hl,rv.length]) hst fun h' hx=>?_;have I1:Inv X pins σ H { s with heap:=h' }:=I.kept (t':=s.toks) fun b o e=>hx b o (av (χ e)) e
 exact h pins _ σ H xs _ Q I1 (by simpa using rv) hw
def Zu(to ti:TE)(t:ym):TG:=fun v σ H Q=>to σ H fun o H1=>ti σ H1 fun i H2=>t o i v H2 fun H3=>Q σ H3
theorem VB{o i:ο}{to ti:TE}{t:ym}(ho:PE X o to)(hi:PE X i ti)(hs:Es X t)
  (ha:∀v,assign (.Subscript o i pos) X.env v=(do
   let ov ←holding [v] (eval o X.env)
   let iv ←holding [v,ov] (eval i X.env)
   standAt pos
   holding [v,ov,iv] (setItem ov iv v)
   release [v,ov,iv] []):=by intro _;rfl):PG X (.Subscript o i pos) (Zu to ti t):=by
 intro pins s σ H v u Q I r h
 rw[ha]
 refine δ (aZ (br (ho pins s σ H _ I h) fun ov s1 ⟨x,H1,I1,r1,q1⟩=>?_))
 refine δ (aZ (br (hi pins s1 σ H1 _ I1 q1) fun iv s2 ⟨y,H2,I2,r2,q2⟩=>?_))
 refine δ (fH (δ (aZ (br (hs pins s2 σ H2 x y v ov iv u _ I2 r1 r2 r q2) fun _ s3 ⟨H3,I3,q3⟩=>?_))))
 exact wpAny_release ⟨σ,H3,I3,q3⟩
def Co(te:TE)(g:TG):TS:=fun D σ H=>te σ H fun x H1=>g x σ H1 D.nx
theorem VA{tg e:ο}{te:TE}{g:TG}(he:PE X e te)(hg:PG X tg g)(hs:swapsWithSole [tg] e pos.line X.env=pure false:=by rfl)(hw:swappedStores [tg] e X.env=pure none:=by rfl)
  (h1:(assignEach [tg] X.env).map (·.2)=[assign tg X.env]:=by rfl):PS X (.Assign [tg] e pos) (Co te g):=by
 intro pins s σ H D I h;refine wpAny_Assign_stores (br (he pins s σ H _ I h) fun v s1 ⟨x,H1,I1,r1,q1⟩=>?_) hs hw;rw[h1];exact br (hg pins s1 σ H1 x v _ I1 r1 q1) fun _ s2 q=>q
theorem Vz{i:Nat}{x:ι}{e:ο}{te:TE}{pos':ay}(hN:X.N.Nodup)(hi:X.N[i]?=some x)(hx:Loc X.env.scope x)(he:PE X e te)(hs:swapsWith e (some (.Name x pos')) pos.line X.env=pure false:=by rfl)(hf:X.fn x=true∨X.env.scope.names.lookup x=some .local:=by first|exact .inl rfl|exact .inr rfl|assumption):
  PS X (.Assign [.Name x pos'] e pos) (Co te (Aw i)):=by
 intro pins s σ H D I h;refine wpAny_Assign_Name (br (he pins s σ H _ I h) fun v s1 ⟨y,H1,I1,r1,q1⟩=>?_) hs;exact vP I1 hN hi hx r1 (fun s2 I2=>⟨_,H1,I2,q1⟩) hf
def Cn(i j:Nat)(ta:TA):TS:=fun D σ H=>ta σ H fun vs H1=>∃v w,vs=[v,w]/\D.nx ((σ.set i (some v)).set j (some w)) H1
theorem Vy{i j:Nat}{x y:ι}{a b:ο}{ta:TA}{px py pt:ay}{kt k2 pt2}(hc:X.calm=true)(hN:X.N.Nodup)(hi:X.N[i]?=some x)(hj:X.N[j]?=some y)(hij:i≠j)
  (hx:X.env.scope.names.lookup x=some .local) (hy:X.env.scope.names.lookup y=some .local) (ha:PA X [a,b] ta)
  (hw:swappedStores [.Tuple [.Name x px,.Name y py] kt pt] (.Tuple [a,b] k2 pt2) X.env=pure (some [x,y]))
  (hs:swapsWithSole [.Tuple [.Name x px,.Name y py] kt pt] (.Tuple [a,b] k2 pt2) pos.line X.env=pure false:=by rfl):
  PS X (.Assign [.Tuple [.Name x px,.Name y py] kt pt] (.Tuple [a,b] k2 pt2) pos) (Cn i j ta):=by
 intro pins s σ H D I h;rw[exec_Assign_arm];refine δ (fH ?_);rw[hs];refine δ (θ ?_);rw[if_neg (by decide)];refine δ (Tuple_ (br (ha _ pins s σ H _ I h) fun us s1 ⟨vs,H1,I1,r1,q1⟩=>?_));obtain⟨v,w,e1,q1⟩:=q1;subst e1;obtain⟨u1,u2,rfl,rv,rw'⟩:∃u1 u2,us=[u1,u2]/\RelV v u1/\RelV w u2:=by
  cases r1 with
  |cons p q=>
   cases q with
   |cons p' q'=>
    cases q';exact⟨_,_,rfl,p,p'⟩
 refine aR ?_ (by show 2≤ai;decide);have I2:Inv X pins σ H1 { s1 with heap:=s1.heap.push { cls:=.type "tuple",data:=.seq [u1,u2].toArray }}:=I1.kept (t':=s1.toks) fun b o e=>η _ e;rw[hw];refine δ (θ ?_);show μ (model X.prog X.w) X.A (do rule "assign.swapped-stores";let items ←unpackItems (.ref s1.heap.objs.size) 2 none;assignInOrder [fun v=>bindName X.env y v,fun v=>bindName X.env x v] items.reverse;pure tz) _ _ _
 refine δ (fU (δ (unpackItems_tuple (items:=#[u1,u2]) (I.ok.hd hc) (iW.new s1.heap _) fun h' hx'=>?_)));have I3:=I2.kept (h':=h') (t':=s1.toks) fun b o e=>hx' b o (av (χ e)) e;show μ _ _ (assignInOrder [fun v=>bindName X.env y v,fun v=>bindName X.env x v] [u2,u1] >>= fun _=>pure tz) _ _ _;refine δ (gC (lM (vP I3 hN hj (.inl hy) rw' (fun s2 I4=>?_) (.inr hy))));refine gC (lM (vP I4 hN hi (.inl hx) rv (fun s3 I5=>mP (θ ?_)) (.inr hx)));rw[List.set_comm _ _ (da hij)] at I5;exact⟨_,H1,I5,q1⟩
def LR(to ti te:TE)(tget:V->V->Hp->VK->Prop)(tip:E7)(tset:ym):TS:=fun D σ H=>to σ H fun o H1=>ti σ H1 fun i H2=>tget o i H2 fun x H3=>te σ H3 fun y H4=>tip x y H4 fun z H5=>tset o i z H5 fun H6=>D.nx σ H6
def Ly(X:Cx)(t:V->V->Hp->VK->Prop):Prop:=
 ∀(pins:List (ε×aA)) (s:ζ) (σ:St) (H:Hp) (o i:V) (ov iv:Value) (Q:VK),Inv X pins σ H s->RelV o ov->RelV i iv->t o i H Q ->
  μ (model X.prog X.w) X.A (getItem ov iv) (EP X pins σ Q) X.xe s
theorem Vx{o i e:ο}{to ti te:TE}{tget:V->V->Hp->VK->Prop}{tip:E7}{tset:ym}{op:rB}{tpos:ay}(ho:PE X o to)(hi:PE X i ti)(hg:Ly X tget)(he:PE X e te)(hp:M0 X op tip)(hs:Es X tset)
  (ha:∀ov iv new,augStore i ov iv new=(do holding [new,ov,iv] (setItem ov iv new);release [new,ov,iv] [];pure .next):=by intros;rfl):PS X (.AugAssign (.Subscript o i tpos) op e pos) (LR to ti te tget tip tset):=by
 intro pins s σ H D I h;refine wpAny_AugAssign_SubscriptAny (br (ho pins s σ H _ I h) fun ov s1 ⟨x1,H1,I1,r1,q1⟩=>?_) ha;refine br (hi pins s1 σ H1 _ I1 q1) fun iv s2 ⟨x2,H2,I2,r2,q2⟩=>?_;refine br (hg pins s2 σ H2 x1 x2 ov iv _ I2 r1 r2 q2) fun old s3 ⟨x3,H3,I3,r3,q3⟩=>?_;refine br (he pins s3 σ H3 _ I3 q3) fun v s4 ⟨x4,H4,I4,r4,q4⟩=>?_;refine br (hp pins s4 σ H4 x3 x4 old v _ I4 r3 r4 q4) fun new s5 ⟨x5,H5,I5,r5,q5⟩=>?_;exact br (hs pins s5 σ H5 x1 x2 x5 ov iv new _ I5 r1 r2 r5 q5) fun _ s6 ⟨H6,I6,q6⟩=>⟨σ,H6,I6,q6⟩
def ZX(f:Int->Int->Int):E7:=fun x y H Q=>∃i j,x=.int i/\y=.int j/\Q (.int (f i j)) H
theorem Vw:M0 X .Add (ZX fun i j=>i+j):=by
 intro pins s σ H x y v u Q I r1 r2 h;obtain⟨i,j,e1,e2,q⟩:=h;subst e1;subst e2;obtain⟨t,rfl⟩:=r1;obtain⟨t',rfl⟩:=r2;exact iadd_int ⟨.int _,H,I.tok _,⟨_,rfl⟩,q⟩
end
section
variable {X:Cx} {pos:ay}
def FP(c:TT)(tb:TS):TS:=fun D σ H=>∃W:Nat->St->Hp->Prop,(∃m,W m σ H)/\∀m σ H,W m σ H ->
 c σ H fun b H1=>if b=true then ∃N:St->Hp->Prop,(∀σ' H',N σ' H'->∃m',m' < m/\W m' σ' H')/\tb { D with nx:=N,ct:=N,bk:=D.nx } σ H1 else D.nx σ H1
theorem Vv{c:ο}{body:List aB}{tc:TT}{tb:TS}(hp:gD (model X.prog X.w) X.A X.env X.xe)(hc:PT X c tc)(hb:kS X body tb):PS X (.While c body [] pos) (FP tc tb):=by
 intro pins s σ H D I h;obtain⟨W,⟨m0,w0⟩,turn⟩:=h;refine wpAny_While (codeAny_whileLoop (fun n s'=>∃σ' H',Inv X pins σ' H' s'/\W n σ' H') ?_ m0 ⟨σ,H,I,w0⟩);rintro n s1 ⟨σ1,H1,I1,w1⟩;refine cP hp (br (hc pins s1 σ1 H1 _ I1 (turn n σ1 H1 w1)) fun b s2 ⟨H2,I2,q2⟩=>?_);cases b with
 |true=>
  obtain⟨N,hN,q2⟩:=q2;rw[if_pos rfl];refine cP hp (br (hb pins s2 σ1 H2 _ I2 q2) fun f s3 q3=>?_);cases f with
  |next=>
   obtain⟨σ3,H3,I3,n3⟩:=q3;obtain⟨m',hm,w3⟩:=hN σ3 H3 n3;exact⟨m',hm,σ3,H3,I3,w3⟩
  |cont=>
   obtain⟨σ3,H3,I3,n3⟩:=q3;obtain⟨m',hm,w3⟩:=hN σ3 H3 n3;exact⟨m',hm,σ3,H3,I3,w3⟩
  |brk=>exact q3
  |ret v=>exact q3
 |false=>
  rw[if_neg ak];exact eU ⟨σ1,H2,I2,q2⟩
end
structure It where
 go:Nat->Hp->Prop
 BJ:Nat->Hp->V->Hp->Prop
 stop:Nat->Hp->Prop
def jj(X:Cx)(pins:List (ε×aA))(H:Hp)(b:ε):Prop:=
 H b=none/\b≠X.env.locals/\b∉X.fs/\(b∈X.ex∨X.s₀.heap.objs.size≤b)/\(∀x c,X.env.cells.lookup x=some c->c≠b)/\∀p∈X.pn++pins,p.1≠b
theorem Inv.pR{X:Cx}{pins:List (ε×aA)}{σ:St}{H H':Hp}{s:ζ}{b:ε}(I:Inv X pins σ H s)(hb:s.heap.objs.size≤b)(hn:H' b=none):jj X pins H' b:=by
 refine⟨hn,fx (ba I.lt hb),I.Ze hb,.inr (aG I.sz hb),fun x c e z=>?_,fun p hp z=>?_⟩
 ·obtain⟨v,q⟩:=I.cell x c e;exact absurd (ba q.lt (by rw[z];exact hb)) (cf _)
 ·exact absurd (ba (χ (I.pin p hp).1) (by rw[z];exact hb)) (cf _)
structure Turn(P:Ψ)(w:af)(K:PySem.W.Frag)(tg:ο)(J:It)(fp:List ε)(it:ε)(tn:Nat->Ξ->Prop):Prop where
 mem:it∈fp
 obj:∀i h,tn i h->∀b∈fp,∃o,h.get? b=some o/\∀v,o.data≠.cell v
 keep:∀i h h',tn i h->(∀b∈fp,∀o,h.get? b=some o->h'.get? b=some o)->tn i h'
 item:∀(X:Cx),X.prog=P->X.w=w->X.K=K->X.calm=true->∀(i:Nat) (pins:List (ε×aA)) (s:ζ) (σ:St) (H:Hp) (E:Value->ζ->Prop),Inv X pins σ H s->(∀b∈fp,jj X pins H b)->tn i s.heap->J.go i H ->
  μ (model P w) X.A (pyNext (.ref it)) (fun r s1=>∃u,r=some u ∧
   μ (model P w) X.A (letOwnedTupleGo tg (.ref it) u) (fun _ s2=>∃x H',Inv X pins σ H' s2/\RelV x u/\J.BJ i H x H'/\tn (i+1) s2.heap/\∀b∈fp,H' b=none) E s1) E s
 done:∀(X:Cx),X.prog=P->X.w=w->X.K=K->X.calm=true->∀(i:Nat) (pins:List (ε×aA)) (s:ζ) (σ:St) (H:Hp) (E:Value->ζ->Prop),Inv X pins σ H s->(∀b∈fp,jj X pins H b)->tn i s.heap->J.stop i H ->
  μ (model P w) X.A (pyNext (.ref it)) (fun r s1=>r=none/\Inv X pins σ H s1) E s
 self:∀(A:aq) (i:Nat) (s:ζ) (Q:Value->ζ->Prop) (E:Value->ζ->Prop),tn i s.heap->Q (.ref it) s->μ (model P w) A (pyIter (.ref it)) Q E s
abbrev TI:=St->Hp->(It->Hp->Prop)->Prop
def E9(X:Cx)(pins:List (ε×aA))(σ:St)(tg:ο)(R:It->Hp->Prop)(itv:Value)(s2:ζ):Prop:=
 ∃(it:ε) (fp:List ε) (tn:Nat->Ξ->Prop) (J:It) (H':Hp),itv=.ref it/\Inv X pins σ H' s2/\Turn X.prog X.w X.K tg J fp it tn/\tn 0 s2.heap/\(∀b∈fp,jj X pins H' b)/\R J H'
def PI(X:Cx)(tg iter:ο)(wi:TI):Prop:=
 ∀(pins:List (ε×aA)) (s:ζ) (σ:St) (H:Hp) (R:It->Hp->Prop),Inv X pins σ H s->wi σ H R ->
  μ (model X.prog X.w) X.A (eval iter X.env) (fun v s1=>μ (model X.prog X.w) X.A (pyIter v) (E9 X pins σ tg R) X.xe s1) X.xe s
theorem xK{M:Model}{A:aq}{E:Value->ζ->Prop}{s:ζ}{tg:ο}{it:ε}{u:Value}{o:aA}{n:String}{vs:Array Value}{Q:Unit->ζ->Prop}(ho:s.heap.get? it=some o)(hc:o.cls=.type n)(hd:o.data=.fields vs)
    (hn:["enumerate","zip","dict_itemiterator","dict_reverseitemiterator","odict_iterator","itertools.zip_longest","itertools.pairwise"].contains n=false) (hQ:Q () s):μ M A (letOwnedTupleGo tg (.ref it) u) Q E s:=by
  unfold letOwnedTupleGo;cases tg<;>first
    |exact θ hQ
    | (cases u<;>first
        |exact θ hQ
        | (refine δ (wpAny_load ho ?_)
           rw[hc,hd];show μ M A (if (["enumerate","zip","dict_itemiterator","dict_reverseitemiterator","odict_iterator","itertools.zip_longest","itertools.pairwise"].contains n&&vs[0]?==some (rawInt _))=true then _ else _) Q E s;rw[if_neg (by intro h;rw[hn,Bool.false_and] at h;cases h)];exact θ hQ))
def M4(K:PySem.W.Frag)(a:ε):It:=
 ⟨fun i H=>∃xs x,ff K H a xs/\xs[i]?=some x,fun i H x H'=>H'=H/\∀xs,ff K H a xs->xs[i]?=some x,fun i H=>∃xs,ff K H a xs/\xs.length≤i⟩
def Ci(K:PySem.W.Frag)(a:ε):It:=
 ⟨fun i H=>∃xs x,bZ K H a xs/\xs[i]?=some x,fun i H x H'=>H'=H/\∀xs,bZ K H a xs->xs[i]?=some x,fun i H=>∃xs,bZ K H a xs/\xs.length≤i⟩
def Fb(lo:Int)(n:Nat):It:=⟨fun i _=>i<n,fun i H x H'=>H'=H/\x=.int (lo+i),fun i _=>n≤i⟩
theorem Vu{P:Ψ}{w:af}{K:PySem.W.Frag}{tg:ο}(a it:ε):Turn P w K tg (M4 K a) [it] it (fun i h=>h.IsListIter it a i) where
 mem:=by simp
 obj:=fun i h st b hb=>by
  have e:b=it:=by simpa using hb
  subst e;obtain⟨o,e,c,d⟩:=st;exact⟨o,e,fun v z=>by rw[d] at z;cases z⟩
 keep:=fun i h h' st k=>st.at fun o e=>k it (by simp) o e
 item:=by
  intro X hP hw hK hc i pins s σ H E I hf st hg;subst hP hw hK;obtain⟨xs,x,hq,hx⟩:=hg;obtain⟨its,rv,p,hz⟩:=I.list hq;obtain⟨u,hu,ru⟩:=rv.get hx;obtain⟨f0,f1,f2,f3,f4,f5⟩:=hf it (by simp);refine wpAny_pyNext_list_item st p.isList (x:=u) (by simpa using hu) fun h' st' sb=>?_;have I1:Inv X pins σ H { s with heap:=h' }:=I.turned (t':=s.toks) (fun b o hb e=>(sb.2 b hb).trans e) f0 f1 f3 f4 f5;obtain⟨o,e,c,d⟩:=id st';exact⟨u,rfl,xK (s:={ s with heap:=h' }) e c d (by decide) ⟨x,H,I1,ru,⟨rfl,fun ys hy=>by rw[I.x9 hy hq];exact hx⟩,st',fun b hb=>(hf b hb).1⟩⟩
 done:=by
  intro X hP hw hK hc i pins s σ H E I hf st hg;subst hP hw hK;obtain⟨xs,hq,hx⟩:=hg;obtain⟨its,rv,p,hz⟩:=I.list hq;obtain⟨f0,f1,f2,f3,f4,f5⟩:=hf it (by simp);have hl:=rv.length;exact wpAny_pyNext_list_end (I.ok.hd hc) st p.isList (by simp;lia) fun h' eb=>⟨rfl,I.turned (t':=s.toks) (fun b o hb e=>eb b o hb e) f0 f1 f3 f4 f5⟩
 self:=fun _ _ _ _ _ st h=>wpAny_pyIter_listiter st h
theorem Vt{P:Ψ}{w:af}{K:PySem.W.Frag}{tg:ο}(a it:ε):Turn P w K tg (Ci K a) [it] it (fun i h=>h.IsTupleIter it a i) where
 mem:=by simp
 obj:=fun i h st b hb=>by
  have e:b=it:=by simpa using hb
  subst e;obtain⟨o,e,c,d⟩:=st;exact⟨o,e,fun v z=>by rw[d] at z;cases z⟩
 keep:=fun i h h' st k=>st.at fun o e=>k it (by simp) o e
 item:=by
  intro X hP hw hK hc i pins s σ H E I hf st hg;subst hP hw hK;obtain⟨xs,x,hq,hx⟩:=hg;obtain⟨its,rv,p,hz⟩:=I.tuple hq;obtain⟨u,hu,ru⟩:=rv.get hx;obtain⟨f0,f1,f2,f3,f4,f5⟩:=hf it (by simp);refine oA st (show s.heap.IsTuple a its.toArray from p) (x:=u) (by simpa using hu) fun h' st' sb=>?_;have I1:Inv X pins σ H { s with heap:=h' }:=I.turned (t':=s.toks) (fun b o hb e=>(sb.2 b hb).trans e) f0 f1 f3 f4 f5;obtain⟨o,e,c,d⟩:=id st';exact⟨u,rfl,xK (s:={ s with heap:=h' }) e c d (by decide) ⟨x,H,I1,ru,⟨rfl,fun ys hy=>by rw[I.sd hy hq];exact hx⟩,st',fun b hb=>(hf b hb).1⟩⟩
 done:=by
  intro X hP hw hK hc i pins s σ H E I hf st hg;subst hP hw hK;obtain⟨xs,hq,hx⟩:=hg;obtain⟨its,rv,p,hz⟩:=I.tuple hq;obtain⟨f0,f1,f2,f3,f4,f5⟩:=hf it (by simp);have hl:=rv.length;exact wpAny_pyNext_tuple_end (I.ok.hd hc) st (show s.heap.IsTuple a its.toArray from p) (by simp;lia) fun h' eb=>⟨rfl,I.turned (t':=s.toks) (fun b o hb e=>eb b o hb e) f0 f1 f3 f4 f5⟩
 self:=fun _ _ _ _ _ st h=>wpAny_pyIter_tupleiter st h
theorem Vs{P:Ψ}{w:af}{K:PySem.W.Frag}{tg:ο}(it:ε)(lo:Int)(n:Nat):Turn P w K tg (Fb lo n) [it] it (fun i h=>pZ h it (lo+(i:Nat)*1) ((n:Int)-(i:Nat)) 1) where
 mem:=by simp
 obj:=fun i h st b hb=>by
  have e:b=it:=by simpa using hb
  subst e;exact⟨_,st,fun v z=>by
   have z':Data.fields _=Data.cell v:=z;cases z'⟩
 keep:=fun i h h' st k=>k it (by simp) _ st
 item:=by
  intro X hP hw hK hc i pins s σ H E I hf st hg;subst hP hw hK;obtain⟨f0,f1,f2,f3,f4,f5⟩:=hf it (by simp);have W:=Walks.range (prog:=X.prog) (w:=X.w) (I.ok.hd hc) it lo 1 n;refine W.item i s _ _ hg st fun v h' tk hv st' kk=>?_;obtain⟨t,rfl⟩:=hv;have I1:Inv X pins σ H { s with heap:=h',toks:=tk }:=I.turned (fun b o hb e=>kk b o (by simpa using hb) e) f0 f1 f3 f4 f5;refine⟨_,rfl,xK (s:={ s with heap:=h',toks:=tk }) (n:="range_iterator") st' rfl rfl (by decide) ⟨.int (lo+i),H,I1,⟨t,?_⟩,⟨rfl,rfl⟩,st',fun b hb=>(hf b hb).1⟩⟩;rw[uj]
 done:=by
  intro X hP hw hK hc i pins s σ H E I hf st hg;subst hP hw hK;obtain⟨f0,f1,f2,f3,f4,f5⟩:=hf it (by simp);exact wpAny_pyNext_range_end (I.ok.hd hc) st (by have:n≤i:=hg;lia) fun h' eb=>⟨rfl,I.turned (t':=s.toks) (fun b o hb e=>eb b o hb e) f0 f1 f3 f4 f5⟩
 self:=fun _ _ _ _ _ st h=>wpAny_pyIter_rangeiter st h
end L2
namespace L2
open PySem PySem.Spec PyProof.Rows
section
variable {X:Cx} {tg:ο}
def Zs(K:PySem.W.Frag)(tl:TE):TI:=fun σ H R=>tl σ H fun x H1=>∃a,x=.ref a/\(∃xs,bZ K H1 a xs)/\R (Ci K a) H1
theorem Vr{pins:List (ε×aA)}{σ:St}{H:Hp}{s:ζ}{R:It->Hp->Prop}{E:Value->ζ->Prop}{lo hi:Int}{t u v:dG}{tk:Nat}(I:Inv X pins σ H s)(h1:-(2^62)≤lo)(h2:lo<2^62)(h3:-(2^62)≤hi)(h4:hi<2^62)
  (q:R (Fb lo (hi-lo).toNat) H):μ (model X.prog X.w) X.A (pyIter (.ref s.heap.objs.size)) (E9 X pins σ tg R) E { s with heap:=s.heap.push { cls:=.type "range",data:=.fields #[.int lo t,.int hi u,.int 1 v]},toks:=tk }:=by
 refine wpAny_pyIter_range (ui ..) (small_one h1 h2 h3 h4) ?_;have I1:Inv X pins σ H { s with heap:=s.heap.push { cls:=.type "range",data:=.fields #[.int lo t,.int hi u,.int 1 v]},toks:=tk }:=I.kept fun b o e=>η _ e;refine⟨(s.heap.push { cls:=.type "range",data:=.fields #[.int lo t,.int hi u,.int 1 v]}).objs.size,[(s.heap.push { cls:=.type "range",data:=.fields #[.int lo t,.int hi u,.int 1 v]}).objs.size],_,_,H,rfl,
  I1.kept (t':=tk) fun b o e=>η _ e,Vs _ lo (hi-lo).toNat,?_,fun b hb=>?_,q⟩
 ·have e1:lo+((0:Nat):Int)*1=lo:=by simp
  have e2:(((hi-lo).toNat:Nat):Int)-((0:Nat):Int)=bD lo hi 1:=by rw[rangeSize_one];split<;>lia
  show pZ _ _ (lo+((0:Nat):Int)*1) ((((hi-lo).toNat:Nat):Int)-((0:Nat):Int)) 1;rw[e1,e2];exact ψ _ rfl
 ·have e:b=(s.heap.push { cls:=.type "range",data:=.fields #[.int lo t,.int hi u,.int 1 v]}).objs.size:=by simpa using hb
  subst e;exact I1.pR (Ω _) (I1.bf.fresh (Ω _))
def kN(ta:TA):TI:=fun σ H R=>ta σ H fun vs H1=>∃j:Int,vs=[.int j]/\-(2^62)≤j/\j<2^62/\R (Fb 0 j.toNat) H1
theorem Vq{a:ο}{ta:TA}{p pos:ay}(hg:Gl X "range")(hm:X.mg "range" = none)(ha:PA X [a] ta)(hs:bx [a] X.env=[(false,eval a X.env)]:=by rfl):PI X tg (.Call (.Name "range" p) [a] [] pos) (kN ta):=by
 intro pins s σ H R I h;refine Call_ (qN I hg hm rq (cG (br (ha pos pins s σ H _ I h) fun us s1 ⟨vs,H1,I1,r1,q1⟩=>?_) hs rfl));obtain⟨j,e,q1,q2,q⟩:=q1;subst e;cases r1 with
 |cons r rr=>
  cases rr;obtain⟨t,rfl⟩:=r;exact call_range_1 (Vr I1 (by lia) (by lia) q1 q2 (by simpa using q))
def FT(wi:TI)(g:TG)(tb:TS):TS:=fun D σ H=>wi σ H fun J H1=>∃W:Nat->Nat->St->Hp->Prop,(∃m,W 0 m σ H1)/\∀i m σ H,W i m σ H ->
 (J.stop i H/\D.nx σ H)∨(J.go i H/\∃N:St->Hp->Prop,(∀σ' H',N σ' H'->∃m',m' < m/\W (i+1) m' σ' H')/\∀x H',J.BJ i H x H'->g x σ H' fun σ2 H2=>tb { D with nx:=N,ct:=N,bk:=D.nx } σ2 H2)
def sA(fp:List ε)(h:Ξ):List (ε×aA):=fp.filterMap fun b=>(h.get? b).map fun o=>(b,o)
theorem zW{fp:List ε}{h:Ξ}{b:ε}{o:aA}(hb:b∈fp)(e:h.get? b=some o):(b,o)∈sA fp h:=ml.mpr ⟨b,hb,by rw[e];rfl⟩
theorem Vp{fp:List ε}{h:Ξ}{p:ε×aA}(hp:p∈sA fp h):p.1∈fp/\h.get? p.1=some p.2:=by
 obtain⟨b,hb,e⟩:=ml.mp hp;cases q:h.get? b with
 |none=>rw[q] at e;cases e
 |some o=>
  rw[q] at e;have e':(b,o)=p:=ao e;subst e';exact⟨hb,q⟩
theorem Inv.pinned{pins:List (ε×aA)}{σ:St}{H:Hp}{s:ζ}{fp:List ε}(I:Inv X pins σ H s)(hf:∀b∈fp,jj X pins H b)(ho:∀b∈fp,∃o,s.heap.get? b=some o/\∀v,o.data≠.cell v):Inv X (pins++sA fp s.heap) σ H s:=
 I.vQ fun p hp=>(bp.mp hp).elim (fun z=>I.pin p (aV _ z)) fun z=>by
  obtain⟨hb,e⟩:=Vp z;obtain⟨f0,f1,f2,_⟩:=hf p.1 hb;obtain⟨o,e',d⟩:=ho p.1 hb;rw[e] at e';cases e';exact⟨e,f0,f1,f2,d⟩
theorem Inv.kc{pins pl:List (ε×aA)}{σ:St}{H:Hp}{s:ζ}(I:Inv X (pins++pl) σ H s):Inv X pins σ H s:=I.vQ fun p hp=>I.pin p (aV _ (bT _ hp))
theorem Vo{iter:ο}{body:List aB}{wi:TI}{g:TG}{tb:TS}{pos:ay}(hp:gD (model X.prog X.w) X.A X.env X.xe)(hc:X.calm=true)(hi:PI X tg iter wi)(hg:PG X tg g)(hb:kS X body tb)
  (hs:∀x,foldedSetIterable iter X.env x=pure x:=by intro _;rfl):PS X (.For tg iter body [] pos) (FT wi g tb):=by
 intro pins s σ H D I h;refine wpAny_For (br (hi pins s σ H _ I h) fun v s1 h1=>br h1 fun itv s2 h2=>?_) hs;obtain⟨it,fp,tn,J,H2,e,I2,T,st2,f2,W,⟨m0,w0⟩,turn⟩:=h2;subst e
 -- what stays true of the iterator's objects through the loop
 have stat:∀{H':Hp},(∀b∈fp,H' b=none)->∀b∈fp,jj X pins H' b:=fun hn b hb=>⟨hn b hb,(f2 b hb).2⟩;refine codeAny_forLoop_any (fun n s'=>∃i σ' H',Inv X pins σ' H' s'/\tn i s'.heap/\(∀b∈fp,H' b=none)/\W i n σ' H') ?_ m0 ⟨0,σ,H2,I2,st2,fun b hb=>(f2 b hb).1,w0⟩;rintro n s3 ⟨i,σ3,H3,I3,st3,fr3,w3⟩;rcases turn i n σ3 H3 w3 with⟨stop,qn⟩|⟨go,N,hN,step⟩
 ·refine cP hp (br (T.done X rfl rfl rfl hc i pins s3 σ3 H3 X.xe I3 (stat fr3) st3 stop) fun r s4 ⟨hr,I4⟩=>?_);subst hr;exact eU ⟨σ3,H3,I4,qn⟩
 ·refine cP hp (br (T.item X rfl rfl rfl hc i pins s3 σ3 H3 X.xe I3 (stat fr3) st3 go) fun r s4 ⟨u,hr,h4⟩=>?_);subst hr;refine cP hp (br h4 fun _ s5 ⟨x,H5,I5,r5,y5,st5,fr5⟩=>?_);have I5':=I5.pinned (stat fr5) (T.obj _ _ st5);refine cP hp (br (hg _ s5 σ3 H5 x u _ I5' r5 (step x H5 y5)) fun _ s6 ⟨σ6,H6,I6,q6⟩=>?_);refine cP hp (br (hb _ s6 σ6 H6 _ I6 q6) fun f s7 q7=>?_);have again:∀{σ7:St} {H7:Hp},Inv X (pins++sA fp s5.heap) σ7 H7 s7->N σ7 H7->∃m,m<n/\∃i σ' H',Inv X pins σ' H' s7/\tn i s7.heap/\(∀b∈fp,H' b=none)/\W i m σ' H':=fun {σ7 H7} I7 n7=>by
   obtain⟨m',hm,w7⟩:=hN σ7 H7 n7;refine⟨m',hm,i+1,σ7,H7,I7.kc,T.keep _ _ _ st5 fun b hb o e=>(I7.pin (b,o) (aV _ (aV _ (zW hb e)))).1,fun b hb=>?_,w7⟩;obtain⟨o,e,d⟩:=T.obj _ _ st5 b hb;exact (I7.pin (b,o) (aV _ (aV _ (zW hb e)))).2.1
  cases f with
  |next=>obtain⟨σ7,H7,I7,n7⟩:=q7;exact again I7 n7
  |cont=>obtain⟨σ7,H7,I7,n7⟩:=q7;exact again I7 n7
  |brk=>obtain⟨σ7,H7,I7,q7⟩:=q7;exact⟨σ7,H7,I7.kc,q7⟩
  |ret v=>obtain⟨x7,σ7,H7,I7,r7,q7⟩:=q7;exact⟨x7,σ7,H7,I7.kc,r7,q7⟩
end
end L2
namespace L2
open PySem PySem.Spec PyProof.Rows
abbrev R2:=V->V->Hp->VK->Prop
def ed(X:Cx)(f:Value->Value->hX Value)(r:R2):Prop:=
 ∀(pins:List (ε×aA)) (s:ζ) (σ:St) (H:Hp) (x y:V) (v u:Value) (Q:VK),Inv X pins σ H s->RelV x v->RelV y u->r x y H Q ->
  μ (model X.prog X.w) X.A (f v u) (EP X pins σ Q) X.xe s
def Lv(X:Cx)(f:Value->hX Value)(r:V->Hp->VK->Prop):Prop:=
 ∀(pins:List (ε×aA)) (s:ζ) (σ:St) (H:Hp) (x:V) (v:Value) (Q:VK),Inv X pins σ H s->RelV x v->r x H Q ->
  μ (model X.prog X.w) X.A (f v) (EP X pins σ Q) X.xe s
def gB(X:Cx)(f:Value)(r:List V->Hp->VK->Prop):Prop:=
 ∀(pins:List (ε×aA)) (s:ζ) (σ:St) (H:Hp) (xs:List V) (us:List Value) (Q:VK),Inv X pins σ H s->aS xs us->r xs H Q ->
  μ (model X.prog X.w) X.A (call f us) (EP X pins σ Q) X.xe s
def ZO(X:Cx)(r:V->Hp->(Bool->Hp->Prop)->Prop):Prop:=
 ∀(pins:List (ε×aA)) (s:ζ) (σ:St) (H:Hp) (x:V) (v:Value) (Q:Bool->Hp->Prop),Inv X pins σ H s->RelV x v->r x H Q ->
  μ (model X.prog X.w) X.A (truthy v) (TP X pins σ Q) X.xe s
def BK(r:R2)(ta tb:TE):TE:=fun σ H Q=>ta σ H fun x H1=>tb σ H1 fun y H2=>r x y H2 Q
def ZQ(r:V->Hp->VK->Prop)(ta:TE):TE:=fun σ H Q=>ta σ H fun x H1=>r x H1 Q
def rI(C:Int->Int->Prop)(g:Int->Int->V):R2:=fun x y H Q=>∃i j,x=.int i/\y=.int j/\C i j/\Q (g i j) H
def nI(g:Int->Int->V):R2:=fun x y H Q=>∃i j,x=.int i/\y=.int j/\Q (g i j) H
def rU(g:Int->V):V->Hp->VK->Prop:=fun x H Q=>∃i,x=.int i/\Q (g i) H
section
variable {X:Cx} {a b c:ο} {ta tb tc:TE} {pos:ay}
theorem Er(ha:PE X a ta)(hb:PE X b tb){pins:List (ε×aA)}{s:ζ}{σ:St}{H:Hp}{R:V->V->Hp->Prop}(I:Inv X pins σ H s)
  (h:ta σ H fun x H1=>tb σ H1 fun y H2=>R x y H2) {Q:Value->ζ->Prop} {f:Value->Value->hX Value}
  (hf:∀v u s2 x y H2,Inv X pins σ H2 s2->RelV x v->RelV y u->R x y H2->μ (model X.prog X.w) X.A (f v u) Q X.xe s2):
  μ (model X.prog X.w) X.A (eval a X.env) (fun v s₁=>μ (model X.prog X.w) X.A (eval b X.env) (fun u s₂=>μ (model X.prog X.w) X.A (f v u) Q X.xe s₂) X.xe s₁) X.xe s:=by
 refine br (ha pins s σ H _ I h) fun v s1 ⟨x,H1,I1,r1,q1⟩=>?_;refine br (hb pins s1 σ H1 _ I1 q1) fun u s2 ⟨y,H2,I2,r2,q2⟩=>?_;exact hf v u s2 x y H2 I2 r1 r2 q2
theorem Vn{op:rB}{r:R2}(ho:ed X (binaryOp op) r)(ha:PE X a ta)(hb:PE X b tb):PE X (.BinOp a op b pos) (BK r ta tb):=by
 intro pins s σ H Q I h;exact wpAny_BinOp (Er ha hb I h fun v u s2 x y H2 I2 rx ry q=>ho pins s2 σ H2 x y v u Q I2 rx ry q)
theorem Kt{op:UnaryOp}{r:V->Hp->VK->Prop}(ho:Lv X (unaryOp op) r)(ha:PE X a ta):PE X (.UnaryOp op a pos) (ZQ r ta):=by
 intro pins s σ H Q I h;exact UnaryOp_ (br (ha pins s σ H _ I h) fun v s1 ⟨x,H1,I1,r1,q1⟩=>ho pins s1 σ H1 x v Q I1 r1 q1)
theorem EI{f:Value->Value->hX Value}{C:Int->Int->Prop}{g:Int->Int->Int}
  (rule:∀(i j:Int) (t u:dG) (s:ζ) (Q:Value->ζ->Prop) (E:Value->ζ->Prop),C i j->Q (.int (g i j) s.toks) { s with toks:=s.toks+1 }->μ (model X.prog X.w) X.A (f (.int i t) (.int j u)) Q E s):
  ed X f (rI C fun i j=>.int (g i j)):=by
 intro pins s σ H x y v u Q I rx ry h;obtain⟨i,j,rfl,rfl,hc,q⟩:=h;obtain⟨t,rfl⟩:=rx;obtain⟨t',rfl⟩:=ry;exact rule i j t t' s _ _ hc ⟨.int (g i j),H,I.tok _,⟨_,rfl⟩,q⟩
theorem KQ{f:Value->Value->hX Value}{g:Int->Int->Int}
  (rule:∀(i j:Int) (t u:dG) (s:ζ) (Q:Value->ζ->Prop) (E:Value->ζ->Prop),Q (.int (g i j) s.toks) { s with toks:=s.toks+1 }->μ (model X.prog X.w) X.A (f (.int i t) (.int j u)) Q E s):
  ed X f (nI fun i j=>.int (g i j)):=by
 intro pins s σ H x y v u Q I rx ry h;obtain⟨i,j,rfl,rfl,q⟩:=h;obtain⟨t,rfl⟩:=rx;obtain⟨t',rfl⟩:=ry;exact rule i j t t' s _ _ ⟨.int (g i j),H,I.tok _,⟨_,rfl⟩,q⟩
theorem Ah{f:Value->Value->hX Value}{g:Int->Int->Bool}
  (rule:∀(i j:Int) (t u:dG) (s:ζ) (Q:Value->ζ->Prop) (E:Value->ζ->Prop),Q (.bool (g i j)) s->μ (model X.prog X.w) X.A (f (.int i t) (.int j u)) Q E s):
  ed X f (nI fun i j=>.bl (g i j)):=by
 intro pins s σ H x y v u Q I rx ry h;obtain⟨i,j,rfl,rfl,q⟩:=h;obtain⟨t,rfl⟩:=rx;obtain⟨t',rfl⟩:=ry;exact rule i j t t' s _ _ ⟨.bl (g i j),H,I,rfl,q⟩
def Ey(i j:Int):Prop:=0≤j/\j≤1000000/\i.natAbs<2^64
theorem KP:ed X (binaryOp .Add) (nI fun i j=>.int (i+j)):=KQ fun _ _ _ _ _ _ _ q=>add_int q
theorem Ks:ed X (binaryOp .Sub) (nI fun i j=>.int (i-j)):=KQ fun _ _ _ _ _ _ _ q=>sub_int q
theorem qM:ed X (binaryOp .Mod) (rI (fun _ j=>0<j) fun i j=>.int (i%j)):=EI fun i j _ _ _ _ _ hc q=>by
 have h1:(0:Int)<j:=hc;exact mod_int' (by lia) (by rw[Int.fmod_eq_emod_of_nonneg i (by lia)];exact q)
theorem Kr:ed X (binaryOp .Pow) (rI Ey fun i j=>.int (i^j.toNat)):=EI fun _ _ _ _ _ _ _ hc q=>pow_int_small hc.1 hc.2.1 hc.2.2 q
theorem ZP{f:Value->hX Value}{g:Int->Int}
  (rule:∀(i:Int) (t:dG) (s:ζ) (Q:Value->ζ->Prop) (E:Value->ζ->Prop),Q (.int (g i) s.toks) { s with toks:=s.toks+1 }->μ (model X.prog X.w) X.A (f (.int i t)) Q E s):
  Lv X f (rU fun i=>.int (g i)):=by
 intro pins s σ H x v Q I rx h;obtain⟨i,rfl,q⟩:=h;obtain⟨t,rfl⟩:=rx;exact rule i t s _ _ ⟨.int (g i),H,I.tok _,⟨_,rfl⟩,q⟩
theorem Kq:Lv X (unaryOp .USub) (rU fun i=>.int (-i)):=ZP fun _ _ _ _ _ q=>neg_int q
end
section
variable {X:Cx} {a b c:ο} {ta tb tc:TE} {pos:ay}
theorem Kp{pins:List (ε×aA)}{σ:St}{H:Hp}{s:ζ}{Q:VK}{k k':Bool}(I:Inv X pins σ H s)(q:Q (.bl k) H)(e:k=k'):EP X pins σ Q (.bool k') s:=by
 subst e;exact⟨.bl k,H,I,rfl,q⟩
theorem LY:ed X (compareOp .Lt) (nI fun i j=>.bl (decide (i<j))):=Ah fun _ _ _ _ _ _ _ q=>lt_int q
theorem Vm:ed X (compareOp .LtE) (nI fun i j=>.bl (decide (i≤j))):=Ah fun _ _ _ _ _ _ _ q=>le_int q
theorem zV:ed X (compareOp .Gt) (nI fun i j=>.bl (decide (j<i))):=Ah fun _ _ _ _ _ _ _ q=>gt_int q
theorem Vl:ed X (compareOp .GtE) (nI fun i j=>.bl (decide (j≤i))):=Ah fun _ _ _ _ _ _ _ q=>ge_int q
theorem Ko:ed X (compareOp .Is) (fun x y H Q=>y=.az/\Q (.bl (decide (x=.az))) H):=by
 intro pins s σ H x y v u Q I rx ry h;obtain⟨rfl,q⟩:=h;cases ry;refine is_none_gen (Kp I q ?_);cases x<;>first
  | (cases rx;rfl)
  | (obtain⟨t,rfl⟩:=rx;rfl)
theorem ed.or{f:Value->Value->hX Value}{r r':R2}(h:ed X f r)(h':ed X f r'):ed X f (fun x y H Q=>r x y H Q∨r' x y H Q):=by
 intro pins s σ H x y v u Q I rx ry q;rcases q with q|q
 ·exact h pins s σ H x y v u Q I rx ry q
 ·exact h' pins s σ H x y v u Q I rx ry q
theorem cJ(b:ο){op:jE}(h:op≠.In:=by decide)(h2:op≠.NotIn:=by decide):behindInMarks op b=false:=by
 have e1:(op==jE.In)=false:=by cases op<;>first|rfl|exact absurd rfl h
 have e2:(op==jE.NotIn)=false:=by cases op<;>first|rfl|exact absurd rfl h2
 cases b<;>simp[behindInMarks,e1,e2]
theorem Vk{op:jE}{r:R2}(ho:ed X (compareOp op) r)(ha:PE X a ta)(hb:PE X b tb)(hm:behindInMarks op b=false):PE X (.Compare a [op] [b] pos) (BK r ta tb):=by
 intro pins s σ H Q I h;exact wpAny_Compare1 (Er ha hb I h fun v u s2 x y H2 I2 rx ry q=>ho pins s2 σ H2 x y v u Q I2 rx ry q) hm
def EA(t:TE):TT:=fun σ H Q=>t σ H fun x H'=>∃k,x=.bl k/\Q k H'
theorem Vj{op:jE}{r:R2}(ho:ed X (compareOp op) r)(ha:PE X a ta)(hb:PE X b tb)(hm:behindInMarks op b=false):PT X (.Compare a [op] [b] pos) (EA (BK r ta tb)):=by
 intro pins s σ H Q I h;refine wpAny_isTrue_Compare1 (br (ha pins s σ H _ I h) fun v s1 ⟨x,H1,I1,r1,q1⟩=>br (hb pins s1 σ H1 _ I1 q1) fun u s2 ⟨y,H2,I2,r2,q2⟩=>
  br (ho pins s2 σ H2 x y v u _ I2 r1 r2 q2) fun c s3 ⟨z,H3,I3,r3,k,e,q3⟩=>?_) hm
 subst e;cases r3;exact dR ⟨H3,I3,q3⟩
def wN(r r':R2)(ta tb tc:TE):TE:=fun σ H Q=>ta σ H fun x H1=>tb σ H1 fun y H2=>r x y H2 fun z H3=>∃k,z=.bl k ∧
 (if k=true then tc σ H3 fun w' H4=>r' y w' H4 Q else Q (.bl false) H3)
theorem Vi{op op':jE}{r r':R2}(ho:ed X (compareOp op) r)(ho':ed X (compareOp op') r')(ha:PE X a ta)(hb:PE X b tb)(hc:PE X c tc)
  (hm:lastMarks [op,op'] [b,c]=false:=by with_unfolding_all rfl):PE X (.Compare a [op,op'] [b,c] pos) (wN r r' ta tb tc):=by
 intro pins s σ H Q I h;refine Compare_chain (br (ha pins s σ H _ I h) fun v s1 ⟨x,H1,I1,r1,q1⟩=>chain_link (br (hb pins s1 σ H1 _ I1 q1) fun u s2 ⟨y,H2,I2,r2,q2⟩=>
  br (ho pins s2 σ H2 x y v u _ I2 r1 r2 q2) fun d s3 ⟨z,H3,I3,r3,k,e,q3⟩=>?_)) hm
 subst e;cases r3;refine dR ?_;cases k with
 |false=>exact ite_ff ⟨.bl false,H3,I3,rfl,q3⟩
 |true=>exact ite_tt (chain_last (br (hc pins s3 σ H3 _ I3 q3) fun w' s4 ⟨z',H4,I4,r4,q4⟩=>ho' pins s4 σ H4 y z' u w' Q I4 r2 r4 q4))
def Lw(K:PySem.W.Frag)(x:V)(H:Hp)(k:Bool):Prop:=
 match x with
 |.az=>k=false
 |.bl b=>k=b
 |.int i=>k=(i != 0)
 |.str y=>y.length≤ai/\k=((y.length:Int) != 0)
 |.Cb y=>y.size≤ai/\k=((y.size:Int) != 0)
 |.ref p=>(∃xs,ff K H p xs/\k = !xs.isEmpty)∨(∃xs,bZ K H p xs/\k = !xs.isEmpty)∨∃kvs,H p=some (.dK kvs)/\k = !kvs.isEmpty
 |_=>False
theorem Vh{κ:Type}{kvs:List (κ×V)}{vs:List (κ×Value)}(r:KV kvs vs):(!vs.isEmpty) = !kvs.isEmpty:=by
 cases r<;>rfl
theorem Km{xs:List V}{its:List Value}(r:aS xs its):(!its.toArray.isEmpty) = !xs.isEmpty:=by
 cases r<;>simp
theorem nQ:(ai:Nat)<2^63:=by rw[bI];decide
theorem Vg:ZO X (fun x H Q=>∃k,Lw X.K x H k/\Q k H):=by
 intro pins s σ H x v Q I rx h;obtain⟨k,e,q⟩:=h;have hl:=nQ;have hs:ai=16777216:=bI;cases x with
 |az=>
  cases rx;have e':k=false:=e;subst e';exact truthy_none ⟨H,I,q⟩
 |bl b=>
  cases rx;have e':k=b:=e;subst e';exact dR ⟨H,I,q⟩
 |int i=>
  obtain⟨t,rfl⟩:=rx;have e':k=(i != 0):=e;subst e';exact PySem.P.truthy_int ⟨H,I,q⟩
 |str y=>
  obtain⟨t,rfl⟩:=rx;obtain⟨hy,e'⟩:y.length≤ai/\k=((y.length:Int) != 0):=e;subst e';exact PySem.P.truthy_str (by lia) ⟨H,I.tok _,q⟩
 |Cb y=>
  obtain⟨t,rfl⟩:=rx;obtain⟨hy,e'⟩:y.size≤ai/\k=((y.size:Int) != 0):=e;subst e';exact PySem.W.truthy_bytes (by lia) ⟨H,I.tok _,q⟩
 |ref p=>
  cases rx;have e':(∃xs,ff X.K H p xs/\k = !xs.isEmpty)∨(∃xs,bZ X.K H p xs/\k = !xs.isEmpty)∨∃kvs,H p=some (.dK kvs)/\k = !kvs.isEmpty:=e;rcases e' with⟨xs,hx,e'⟩|⟨xs,hx,e'⟩|⟨kvs,hx,e'⟩
  ·subst e';obtain⟨its,r,pl,hz⟩:=I.list hx;have hlen:=r.length;exact wpAny_truthy_list pl.isList (by simp only[υ];lia) ⟨H,I.tok _,by rw[Km r];exact q⟩
  ·subst e';obtain⟨its,r,pl,hz⟩:=I.tuple hx;have hlen:=r.length;exact truthy_tuple pl (by simp only[υ];lia) ⟨H,I.tok _,by rw[Km r];exact q⟩
  ·subst e';obtain⟨hz,hS,vs,r,m⟩:kvs.length≤ai/\(p==sysModules)=false/\∃vs,KV kvs vs/\s.heap.DictOf (vS X.prog X.w) p vs:=I.bf p _ hx;have hlen:kvs.length=vs.length:=Paired.length r;exact wpAny_truthy_dict hS m (by lia) ⟨H,I.tok _,by rw[Vh r];exact q⟩
 |_=>exact (show False from e).elim
theorem Vf(ha:PE X a ta)(he:∀whole,isTrue a X.env whole=(do let v ←whole;standAt a.pos;holding [v] (truthy v))):
  PT X a (fun σ H Q=>ta σ H fun x H'=>∃k,Lw X.K x H' k/\Q k H'):=by
 intro pins s σ H Q I h;exact isTrue_plain (br (ha pins s σ H _ I h) fun v s1 ⟨x,H1,I1,r1,q1⟩=>Vg pins s1 σ H1 x v Q I1 r1 q1) (he _)
theorem vals1{x:V}{us:List Value}(r:aS [x] us):∃u,us=[u]/\RelV x u:=by
 cases r with
 |cons r1 r2=>cases r2;exact⟨_,rfl,r1⟩
theorem vals2{x y:V}{us:List Value}(r:aS [x,y] us):∃u w',us=[u,w']/\RelV x u/\RelV y w':=by
 cases r with
 |cons r1 r2=>
  cases r2 with
  |cons r3 r4=>cases r4;exact⟨_,_,rfl,r1,r3⟩
theorem Ve(hc:X.calm=true):gB X (.builtin "max") (fun xs H Q=>∃i j,xs=[.int i,.int j]/\Q (.int (if j > i then j else i)) H):=by
 intro pins s σ H xs us Q I r h;obtain⟨i,j,rfl,q⟩:=h;obtain⟨u,w',rfl,⟨t,rfl⟩,⟨t',rfl⟩⟩:=vals2 r;refine max_two_ints (I.ok.hd hc) fun h' tk k=>⟨_,H,I.kept k,?_,q⟩;by_cases hj:j > i
 ·rw[if_pos hj,if_pos hj];exact⟨_,rfl⟩
 ·rw[if_neg hj,if_neg hj];exact⟨_,rfl⟩
theorem Vd:gB X (.type "int") (fun xs H Q=>(∃i,xs=[.int i]/\Q (.int i) H)∨∃k,xs=[.bl k]/\Q (.int (if k then 1 else 0)) H):=by
 intro pins s σ H xs us Q I r h;rcases h with⟨i,rfl,q⟩|⟨k,rfl,q⟩
 ·obtain⟨u,rfl,t,rfl⟩:=vals1 r;exact call_int_int ⟨.int i,H,I,⟨_,rfl⟩,q⟩
 ·obtain⟨u,rfl,r1⟩:=vals1 r;cases r1;exact call_int_bool ⟨.int (if k then 1 else 0),H,I.tok _,⟨_,rfl⟩,q⟩
end
end L2
namespace L2
open PySem PySem.Spec PyProof.Rows
theorem Vc{h:Ξ}{dx:ε}{mA:ι->Option Value}(n:h.Ns1 dx mA):∃od,h.get? dx=some od/\∀name,PySem.W.lookIn name od=some (mA name):=by
 obtain⟨o,es,ep,ho,hd,hk,_,hm⟩:=n;refine⟨o,ho,fun name=>?_⟩;have e:=hm name;unfold nsFind findBy at e;rw[←Array.find?_toList] at e;unfold PySem.W.lookIn;rw[hd];dsimp only;split
 ·rename_i y q;rw[q] at e;exact congrArg some e
 ·rename_i q;rw[q] at e;have a:es.toList.any (·.refKey)=false:=by
   rw[List.any_eq_false];intro y hy;obtain⟨z,t,hkey⟩:=hk y (fY.mp hy);simp[tD.refKey,hkey]
  have a':¬es.toList.any (·.refKey)=true:=by rw[a];exact ak
  rw[if_neg a'];exact congrArg some e
theorem rf.some_of{v:V}{o:Option Value}(r:rf (some v) o):∃u,o=some u/\RelV v u:=by
 cases o with
 |none=>exact (show False from r).elim
 |some u=>exact⟨u,rfl,r⟩
section
variable {X:Cx} {pins:List (ε×aA)} {σ:St} {H:Hp} {s:ζ} {a C dx:ε} {fs:List (ι×V)} {f:ι} {v:V} {A:aq} {E:Value->ζ->Prop}
theorem VM{prog:Ψ}{w:af}{env:cB}{e:ο}{f:ι}{pos:ay}{s:ζ}{Q:Value->ζ->Prop}(hb:attributeBase e f env (eval e env)=eval e env)
  (h:μ (model prog w) A (eval e env) (fun o s₁=>μ (model prog w) A (getAttr o f true) Q E s₁) E s):μ (model prog w) A (eval (.Attribute e f pos) env) Q E s:=
 Attribute_any_ h (by rw[arm_eval_Attribute,hb])
end
end L2
namespace L2
open PySem PySem.Spec PyProof.Rows
structure dy(k:Nat)(A:aq):Prop where
 hd:A.handled=none
 dp:A.depth+3*k+5<recursionLimit
 un:A.units+16*k+200<cLine
theorem dy.mono{j k:Nat}{A:aq}(r:dy k A)(h:j≤k):dy j A:=⟨r.hd,by have:=r.dp;lia,by have:=r.un;lia⟩
theorem dy.deeper{k:Nat}{A:aq}(r:dy (k+1) A)(env:cB):dy k (A.deeper env):=
 ⟨r.hd,by have:=r.dp;show A.depth+1+3*k+5<_;lia,by have:=r.un;show A.units+3+16*k+200<_;lia⟩
theorem VL{A:aq}{C:ε}{us:List Value}{kw:List (ι×Value)}:(A.under (.builtin "type.__call__" ⟨.ref C::us,kw⟩)).depth=A.depth+1:=by
 first|rfl|simp[aq.under,Code.weight,Code.isCreation,Code.isGuard,Code.isCaller,Code.frames,Code.isFrame,guardIds]
theorem dy.depth{k:Nat}{A:aq}(r:dy k A):A.depth<recursionLimit:=by have:=r.dp;lia
theorem dy.units{k:Nat}{A:aq}(r:dy k A):A.units+64<cLine:=by have:=r.un;lia
theorem dy.r9{k:Nat}{A:aq}(r:dy k A):A.units<cLine:=by have:=r.un;lia
def FQ:TA:=fun _ H Q=>Q [] H
def yQ(ta:TE)(tr:TA):TA:=fun σ H Q=>ta σ H fun x H1=>tr σ H1 fun xs H2=>Q (x::xs) H2
section
variable {X:Cx} {e:ο} {es:List ο} {te:TE} {t:TA} {pos:ay}
theorem pz:PA X [] FQ:=fun _ _ _ _ H Q I h=>Calls.spliced_nil ⟨[],H,I,.nil,h⟩
theorem lG(ha:PE X e te)(hr:PA X es t)(hs:bx (e::es) X.env=(false,eval e X.env)::bx es X.env:=by rfl):PA X (e::es) (yQ te t):=by
 intro pos pins s σ H Q I h;rw[hs];show μ _ _ (spliced ((false,eval e X.env)::backTo pos (bx es X.env))) _ _ s;refine Calls.spliced_cons (br (ha pins s σ H _ I h) fun u s1 ⟨x,H1,I1,r1,q1⟩=>?_);exact br (hr pos pins s1 σ H1 _ I1 q1) fun us s2 ⟨xs,H2,I2,r2,q2⟩=>⟨x::xs,H2,I2,.cons r1 r2,q2⟩
def M8(t:TA):TE:=fun σ H Q=>t σ H fun xs H1=>xs.length≤ai/\∀p,H1 p=none->Q (.ref p) (upd H1 p (.tup xs))
def Nd(t:TA):TE:=fun σ H Q=>t σ H fun xs H1=>xs.length≤ai/\∀p,H1 p=none->Q (.ref p) (upd H1 p (.lst xs))
theorem VJ{x1}(h:PA X es t):PE X (.Tuple es x1 pos) (M8 t):=by
 intro pins s σ H Q I hq;refine wpAny_Tuple_spliced (br (h pos pins s σ H _ I hq) fun us s1 ⟨xs,H1,I1,r,z,q⟩=>⟨by rw[←r.length];exact z,?_⟩);have hf:H1 s1.heap.objs.size=none:=I1.bf.fresh (Ω _);refine⟨.ref s1.heap.objs.size,upd H1 s1.heap.objs.size (.tup xs),I1.laid (t':=s1.toks) (fun b u e=>η _ e) (Ω _) ?_,rfl,q _ hf⟩;exact⟨z,us,r,⟨_,ψ _ rfl,rfl,⟨_,rfl⟩,rfl⟩⟩
theorem Kl(h:PA X es t):PE X (.List es pos) (Nd t):=by
 intro pins s σ H Q I hq;refine wpAny_List_spliced (br (h pos pins s σ H _ I hq) fun us s1 ⟨xs,H1,I1,r,z,q⟩=>⟨by rw[←r.length];exact z,?_⟩);have hf:H1 s1.heap.objs.size=none:=I1.bf.fresh (Ω _);refine⟨.ref s1.heap.objs.size,upd H1 s1.heap.objs.size (.lst xs),I1.laid (t':=s1.toks) (fun b u e=>η _ e) (Ω _) ?_,rfl,q _ hf⟩;exact⟨z,us,0,r,ψ _ rfl⟩
end
abbrev Sp:=List V->Hp->VK->XK->Prop
abbrev qk:=List cB->Hp->ζ->XK->Value->ζ->Prop
structure nV(P:Ψ)(w:af)(K:PySem.W.Frag)(mg:ι->Option Value)(base:Ξ)(A:aq)(outer:List cB)(s:ζ)(H:Hp):Prop where
 frames:A.frames=some outer
 mod:Mod K mg base
 bs:∀b o,base.get? b=some o->s.heap.get? b=some o/\H b=none
 oP:base.objs.size≤s.heap.objs.size
 kg:s.heap.FunFrames base outer
 vc:∀b∈fb outer,H b=none
 bf:dJ P w H s.heap
 bare:jF s.gens
def CE(outer:List cB)(P:Ψ)(w:af)(H:Hp)(s:ζ)(Q:VK)(u:Value)(s':ζ):Prop:=
 ∃v H',s'.os=s.os/\jF s'.gens/\Un (fb outer) [] H H' s.heap s'.heap/\dJ P w H' s'.heap/\RelV v u/\Q v H'
def CR(CX:qk)(outer:List cB)(P:Ψ)(w:af)(H:Hp)(s:ζ)(Q:VK)(E:XK)(r:Result)(s':ζ):Prop:=
 match r with
 |.ok (.ret u)=>CE outer P w H s Q u s'
 |.ok _=>False
 |.error e=>CX outer H s E e s'
structure iG(P:Ψ)(w:af)(K:PySem.W.Frag)(mg:ι->Option Value)(base:Ξ)(CX:qk)(k:Nat)(f:ε)(fd:ae)(ps:List ι)(sp:Sp):Prop where
 len:∀vs H Q E,sp vs H Q E->vs.length=ps.length
 run:∀(A:aq) (outer:List cB) (s:ζ) (H:Hp) (args:Args) (us:List Value) (vs:List V) (Q:VK) (E:XK),dy k A->nV P w K mg base A outer s H->lQ s fd args (ps.zip us)->aS vs us->sp vs H Q E ->
  fF (model P w) A (.call (.ref f) args) (CR CX outer P w H s Q E) s
theorem iG.mono{P:Ψ}{w:af}{K:PySem.W.Frag}{mg:ι->Option Value}{base:Ξ}{CX:qk}{j k:Nat}{f:ε}{fd:ae}{ps:List ι}{sp:Sp}(F:iG P w K mg base CX j f fd ps sp)(h:j≤k):
  iG P w K mg base CX k f fd ps sp:=⟨F.len,fun A outer s H args us vs Q E hr=>F.run A outer s H args us vs Q E (hr.mono h)⟩
theorem iG.imp{P:Ψ}{w:af}{K:PySem.W.Frag}{mg:ι->Option Value}{base:Ξ}{CX:qk}{k:Nat}{f:ε}{fd:ae}{ps:List ι}{sp sp':Sp}(F:iG P w K mg base CX k f fd ps sp)
  (h:∀vs H Q E,sp' vs H Q E->sp vs H Q E):iG P w K mg base CX k f fd ps sp':=
 ⟨fun vs H Q E q=>F.len vs H Q E (h _ _ _ _ q),fun A outer s H args us vs Q E hr he hb hv hs=>F.run A outer s H args us vs Q E hr he hb hv (h _ _ _ _ hs)⟩
section
variable {X:Cx} {pins:List (ε×aA)} {σ:St} {H:Hp} {s s':ζ}
theorem Inv.Ed(I:Inv X pins σ H s):nV X.prog X.w X.K X.mg X.base X.A X.stack s H:=
 ⟨I.ok.frames,I.ok.mod,I.bs,aG I.ok.oP I.sz,I.stack,I.eY,I.bf,I.bare⟩
theorem Inv.after{Q:VK}{u:Value}(I:Inv X pins σ H s)(h:CE X.stack X.prog X.w H s Q u s'):EP X pins σ Q u s':=by
 obtain⟨v,H',os,bare,un,bf,r,q⟩:=h;obtain⟨hh,g,d,t,os'⟩:=s';obtain rfl:os'=s.os:=os;exact⟨v,H',I.call (h':=hh) (g':=g) (d':=d) (t':=t) (ch:=[]) un bf bare (fun b z=>absurd z (by simp)),r,q⟩
end
def wo(sp:Sp)(dvs:List V)(E:XK)(t:TA):TE:=fun σ H Q=>t σ H fun vs H1=>sp (vs++dvs) H1 Q E
def Binds(K:PySem.W.Frag)(fd:ae)(ps:List ι)(ds:List Value):Prop:=
 ∀(s:ζ) (us:List Value),K.In s.heap->(us++ds).length=ps.length->lQ s fd ⟨us,[]⟩ (ps.zip (us++ds))
theorem Binds.all{K:PySem.W.Frag}{fd:ae}{ps:List ι}(h:∀us:List Value,us.length=ps.length->bindArgs fd ⟨us,[]⟩=pure (ps.zip us)):Binds K fd ps []:=fun s us _ hl=>by
 rw[bw] at hl ⊢;exact .of_eq (h us hl)
def jg(CX:qk)(X:Cx)(E:XK):Prop:=∀(pins:List (ε×aA)) (σ:St) (H:Hp) (s:ζ) (e:Value) (s':ζ),Inv X pins σ H s->CX X.stack H s E e s'->X.xe e s'
section
variable {X:Cx} {CX:qk} {k:Nat} {f C:ε} {fd:ae} {ps:List ι} {sp:Sp} {dvs:List V} {ds:List Value} {E:XK} {x m:ι} {p pos apos:ay} {e o:ο} {es:List ο} {ta:TE} {t:TA}
theorem VI{pins:List (ε×aA)}{σ:St}{H:Hp}{s:ζ}{Q:VK}{us:List Value}{vs:List V}(F:iG X.prog X.w X.K X.mg X.base CX k f fd ps sp)(hr:dy k X.A)(hb:Binds X.K fd ps ds)(hd:aS dvs ds)(hx:jg CX X E)
  (I:Inv X pins σ H s) (r:aS vs us) (h:sp (vs++dvs) H Q E):μ (model X.prog X.w) X.A (call (.ref f) us) (EP X pins σ Q) X.xe s:=by
 have r2:aS (vs++dvs) (us++ds):=r.append hd;have hl:(us++ds).length=ps.length:=by rw[←r2.length];exact F.len _ _ _ _ h
 refine eV (cZ (F.run X.A X.stack s H ⟨us,[]⟩ (us++ds) (vs++dvs) Q E hr I.Ed (hb s us I.fC hl) r2 h) fun r s' hq=>?_);cases r with
 |error e=>exact hx pins σ H s e s' I hq
 |ok fl=>
  cases fl with
  |ret u=>exact I.after hq
  |next=>exact bo hq
  |brk=>exact bo hq
  |cont=>exact bo hq
theorem VH(F:iG X.prog X.w X.K X.mg X.base CX k f fd ps sp)(hr:dy k X.A)(hg:Gl X x)(hm:X.mg x=some (.ref f))(hk:PySem.W.keepIn X.K (.ref f)=true)(hb:Binds X.K fd ps ds)(hd:aS dvs ds)(hx:jg CX X E)
  (ha:PA X (e::es) t) (hdb:(x==("__debug__":ι))=false:=by decide) (he:bx (e::es) X.env=(false,eval e X.env)::bx es X.env:=by rfl) (hpl:(backTo pos (bx es X.env)).any (·.1)=false:=by rfl):
  PE X (.Call (.Name x p) (e::es) [] pos) (wo sp dvs E t):=by
 intro pins s σ H Q I h;refine cQ (pF I hg hm ?_ hdb);refine PySem.W.callWith_K (h₀:=X.base) I.ok.mod.nR hk (br (ha pos pins s σ H _ I h) fun us s1 ⟨vs,H1,I1,r,q⟩=>⟨I1.fC,?_⟩) he hpl;exact VI F hr hb hd hx I1 r q
end
structure aU(N P:List ι)(sc:ee):Prop where
 kind:sc.kind=.function
 co:sc.isCoroutine=false
 gen:sc.isGenerator=false
 nd:N.Nodup
 pre:N.take P.length=P
 par:∀x∈P,sc.names.lookup x=some .local∨sc.names.lookup x=some .cell
 KU:∀y∈sc.names,y.2≠.free
theorem Kk{kindOf:ι->Option fo}{x:ι}:∀{binds:List (ι×Value)} {m:ι->Option Value},(∀v,(x,v)∉binds)->bindL kindOf binds m x=m x
 |[],_,_=>rfl
 | (n,v)::r,m,h=>by
  unfold bindL;rw[Kk fun w hw=>h w (ω _ hw)];split
  ·have:x≠n:=by rintro rfl;exact h v Δ
   simp[this]
  ·rfl
theorem Kj{kindOf:ι->Option fo}{x:ι}:∀{binds:List (ι×Value)} {m:ι->Option Value},(∀v,(x,v)∉binds)->bindC kindOf binds m x=m x
 |[],_,_=>rfl
 | (n,v)::r,m,h=>by
  unfold bindC;rw[Kj fun w hw=>h w (ω _ hw)];split
  ·rfl
  ·have:x≠n:=by rintro rfl;exact h v Δ
   simp[this]
theorem zU{kindOf:ι->Option fo}{x:ι}{v:Value}:∀{P:List ι} {vs:List Value} {i:Nat} {m:ι->Option Value},P.Nodup->P[i]?=some x->vs[i]?=some v->kindOf x=some .local ->
  bindL kindOf (P.zip vs) m x=some v
 |[],_,_,_,_,h,_,_=>by simp at h
 |_::_,[],_,_,_,_,h,_=>by simp at h
 |p::P,w::vs,0,m,nd,h1,h2,hk=>by
  simp at h1 h2;subst h1;subst h2;show bindL kindOf ((p,w)::P.zip vs) m p=_;unfold bindL;rw[Kk fun v hv=>(df.mp nd).1 (eW hv).1,if_pos hk];simp
 |p::P,w::vs,i+1,m,nd,h1,h2,hk=>by
  show bindL kindOf ((p,w)::P.zip vs) m x=_;unfold bindL;exact zU (i:=i) (df.mp nd).2 (by simpa using h1) (by simpa using h2) hk
theorem Ki{kindOf:ι->Option fo}{x:ι}{v:Value}:∀{P:List ι} {vs:List Value} {i:Nat} {m:ι->Option Value},P.Nodup->P[i]?=some x->vs[i]?=some v->kindOf x≠some .local ->
  bindC kindOf (P.zip vs) m x=some v
 |[],_,_,_,_,h,_,_=>by simp at h
 |_::_,[],_,_,_,_,h,_=>by simp at h
 |p::P,w::vs,0,m,nd,h1,h2,hk=>by
  simp at h1 h2;subst h1;subst h2;show bindC kindOf ((p,w)::P.zip vs) m p=_;unfold bindC;rw[Kj fun v hv=>(df.mp nd).1 (eW hv).1,if_neg hk];simp
 |p::P,w::vs,i+1,m,nd,h1,h2,hk=>by
  show bindC kindOf ((p,w)::P.zip vs) m x=_;unfold bindC;exact Ki (i:=i) (df.mp nd).2 (by simpa using h1) (by simpa using h2) hk
def start(N:List ι)(vs:List V):St:=vs.map some++bj (N.length-vs.length) none
def gH(CX:qk)(P:Ψ)(w:af)(K:PySem.W.Frag)(mg:ι->Option Value)(base:Ξ)(N:List ι)(qual:ι)(scope:ee)(f:ε)(cd:Value)(A:aq)(outer:List cB)(s:ζ)(H:Hp)(E:XK):Cx where
 prog:=P
 w:=w
 K:=K
 mg:=mg
 base:=base
 A:=A.deeper (envOfC qual scope s.heap.objs.size f cd)
 N:=N
 s₀:=s
 H₀:=H
 env:=envOfC qual scope s.heap.objs.size f cd
 outer:=outer
 stack:=envOfC qual scope s.heap.objs.size f cd::outer
 ex:=[]
 calm:=true
 fn:=fun _=>true
 pn:=[]
 xe:=fun e s'=>μ (model P w) (A.deeper (envOfC qual scope s.heap.objs.size f cd)) (leaving (envOfC qual scope s.heap.objs.size f cd) e) (fun _ s''=>CX outer H s E e s'') (fun e' s''=>CX outer H s E e' s'') s'
theorem KJ{sc:ee}{n:Nat}{x:ι}(h:sc.names.lookup x=some .cell):∃c,(cellsFrom n sc.names []).lookup x=some c:=by
 have q:=PySem.W.cellsFrom_some sc.names n [] (.inl h);exact jm.mp q
theorem DI{CX:qk}{P:Ψ}{w:af}{K:PySem.W.Frag}{mg:ι->Option Value}{base:Ξ}{N ps:List ι}{qual:ι}{scope:ee}{f:ε}{cd:Value}{A:aq}{outer:List cB}{s s1:ζ}{H:Hp}{E:XK}{us:List Value}{vs:List V}
  (S:aU N ps scope) (hd:A.handled=none) (e0:nV P w K mg base A outer s H) (hl:vs.length=ps.length) (r:aS vs us)
  (x:InCallC s s.heap.objs.size (bindL (envOfC qual scope s.heap.objs.size f cd).kindOf (ps.zip us) fun _=>none) (cellsFrom (s.heap.objs.size+1) scope.names []) (bindC (envOfC qual scope s.heap.objs.size f cd).kindOf (ps.zip us) fun _=>none) s1):
  Inv (gH CX P w K mg base N qual scope f cd A outer s H E) [] (start N vs) H s1:=by
 have hpl:ps.length≤N.length:=by have:=congrArg gK S.pre;rw[ck] at this;lia
 obtain⟨h1,tk,rfl,hk⟩:=x.done;have noA:∀b:ε,b∉(gH CX P w K mg base N qual scope f cd A outer s H E).ex:=fun b z=>absurd (show b∈([]:List ε) from z) (by simp);refine⟨⟨e0.mod,S.kind,rfl,rfl,Ω _,fun y z c h1 h2=>?_,fun y hy=>?_,fun y c _ h=>?_,fun _=>hd,rH e0.frames,.inr ⟨rfl,rfl⟩,fun b z=>absurd z (noA b),e0.bs,e0.oP,fun b _ _=>noA b,fun b z=>absurd z (noA b),e0.kg,e0.vc⟩,
  rfl,e0.bare,Un.kept hk,⟨_,x.toInCall.ns,fun i y v h1 h2 h3=>?_⟩,fun y c h=>⟨_,x.cell y c h⟩,e0.bf.fresh (Ω _),fun y c h=>?_,fun p hp=>absurd (show p∈([]:List (ε×aA)) from hp) (by simp),e0.bf.kept hk,?_⟩
 ·exact name_of_addr x.apart (PySem.mem_of_lookup h1) (PySem.mem_of_lookup h2)
 ·have hy:scope.names.lookup y=some .cell∨scope.names.lookup y=some .free:=hy;rcases hy with hy|hy
  ·exact KJ hy
  ·exact absurd rfl (S.KU _ (PySem.mem_of_lookup hy))
 ·exact lb (x.above y c (PySem.mem_of_lookup h))
 ·have hi:i<vs.length:=by
   unfold start at h2;by_cases hi:i<vs.length
   ·exact hi
   ·rw[et (by simpa using hi)] at h2;rw[jM] at h2;split at h2<;>cases h2
  have ha:vs[i]?=some v:=by
   unfold start at h2;rw[eL (by simpa using hi),aJ] at h2;cases e:vs[i]? with
   |none=>rw[e] at h2;cases h2
   |some a=>rw[e] at h2;cases h2;rfl
  obtain⟨u,hu,rv⟩:=r.get ha;have hp:ps[i]?=some y:=by
   rw[←S.pre,om (by lia)];exact h1
  have ndP:ps.Nodup:=by rw[←S.pre];exact S.nd.sublist (jQ _ _)
  refine⟨u,rv,?_⟩;rcases S.par y (bM hp) with k|k
  ·exact .inl ⟨k,zU ndP hp hu k⟩
  ·obtain⟨c,e⟩:=KJ (n:=s.heap.objs.size+1) k;refine .inr ⟨.inl k,c,e,?_⟩;have q:=x.cell y c e;rw[Ki ndP hp hu (by show scope.names.lookup y≠_;rw[k];decide)] at q;exact q
 ·exact e0.bf.fresh (lb (x.above y c (PySem.mem_of_lookup h)))
 ·unfold start;show _=N.length;rw[aF,ν,ky];lia
theorem KI{CX:qk}{P:Ψ}{w:af}{K:PySem.W.Frag}{mg:ι->Option Value}{base:Ξ}{k:Nat}{f:ε}{name qual:ι}{params:Arguments}{body:List aB}{scope:ee}{dV kV doc pm cdv ct oc:Value}{an od:Option ε}
  {osl:Array (Option Value)} {N ps:List ι} {sp:Sp} (lk:K.lookup f=some ⟨oc,od,.func (PySem.W.fnOf name qual params body scope dV kV doc pm an cdv ct),osl⟩) (gQ:PySem.W.codeIn K cdv qual=true) (S:aU N ps scope)
  (len:∀vs H Q E,sp vs H Q E->vs.length=ps.length)
  (eR:∀(A:aq) (outer:List cB) (s:ζ) (H:Hp) (vs:List V) (Q:VK) (E:XK),dy k (A.deeper (envOfC qual scope s.heap.objs.size f cdv))->sp vs H Q E ->
   ∃t,kS (gH CX P w K mg base N qual scope f cdv A outer s H E) body t/\t { nx:=fun _ H'=>Q .az H',rt:=Q } (start N vs) H):
  iG P w K mg base CX (k+1) f (PySem.W.fnOf name qual params body scope dV kV doc pm an cdv ct) ps sp:=by
 refine⟨len,fun A outer s H args us vs Q E hr e0 hb r oJ=>?_⟩;have hl:=len _ _ _ _ oJ;have KX:K.In s.heap:=e0.mod.nR.keeps fun b o e=>(e0.bs b o e).1;have lim:s.heap.NoLimit:=e0.mod.nolimit.keeps fun b o e=>(e0.bs b o e).1;have hkind:∀y∈ps.zip us,scope.names.lookup y.1=some .local∨(scope.names.lookup y.1=some .cell/\((cellsFrom (s.heap.objs.size+1) scope.names []).lookup y.1).isSome=true):=fun⟨n,v⟩ hy=>by
  rcases S.par n (eW hy).1 with q|q
  ·exact .inl q
  ·exact .inr ⟨q,PySem.W.cellsFrom_some _ _ _ (.inl q)⟩
 refine g6 hr.depth (KX _ _ lk) rfl S.co S.gen rfl (PySem.W.codeRec_of KX gQ) (hb _ _ _ _ ?_);refine fI S.kind hkind fun env he s1 x=>?_;subst he;refine⟨lim.keeps x.toInCall.keep,nZ ?_⟩;obtain⟨t,ht,hq⟩:=eR A outer s H vs Q E (hr.deeper _) oJ;have I:Inv (gH CX P w K mg base N qual scope f cdv A outer s H E) [] (start N vs) H s1:=DI S hr.hd e0 hl r x;refine cp (ht [] s1 (start N vs) H _ I hq) (fun fl s' hs=>?_) fun e s' hs=>hs;have fin:∀{σ':St} {H':Hp} {v:V} {u:Value},Inv (gH CX P w K mg base N qual scope f cdv A outer s H E) [] σ' H' s'->RelV v u->Q v H'->CE outer P w H s Q u s':=
  fun {σ' H' v u} J rv q=>⟨v,H',J.os,J.bare,J.base,J.bf,rv,q⟩
 cases fl with
 |ret u=>
  obtain⟨v,σ',H',J,rv,q⟩:=hs;exact fin J rv q
 |next=>
  obtain⟨σ',H',J,q⟩:=hs;exact fin (v:=V.az) (u:=Value.none) J rfl q
 |brk=>
  obtain⟨_,_,_,q⟩:=hs;exact bo q
 |cont=>
  obtain⟨_,_,_,q⟩:=hs;exact bo q
end L2
namespace L2
open PySem PySem.Spec PyProof.Rows
section
variable {X:Cx} {x:ι} {p pos:ay} {e:ο} {es:List ο} {t:TA} {id T:String} {r:List V->Hp->VK->Prop}
def BL(r:List V->Hp->VK->Prop)(t:TA):TE:=fun σ H Q=>t σ H fun vs H1=>r vs H1 Q
theorem pq(hc:gB X (.builtin id) r)(hg:Gl X x)(hm:X.mg x=none)(hv:gk x=some (.builtin id))(ha:PA X (e::es) t)(hn:x≠"__name__":=by decide)(hdb:(x==("__debug__":ι))=false:=by decide)
  (he:bx (e::es) X.env=(false,eval e X.env)::bx es X.env:=by rfl) (hpl:(backTo pos (bx es X.env)).any (·.1)=false:=by rfl):PE X (.Call (.Name x p) (e::es) [] pos) (BL r t):=by
 intro pins s σ H Q I h;refine cQ (qN I hg hm hv ?_ hn hdb);exact PyProof.Rows.callWith_builtin1 (br (ha pos pins s σ H _ I h) fun us s1 ⟨vs,H1,I1,r1,q1⟩=>hc pins s1 σ H1 vs us Q I1 r1 q1) he hpl
theorem vO(hc:gB X (.type T) r)(hg:Gl X x)(hm:X.mg x=none)(hv:gk x=some (.type T))(ha:PA X (e::es) t)(hn:x≠"__name__":=by decide)(hdb:(x==("__debug__":ι))=false:=by decide)
  (he:bx (e::es) X.env=(false,eval e X.env)::bx es X.env:=by rfl) (hpl:(backTo pos (bx es X.env)).any (·.1)=false:=by rfl):PE X (.Call (.Name x p) (e::es) [] pos) (BL r t):=by
 intro pins s σ H Q I h;refine cQ (qN I hg hm hv ?_ hn hdb);exact cG (br (ha pos pins s σ H _ I h) fun us s1 ⟨vs,H1,I1,r1,q1⟩=>hc pins s1 σ H1 vs us Q I1 r1 q1) he hpl
end
end L2
namespace HT
open PySem PyProof.Rows
def lexLt:List Int->List Int->Bool
 |[],[]=>false
 |[],_::_=>true
 |_::_,[]=>false
 |x::xs,y::ys=>if x=y then lexLt xs ys else decide (x<y)
theorem VG(x y:Int)(xs ys:List Int):lexLt (x::xs) (y::ys)=if x=y then lexLt xs ys else decide (x<y):=rfl
theorem VF:lexLt [] []=false:=rfl
theorem VE(y:Int)(ys:List Int):lexLt [] (y::ys)=true:=rfl
theorem VD(x:Int)(xs:List Int):lexLt (x::xs) []=false:=rfl
theorem VC(A:aq)(s:ζ)(a:Int)(t:dG)(c:Int)(u:dG):∃e,SeqAt.EqAt A s (.int a t) (.int c u) e/\(e=true↔a=c):=
 ⟨(a==c),SeqAt.EqAt.int_int a t c u,by simp⟩
theorem U0(A:aq)(s:ζ)(a:Int)(t:dG)(c:Int)(u:dG)(prog:Ψ)(w:af)(E:Value->ζ->Prop)(Q:Value->ζ->Prop)(h:Q (.bool (decide (a<c))) s):
  μ (model prog w) A (richCompare .Lt (.int a t) (.int c u)) Q E s:=
 (PyProof.Rows.lt_int h:μ (model prog w) A (compareOp .Lt (.int a t) (.int c u)) Q E s)
section
open PySem.SeqAt
open PySem.AutoSeq1 (wpAny_loadPart')
open PySem.MeetsSeq PySem.MeetsSeq2 PySem.MeetsSeq3
theorem UZ(l b:ε)(items items2:Array Value)(n n2:Nat)(dd dd2:Option ε)(sl sl2:Array (Option Value))(ns ms:List Int)(hi:gf items.toList ns)(hj:gf items2.toList ms):
  Meets (cM.«tuple.__lt__» ⟨[.ref l,.ref b],[]⟩)
   (fun _ R s=>s.heap.get? l=some { cls:=.type "tuple",dict:=dd,data:=.seq items n,slots:=sl }/\s.heap.get? b=some { cls:=.type "tuple",dict:=dd2,data:=.seq items2 n2,slots:=sl2 } ∧
    R (.ok (.ret (.bool (lexLt ns ms)))) s):=
 .of_wp fun prog w A R s h=>by
  obtain⟨hp,g,d,tk,os⟩:=s;obtain⟨hl,hb,h⟩:=h;have f2:=AutoSeq1.sub_tuple_tuple;have z1:items.size=ns.length:=by rw[←hi.length];simp
  have z2:items2.size=ms.length:=by rw[←hj.length];simp
  wp_walk using wpAny_loadPart' hl,wpAny_loadPart' hb,kj _ (fun rest b s'=>b.1=none/\s'=⟨hp,g,d,tk,os⟩/\∃(vs ws:List Value) (ns' ms':List Int),rest=vs.zip ws ∧
   gf vs ns'/\gf ws ms'/\ns'.length+items2.size=ms'.length+items.size/\R (.ok (.ret (.bool (lexLt ns' ms')))) ⟨hp,g,d,tk,os⟩) _
  case turn=>
   rintro⟨y,x⟩ rest b s' ⟨hb',rfl,vs,ws,ns',ms',hz,hvi,hwi,hlen,hR⟩;cases hvi with
   |nil=>rw[List.zip_nil_left] at hz;cases hz
   |cons a t hvi'=>
    cases hwi with
    |nil=>rw[List.zip_nil_right] at hz;cases hz
    |cons c u hwi'=>
     rw[jq] at hz;injection hz with hyx hrest;injection hyx with hy hx;subst hy hx;rw[VG] at hR;simp only[aj] at hlen;obtain⟨e,he,hiff⟩:=VC A.in1 ⟨hp,g,d,tk,os⟩ a t c u;refine δ (he prog w _ _ ?_);cases e with
     |true=>
      rw[if_pos (hiff.mp rfl)] at hR;wp_walk;exact⟨rfl,rfl,_,_,_,_,hrest,hvi',hwi',by lia,hR⟩
     |false=>
      rw[if_neg (fun q=>absurd (hiff.mpr q) ak)] at hR;have hri:=U0 A.in1 ⟨hp,g,d,tk,os⟩ a t c u prog w;wp_walk using hri;exact⟨_,rfl,by simpa using hR⟩
  case fin=>
   rintro⟨b1,b2⟩ s' ⟨hb',rfl,vs,ws,ns',ms',hz,hvi,hwi,hlen,hR⟩;simp only at hb';subst hb';have hv:lexLt ns' ms'=decide (items.size<items2.size):=by
    cases hvi with
    |nil=>
     cases hwi with
     |nil=>
      simp only[dF] at hlen;rw[VF];exact (decide_eq_false (by lia)).symm
     |cons c u hw=>
      simp only[dF,aj] at hlen;rw[VE];exact (decide_eq_true (by lia)).symm
    |cons a t hv=>
     cases hwi with
     |nil=>
      simp only[dF,aj] at hlen;rw[VD];exact (decide_eq_false (by lia)).symm
     |cons c u hw=>
      rw[jq] at hz;cases hz
   rw[hv] at hR;wp_walk;exact⟨_,rfl,by simpa [cM.Tuple.tupleCompareSizes] using hR⟩
  case h=>
   exact⟨rfl,rfl,items.toList,items2.toList,ns,ms,rfl,hi,hj,by lia,h⟩
end
section
variable {prog:Ψ} {w:af} {A:aq} {E:Value->ζ->Prop} {s:ζ}
theorem Ao{l b:ε}{items items2:Array Value}{ns ms:List Int}{Q:Value->ζ->Prop}(hl:iW s.heap l items)(hb:iW s.heap b items2)(hi:gf items.toList ns)(hj:gf items2.toList ms)
  (hu:A.units<cLine) (h:Q (.bool (lexLt ns ms)) s):μ (model prog w) A (compareOp .Lt (.ref l) (.ref b)) Q E s:=by
 obtain⟨⟨cls,dd,data,sl⟩,ho,hc,n,hd⟩:=id hl;obtain⟨⟨cls2,dd2,data2,sl2⟩,ho2,hc2,n2,hd2⟩:=id hb;simp only at hc hd hc2 hd2;subst hc hd hc2 hd2;exact richCompare_meets_room (op:=.Lt) ⟨_,ho,rfl⟩ ⟨_,ho2,rfl⟩ PySem.F.slot_tuple_lt PySem.F.entry_tuple_lt (PySem.F.args_tuple_lt_2 _ _) (UZ l b items items2 n n2 dd dd2 sl sl2 ns ms hi hj)
  ⟨ho,ho2,show Value.bool (lexLt ns ms)≠Value.notImplemented/\Q (.bool (lexLt ns ms)) s from⟨(fun x=>nomatch x),h⟩⟩ hu
theorem FF{t b:ε}{vs ws:List Value}{Q:Value->ζ->Prop}(ht:iW s.heap t vs.toArray)(hb:iW s.heap b ws.toArray)(hv:vs≠[])
  (h1:ws=[]->Q (.ref t) s) (h2:ws≠[]->Q (.ref s.heap.objs.size) { s with heap:=s.heap.push { cls:=.type "tuple",data:=.seq (vs++ws).toArray }})
  (hsz:vs.length+ws.length≤ai):μ (model prog w) A (binaryOp .Add (.ref t) (.ref b)) Q E s:=by
 obtain⟨⟨cls,dd,data,sl⟩,ho,hc,n,hd⟩:=id ht;obtain⟨⟨cls2,dd2,data2,sl2⟩,ho2,hc2,n2,hd2⟩:=id hb;simp only at hc hd hc2 hd2;subst hc hd hc2 hd2;have e:vs.toArray++ws.toArray=(vs++ws).toArray:=by simp
 by_cases hw:ws=[]
 ·exact concat_meets ⟨_,ho,rfl⟩ ⟨_,ho2,rfl⟩ nY rN PySem.F.slot_tuple_add PySem.F.entry_tuple_add (PySem.F.args_tuple_add_2 _ _)
   (tuple_addW1 t b vs.toArray ws.toArray n n2 dd dd2 sl sl2 (by simpa using hv) (by simp[hw])) ⟨ho,ho2,h1 hw⟩
 ·refine concat_meets ⟨_,ho,rfl⟩ ⟨_,ho2,rfl⟩ nY rN PySem.F.slot_tuple_add PySem.F.entry_tuple_add (PySem.F.args_tuple_add_2 _ _)
   (tuple_addW2 t b vs.toArray ws.toArray n n2 dd dd2 sl sl2 (by simpa using hv) (by simpa using hw) (by rw[υ,υ];exact hsz)) ⟨ho,ho2,?_⟩
  rw[e];exact h2 hw
def bV(n d:Nat):Option Int->Nat
 |none=>d
 |some v=>if v<0 then (v+(n:Int)).toNat else min v.toNat n
theorem wX(n d:Nat):bV n d none=d:=rfl
theorem yC(n d k:Nat):bV n d (some (k:Int))=min k n:=by
 show (if (k:Int)<0 then ((k:Int)+(n:Int)).toNat else min (k:Int).toNat n)=min k n;rw[if_neg (by lia),bR]
theorem UY(n d:Nat)(hd:d≤n)(o:Option Int):bV n d o≤n:=by
 cases o with
 |none=>exact hd
 |some v=>
  show (if v<0 then (v+(n:Int)).toNat else min v.toNat n)≤n;by_cases hv:v<0
  ·rw[if_pos hv];lia
  ·rw[if_neg hv];exact Nat.min_le_right _ _
theorem KH(v:Int)(n d:Nat):(if v<0 then max (v+(n:Int)) 0 else min v (n:Int))=((bV n d (some v):Nat):Int):=by
 show (if v<0 then max (v+(n:Int)) 0 else min v (n:Int))=(((if v<0 then (v+(n:Int)).toNat else min v.toNat n):Nat):Int);by_cases hv:v<0
 ·simp only[if_pos hv];lia
 ·simp only[if_neg hv];lia
theorem UX(lo hi:Option Int)(n:Nat):iX lo hi 1 (n:Int)=(((bV n 0 lo:Nat):Int),((bV n n hi:Nat):Int)):=by
 have h1:¬((1:Int)<0):=by lia
 unfold iX;simp only[h1,if_false];refine Prod.ext ?_ ?_
 ·cases lo with
  |none=>rfl
  |some v=>exact KH v n 0
 ·cases hi with
  |none=>rfl
  |some v=>exact KH v n n
theorem UW(i j:Nat):cU (i:Int) (j:Int) 1=j-i:=by
 unfold cU;have h1:(1:Int) > 0:=by lia
 simp only[h1,if_true,Int.ediv_one];split<;>lia
theorem KG{v:Value}{o:Option Int}{Q:Option Int->ζ->Prop}(p:lh v o)(h:Q o s):μ (model prog w) A (cM.Slice.slicePartIndex v) Q E s:=by
 cases p with
 |none=>exact lN h
 |int i t=>exact slicePart_int h
theorem nH{sl:ε}{vl vu:Value}{lo hi:Option Int}{n:Nat}{Q:Int×Int×Nat->ζ->Prop}(hs:s.heap.IsSliceOf sl vl vu .none)(pl:lh vl lo)(pu:lh vu hi)
  (h:Q (((bV n 0 lo:Nat):Int),1,bV n n hi-bV n 0 lo) s):μ (model prog w) A (fM (.ref sl) (pure (n:Int))) Q E s:=by
 obtain⟨os,hos,hcs,hds⟩:=id hs;unfold fM nj;refine δ (δ (aX hos hds (x:=vl) rfl (δ (aX hos hds (x:=vu) rfl (δ (aX hos hds (x:=.none) rfl (θ ?_)))))));refine δ (lN ?_);show μ _ _ (if ((1:Int)==0)=true then _ else _) _ _ s;rw[if_neg (by decide)];refine δ (KG pl (δ (KG pu (δ (θ ?_)))));show μ _ _ (match iX lo hi 1 (n:Int) with|(lo,hi)=>pure (lo,(1:Int),cU lo hi 1)) _ _ s
 rw[UX lo hi n];show μ _ _ (pure (((bV n 0 lo:Nat):Int),(1:Int),cU ((bV n 0 lo:Nat):Int) ((bV n n hi:Nat):Int) 1)) _ _ s;rw[UW];exact θ h
theorem UU(xs:Array Value)(i k:Nat):((ag k).filterMap fun (m:Nat)=>xs[((i:Int)+(m:Int)*1).toNat]?).toArray=((xs.toList.drop i).take k).toArray:=by
 have e:(fun (m:Nat)=>xs[((i:Int)+(m:Int)*1).toNat]?)=fun m=>xs[i+m]?:=by
  funext m;have:((i:Int)+(m:Int)*1).toNat=i+m:=by lia
  rw[this]
 rw[e];have:=pick_run xs i k;rw[mo] at this;have e2:((fun x=>xs[x]?) ∘ fun x=>i+x)=fun m=>xs[i+m]?:=rfl;rw[e2] at this;rw[this]
theorem t4{t sl:ε}{items:Array Value}{vl vu:Value}{lo hi:Option Int}{Q:Value->ζ->Prop}(ht:iW s.heap t items)(hs:s.heap.IsSliceOf sl vl vu .none)(pl:lh vl lo)(pu:lh vu hi)
  (hw:¬(bV items.size 0 lo=0/\bV items.size items.size hi=items.size))
  (h:Q (.ref s.heap.objs.size) { s with heap:=s.heap.push { cls:=.type "tuple",data:=.seq ((items.toList.drop (bV items.size 0 lo)).take (bV items.size items.size hi-bV items.size 0 lo)).toArray }})
  (hsz:items.size≤ai):μ (model prog w) A (getItem (.ref t) (.ref sl)) Q E s:=by
 have htake:sizeOk (.seq ((items.toList.drop (bV items.size 0 lo)).take (bV items.size items.size hi-bV items.size 0 lo)).toArray):=by
  show ((items.toList.drop (bV items.size 0 lo)).take (bV items.size items.size hi-bV items.size 0 lo)).toArray.size≤ai;rw[υ,ck,eH,bG];lia
 have hj:bV items.size items.size hi≤items.size:=UY _ _ (Ω _) hi;obtain⟨os,hos,hcs,hds⟩:=id hs;have hTs:s.TypeIs (.ref sl) "slice":=⟨os,hos,hcs⟩;unfold getItem
 try with_reducible refine aZ ?_
 first|refine δ (θ ?_)|skip
 refine δ (mO ht.typeIs (by decide) ?_);refine δ (bC (name:=dm "__getitem__") ht.typeIs bB
  (bL bB ht.typeIs lB ?_ (mi _ _)))
 show μ _ _ (ix (.ref t) >>= _) _ _ s;refine δ (tupleItemsOf_ ht ?_);refine δ (gj hTs ?_);rw[if_pos (by decide)];refine δ (nH hs pl pu ?_);have hno:¬((((bV items.size 0 lo:Nat):Int)==0&&(1:Int)==1&&(bV items.size items.size hi-bV items.size 0 lo)==items.size)=true):=by
  intro q;rw[bF,bF] at q;have q1:((bV items.size 0 lo:Nat):Int)=0:=eq_of_beq q.1.1;have q2:bV items.size items.size hi-bV items.size 0 lo=items.size:=eq_of_beq q.2;exact hw ⟨by lia,by lia⟩
 show μ _ _ (if (((bV items.size 0 lo:Nat):Int)==0&&(1:Int)==1&&(bV items.size items.size hi-bV items.size 0 lo)==items.size)=true then _ else _) _ _ s;rw[if_neg hno,UU]
 first
  |exact δ (m:=bN _) (aR (θ ⟨_,rfl,θ h⟩) htake)
  |exact δ (m:=bN _) (aR (δ (θ (θ ⟨_,rfl,θ h⟩))) htake)
  |exact δ (δ (m:=bN _) (aR (θ (θ ⟨_,rfl,θ h⟩)) htake))
  |exact δ (δ (m:=bN _) (aR (θ ⟨_,rfl,θ h⟩) htake))
end
end HT
namespace L2
open PySem PySem.Spec PyProof.Rows
abbrev TO:=St->Hp->(Option Int->Hp->Prop)->Prop
def PO(X:Cx)(e:Option ο)(t:TO):Prop:=
 ∀(pins:List (ε×aA)) (s:ζ) (σ:St) (H:Hp) (Q:Option Int->Hp->Prop),Inv X pins σ H s->t σ H Q ->
  μ (model X.prog X.w) X.A (evalPart e X.env) (fun u s'=>∃o H',Inv X pins σ H' s'/\lh u o/\Q o H') X.xe s
def Fv:TO:=fun _ H Q=>Q none H
def LN(t:TE):TO:=fun σ H Q=>t σ H fun x H1=>∃i,x=.int i/\Q (some i) H1
theorem intsAre_of{ns:List Int}:∀{us:List Value},aS (ns.map V.int) us->gf us ns:=by
 induction ns with
 |nil=>intro us r;rw[List.map_nil] at r;cases r;exact .nil
 |cons n ns ih=>
  intro us r;rw[bP] at r;cases r with
  |cons r1 r2=>
   obtain⟨t,e⟩:=r1;subst e;exact .cons n t (ih r2)
section
variable {X:Cx} {e:ο} {te:TE} {lo hi:Option ο} {tl th:TO} {pos p2:ay}
theorem UT:PO X none Fv:=by
 intro pins s σ H Q I h;rw[rO];exact θ ⟨none,H,I,.none,h⟩
theorem US(h:PE X e te):PO X (some e) (LN te):=by
 intro pins s σ H Q I hw;rw[evalPart_some];refine br (h pins s σ H _ I hw) fun u s1 ⟨x,H1,I1,r1,q1⟩=>?_;obtain⟨i,rfl,q⟩:=q1;obtain⟨t,rfl⟩:=r1;exact⟨some i,H1,I1,.int i t,q⟩
def wd(X:Cx)(r:V->Option Int->Option Int->Hp->VK->Prop):Prop:=
 ∀(pins:List (ε×aA)) (s:ζ) (σ:St) (H:Hp) (x:V) (v vl vu:Value) (lo hi:Option Int) (sl:ε) (Q:VK),Inv X pins σ H s->RelV x v->s.heap.IsSliceOf sl vl vu .none->lh vl lo->lh vu hi->r x lo hi H Q ->
  ∃T id,typeLookup (.type T) "__getitem__" = pure (some (.builtin id))/\s.TypeIs v T/\μ (model X.prog X.w) X.A (getItem v (.ref sl)) (EP X pins σ Q) X.xe s
theorem wd.or{r r':V->Option Int->Option Int->Hp->VK->Prop}(h:wd X r)(h':wd X r'):wd X (fun x lo hi H Q=>r x lo hi H Q∨r' x lo hi H Q):=by
 intro pins s σ H x v vl vu lo hi sl Q I rx hs pl pu q;rcases q with q|q
 ·exact h pins s σ H x v vl vu lo hi sl Q I rx hs pl pu q
 ·exact h' pins s σ H x v vl vu lo hi sl Q I rx hs pl pu q
def ZR(r:V->Option Int->Option Int->Hp->VK->Prop)(te:TE)(tl th:TO):TE:=fun σ H Q=>te σ H fun x H1=>tl σ H1 fun l H2=>th σ H2 fun u H3=>r x l u H3 Q
theorem UR{r:V->Option Int->Option Int->Hp->VK->Prop}(hr:wd X r)(he:PE X e te)(hl:PO X lo tl)(hu:PO X hi th):PE X (.Subscript e (.Slice lo hi none p2) pos) (ZR r te tl th):=by
 intro pins s σ H Q I h;refine Subscript_ (br (he pins s σ H _ I h) fun v s1 ⟨x,H1,I1,r1,q1⟩=>?_);refine wpAny_Slice (br (hl pins s1 σ H1 _ I1 q1) fun vl s2 ⟨l,H2,I2,pl,q2⟩=>br (hu pins s2 σ H2 _ I2 q2) fun vu s3 ⟨u,H3,I3,pu,q3⟩=>?_);rw[rO];refine θ ?_;have I4:Inv X pins σ H3 { s3 with heap:=s3.heap.push { cls:=.type "slice",data:=.fields #[vl,vu,.none]}}:=I3.kept (t':=s3.toks) fun b ob q=>η _ q;obtain⟨T,id,hT,ht,hg⟩:=hr pins { s3 with heap:=s3.heap.push { cls:=.type "slice",data:=.fields #[vl,vu,.none]}} σ H3 x v vl vu l u s3.heap.objs.size Q I4 r1 (tw ..) pl pu q3;show μ (model X.prog X.w) X.A (subscriptTail e (.Slice lo hi none p2) v (.ref s3.heap.objs.size)) (EP X pins σ Q) X.xe { s3 with heap:=s3.heap.push { cls:=.type "slice",data:=.fields #[vl,vu,.none]}};exact tail_any (ops:=[.ref s3.heap.objs.size,v]) ht hT hg (by with_unfolding_all rfl)
def sT(xs:List V)(lo hi:Option Int):List V:=(xs.drop (HT.bV xs.length 0 lo)).take (HT.bV xs.length xs.length hi-HT.bV xs.length 0 lo)
theorem KE(xs:List V)(lo hi:Option Int):(sT xs lo hi).length≤xs.length:=by
 unfold sT;rw[ck,eH];lia
def Nl(K:PySem.W.Frag):V->Option Int->Option Int->Hp->VK->Prop:=fun x lo hi H Q=>∃a xs,x=.ref a/\bZ K H a xs ∧
 ¬(HT.bV xs.length 0 lo=0/\HT.bV xs.length xs.length hi=xs.length)/\∀p,H p=none->Q (.ref p) (upd H p (.tup (sT xs lo hi)))
theorem FV:wd X (Nl X.K):=by
 intro pins s σ H x v vl vu lo hi sl Q I rx hs pl pu h;obtain⟨a,xs,rfl,hx,hw,q⟩:=h;cases rx;obtain⟨its,r,ht,hz⟩:=I.tuple hx;have hlen:its.toArray.size=xs.length:=by rw[υ];exact r.length.symm
 refine⟨"tuple",_,bB.lookup,ht.typeIs,?_⟩;refine HT.t4 ht hs pl pu (by rw[hlen];exact hw) ?_ (by rw[hlen];exact hz);rw[hlen];refine⟨.ref s.heap.objs.size,_,I.laid (t':=s.toks) (o:=.tup (sT xs lo hi)) (fun b ob q=>η _ q) (Ω _) ?_,rfl,q _ (I.bf.fresh (Ω _))⟩;exact⟨aG (KE xs lo hi) hz,_,(r.drop (HT.bV xs.length 0 lo)).take (HT.bV xs.length xs.length hi-HT.bV xs.length 0 lo),ji.new _ _⟩
def FX(K:PySem.W.Frag):R2:=fun x y H Q=>∃a b ns ms,x=.ref a/\y=.ref b/\bZ K H a (ns.map V.int)/\bZ K H b (ms.map V.int)/\Q (.bl (HT.lexLt ns ms)) H
theorem UQ(hu:X.A.units<cLine):ed X (compareOp .Lt) (FX X.K):=by
 intro pins s σ H x y v u Q I rx ry h;obtain⟨a,b,ns,ms,rfl,rfl,ha,hb,q⟩:=h;cases rx;cases ry;obtain⟨its,r1,p1,_⟩:=I.tuple ha;obtain⟨its2,r2,p2,_⟩:=I.tuple hb;have i1:gf its.toArray.toList ns:=intsAre_of r1;have i2:gf its2.toArray.toList ms:=intsAre_of r2;exact HT.Ao p1 p2 i1 i2 hu ⟨.bl (HT.lexLt ns ms),H,I,rfl,q⟩
def EF(K:PySem.W.Frag):R2:=fun x y H Q=>∃a b xs ys,x=.ref a/\y=.ref b/\bZ K H a xs/\bZ K H b ys/\xs≠[]/\xs.length+ys.length≤ai ∧
 (ys=[]->Q (.ref a) H)/\(ys≠[]->∀p,H p=none->Q (.ref p) (upd H p (.tup (xs++ys))))
theorem aS.vR{xs:List V}{us:List Value}(r:aS xs us):us=[]↔xs=[]:=by
 cases r with
 |nil=>simp
 |cons _ _=>simp
theorem Fz:ed X (binaryOp .Add) (EF X.K):=by
 intro pins s σ H x y v u Q I rx ry h;obtain⟨a,b,xs,ys,rfl,rfl,ha,hb,hx,hz,q1,q2⟩:=h;cases rx;cases ry;obtain⟨its,r1,p1,_⟩:=I.tuple ha;obtain⟨its2,r2,p2,_⟩:=I.tuple hb;refine HT.FF p1 p2 (fun z=>hx (r1.vR.mp z)) (fun z=>⟨.ref a,H,I,rfl,q1 (r2.vR.mp z)⟩) (fun z=>?_) (by rw[←r1.length,←r2.length];exact hz);refine⟨.ref s.heap.objs.size,_,I.laid (t':=s.toks) (o:=.tup (xs++ys)) (fun b ob q=>η _ q) (Ω _) ?_,rfl,q2 (fun w=>z (r2.vR.mpr w)) _ (I.bf.fresh (Ω _))⟩;exact⟨by rw[aF];exact hz,_,r1.append r2,ji.new _ _⟩
end
end L2
namespace L2
open PySem PySem.Spec PyProof.Rows
def sL(n:Nat)(i:Int):Option Nat:=if 0≤i then (if i<n then some i.toNat else none) else if -(n:Int)≤i then some (i+n).toNat else none
def kr{α:Type}(xs:List α)(i:Int):Option α:=(sL xs.length i).bind fun j=>xs[j]?
theorem KD{n:Nat}{i:Int}{j:Nat}(h:sL n i=some j):seqIndex? i n=some j/\j<n/\-(n:Int)≤i/\i<n:=by
 unfold sL at h;by_cases h0:0≤i
 ·rw[if_pos h0] at h;by_cases h1:i<n
  ·rw[if_pos h1] at h;have e:i.toNat=j:=ao h;exact⟨by rw[pX h0 h1,e],by lia,by lia,h1⟩
  ·rw[if_neg h1] at h;cases h
 ·rw[if_neg h0] at h;by_cases h1:-(n:Int)≤i
  ·rw[if_pos h1] at h;have e:(i+n).toNat=j:=ao h;exact⟨by rw[seqIndex_neg (by lia) h1,e],by lia,h1,by lia⟩
  ·rw[if_neg h1] at h;cases h
theorem zT{α:Type}{xs:List α}{i:Int}{v:α}(h:kr xs i=some v):∃j,seqIndex? i xs.length=some j/\xs[j]?=some v/\j<xs.length/\-(xs.length:Int)≤i/\i<xs.length:=by
 unfold kr at h;cases e:sL xs.length i with
 |none=>rw[e] at h;cases h
 |some j=>
  rw[e] at h;obtain⟨h1,h2,h3,h4⟩:=KD e;exact⟨j,h1,h,h2,h3,h4⟩
theorem zS{α:Type}{xs:List α}{j:Nat}{v:α}(h:xs[j]?=some v):kr xs (j:Int)=some v:=by
 have hj:j<xs.length:=(aN.mp h).1;have e:sL xs.length (j:Int)=some j:=by
  unfold sL;rw[if_pos (by lia),if_pos (by lia)];simp
 unfold kr;rw[e];exact h
def qg(b:ο):Prop:=∀o i,subscripted b false o i=operate [o,i] (getItem o i)
def vj(X:Cx)(r:R2):Prop:=
 ∀(value slice:ο) (pins:List (ε×aA)) (s:ζ) (σ:St) (H:Hp) (x y:V) (v u:Value) (Q:VK),Inv X pins σ H s->RelV x v->RelV y u->r x y H Q ->
  subscripted slice false v u=operate [v,u] (getItem v u)->μ (model X.prog X.w) X.A (subscriptTail value slice v u) (EP X pins σ Q) X.xe s
def Cg(X:Cx)(id:String)(r:V->List V->Hp->VK->Prop):Prop:=
 ∀(pins:List (ε×aA)) (s:ζ) (σ:St) (H:Hp) (x:V) (xs:List V) (v:Value) (us:List Value) (Q:VK),Inv X pins σ H s->RelV x v->aS xs us->r x xs H Q ->
  μ (model X.prog X.w) X.A (call (.builtin id) (v::us)) (EP X pins σ Q) X.xe s
section
variable {X:Cx} {a b:ο} {ta tb:TE} {pos:ay}
theorem vj.or{r r':R2}(h:vj X r)(h':vj X r'):vj X (fun x y H Q=>r x y H Q∨r' x y H Q):=by
 intro value slice pins s σ H x y v u Q I rx ry q hs;rcases q with q|q
 ·exact h value slice pins s σ H x y v u Q I rx ry q hs
 ·exact h' value slice pins s σ H x y v u Q I rx ry q hs
theorem KC{r:R2}(hr:vj X r)(ha:PE X a ta)(hb:PE X b tb)(hs:qg b):PE X (.Subscript a b pos) (BK r ta tb):=by
 intro pins s σ H Q I h;exact Subscript_ (Er ha hb I h fun v u s2 x y H2 I2 rx ry q=>hr a b pins s2 σ H2 x y v u Q I2 rx ry q (hs _ _))
def Cp(K:PySem.W.Frag):R2:=fun x y H Q=>∃p xs i v,x=.ref p/\y=.int i/\ff K H p xs/\kr xs i=some v/\Q v H
def FZ(K:PySem.W.Frag):R2:=fun x y H Q=>∃p xs i v,x=.ref p/\y=.int i/\bZ K H p xs/\kr xs i=some v/\Q v H
def Gc:R2:=fun x y H Q=>∃z i c,x=.str z/\y=.int i/\z.length≤ai/\kr z.cps.toList i=some c/\Q (.str ⟨#[c]⟩) H
theorem FD:vj X (Cp X.K):=by
 intro value slice pins s σ H x y v u Q I rx ry h hs;obtain⟨p,xs,i,z,rfl,rfl,hq,he,q⟩:=h;cases rx;obtain⟨t,rfl⟩:=ry;obtain⟨its,r,pl,hz⟩:=I.list hq;obtain⟨j,h1,h2,h3,h4,h5⟩:=zT he;obtain⟨w,ew,rw'⟩:=r.get h2;have hl:=r.length;have hn:=nQ;have fin:EP X pins σ Q w s:=⟨z,H,I,rw',q⟩;by_cases h0:0≤i
 ·have hj:i.toNat=j:=by
   rw[pX h0 h5] at h1;exact ao h1
  exact item_listR pl.isList h0 (by lia) (by rw[hj];simpa using ew) fin hs
 ·have hj:(i+(its.toArray.size:Int)).toNat=j:=by
   rw[seqIndex_neg (by lia) h4] at h1;rw[υ,←hl];exact ao h1
  exact subscriptTail_builtinR (x:=w) pl.isList.typeIs slot_list_getitem.lookup
   (wpAny_getItem_list_neg (Q:=fun r s'=>r=w/\EP X pins σ Q r s') pl.isList (by lia) (by rw[υ]<;>lia) (by lia) (by rw[hj];simpa using ew) ⟨rfl,fin⟩) hs
theorem Lc:vj X (FZ X.K):=by
 intro value slice pins s σ H x y v u Q I rx ry h hs;obtain⟨p,xs,i,z,rfl,rfl,hq,he,q⟩:=h;cases rx;obtain⟨t,rfl⟩:=ry;obtain⟨its,r,pl,hz⟩:=I.tuple hq;obtain⟨j,h1,h2,h3,h4,h5⟩:=zT he;obtain⟨w,ew,rw'⟩:=r.get h2;have hl:=r.length;have hn:=nQ;have fin:EP X pins σ Q w s:=⟨z,H,I,rw',q⟩;exact subscriptTail_builtinR (x:=w) pl.typeIs slot_tuple_getitem.lookup
  (getItem_tuple (j:=j) (Q:=fun r s'=>r=w/\EP X pins σ Q r s') pl (by lia) (by lia) (by rw[υ,←hl];exact h1) (by simpa using ew) ⟨rfl,fin⟩) hs
theorem UP:vj X Gc:=by
 intro value slice pins s σ H x y v u Q I rx ry h hs;obtain⟨z,i,c,rfl,rfl,hz,he,q⟩:=h;obtain⟨t,rfl⟩:=rx;obtain⟨t',rfl⟩:=ry;obtain⟨j,h1,h2,h3,h4,h5⟩:=zT he;have hl:z.cps.toList.length=z.length:=by simp[ι.length]
 rw[hl] at h1 h4 h5;have hn:=nQ;exact tail_any (typeIs_str s z t) slot_str_getitem.lookup (getItem_str (c:=c) (by
  have e1:decide (i < -(2^63:Int))=false:=decide_eq_false (by lia);have e2:decide (i≥2^63)=false:=decide_eq_false (by lia);rw[e1,e2,Bool.or_false]) (by rw[h1];simpa using h2) ⟨.str ⟨#[c]⟩,H,I.tok _,⟨_,rfl⟩,q⟩) hs
def MR(K:PySem.W.Frag):R2:=fun x y H Q=>Cp K x y H Q∨FZ K x y H Q∨Gc x y H Q
theorem KA:vj X (MR X.K):=FD.or (Lc.or UP)
theorem UO(its:List Value)(n j:Nat)(u:Value):bu (·.setIfInBounds j u) { cls:=.type "list",data:=.seq its.toArray n }={ cls:=.type "list",data:=.seq (its.set j u).toArray n }:=by
 simp[bu]
theorem Inv.lst{pins:List (ε×aA)}{σ:St}{H:Hp}{s:ζ}{p:ε}{xs:List V}(I:Inv X pins σ H s)(h:H p=some (.lst xs)):
  ∃(its:List Value) (n:Nat),aS xs its/\s.heap.get? p=some { cls:=.type "list",data:=.seq its.toArray n }/\xs.length≤ai:=by
 obtain⟨z,its,n,r,e⟩:=I.bf p _ h;exact⟨its,n,r,e,z⟩
theorem Inv.K6{pins:List (ε×aA)}{σ:St}{H:Hp}{s:ζ}{p:ε}{xs ys:List V}{its its':List Value}{n n':Nat}{f:aA->aA}(I:Inv X pins σ H s)(h:H p=some (.lst xs))
  (ho:s.heap.get? p=some { cls:=.type "list",data:=.seq its.toArray n }) (hf:f { cls:=.type "list",data:=.seq its.toArray n }={ cls:=.type "list",data:=.seq its'.toArray n' }) (r:aS ys its') (hz:ys.length≤ai) (t:Nat):
  Inv X pins σ (upd H p (.lst ys)) { s with heap:=s.heap.update p f,toks:=t }:=by
 have e:(s.heap.update p f).get? p=some { cls:=.type "list",data:=.seq its'.toArray n' }:=by
  rw[bJ f ho (by rw[hf]<;>rfl),hf]
 refine I.write (x:=p) (e:=p) (by rw[h];trivial) (.inl rfl) (fun b u hb q=>(bq _ _ (da hb)).trans q) ⟨_,e⟩ ?_;exact⟨hz,its',n',r,e⟩
def ED:V->V->V->Hp->(Hp->Prop)->Prop:=fun o i v H Q=>∃p xs k j,o=.ref p/\i=.int k/\H p=some (.lst xs)/\sL xs.length k=some j/\Q (upd H p (.lst (xs.set j v)))
theorem set_list:Es X ED:=by
 intro pins s σ H o i v ov iv u Q I ro ri rv h;obtain⟨p,xs,k,j,rfl,rfl,hp,hj,q⟩:=h;cases ro;obtain⟨t,rfl⟩:=ri;obtain⟨its,n,r,ho,hz⟩:=I.lst hp;obtain⟨h1,h2,h3,h4⟩:=KD hj;have hl:=r.length;have hn:=nQ;have I':Inv X pins σ (upd H p (.lst (xs.set j v))) { s with heap:=s.heap.update p (bu (·.setIfInBounds j u))}:=
  I.K6 hp ho (UO its n j u) (r.set rv j) (by rw[List.length_set];exact hz) s.toks
 by_cases h0:0≤k
 ·have hk:k.toNat=j:=by
   rw[pX h0 h4] at h1;exact ao h1
  exact PySem.W.ki_setAt ho h0 (by lia) (by rw[υ,←hl];exact h4) (by rw[hk];exact⟨_,I',q⟩)
 ·have hk:(k+(its.toArray.size:Int)).toNat=j:=by
   rw[seqIndex_neg (by lia) h3] at h1;rw[υ,←hl];exact ao h1
  exact PySem.W.ki_setBack ho (by lia) (by rw[υ,←hl];exact h3) (by lia) (by rw[hk];exact⟨_,I',q⟩)
theorem UN(lo hi:Option Int)(n:Nat):(sliceBounds lo hi none n).1=((HT.bV n 0 lo:Nat):Int)/\(sliceBounds lo hi none n).2.1=((HT.bV n n hi:Nat):Int)/\(sliceBounds lo hi none n).2.2=1:=by
 refine⟨?_,?_,rfl⟩
 ·cases lo with
  |none=>simp[sliceBounds,HT.bV]
  |some i=>
   simp only[sliceBounds,HT.bV,uM,show (1:Int) > 0 by decide,if_true];by_cases h:i<0
   ·simp only[h,if_true]<;>lia
   ·simp only[h,if_false]<;>lia
 ·cases hi with
  |none=>simp[sliceBounds,HT.bV]
  |some i=>
   simp only[sliceBounds,HT.bV,uM,show (1:Int) > 0 by decide,if_true];by_cases h:i<0
   ·simp only[h,if_true]<;>lia
   ·simp only[h,if_false]<;>lia
theorem UM(its:List Value)(lo hi:Option Int):slicePick its.toArray lo hi none=((its.drop (HT.bV its.length 0 lo)).take (HT.bV its.length its.length hi-HT.bV its.length 0 lo)).toArray:=by
 obtain⟨h1,h2,h3⟩:=UN lo hi its.toArray.size;unfold slicePick;rw[h1,h2,h3];simp only[sliceRange_one,pick_run,υ]<;>rfl
def Nm(K:PySem.W.Frag):V->Option Int->Option Int->Hp->VK->Prop:=fun x lo hi H Q=>∃a xs,x=.ref a/\ff K H a xs/\∀p,H p=none->Q (.ref p) (upd H p (.lst (sT xs lo hi)))
theorem UL:wd X (Nm X.K):=by
 intro pins s σ H x v vl vu lo hi sl Q I rx hs pl pu h;obtain⟨a,xs,rfl,hx,q⟩:=h;cases rx;obtain⟨its,r,ht,hz⟩:=I.list hx;have hlen:=r.length;refine⟨"list",_,slot_list_getitem.lookup,ht.isList.typeIs,?_⟩;refine wpAny_getItem_list_slice ht.isList hs pl pu .none (by simp) ?_ (by rw[υ]<;>lia)
 rw[UM,←hlen];refine⟨.ref s.heap.objs.size,_,I.laid (t':=s.toks) (o:=.lst (sT xs lo hi)) (fun b ob q=>η _ q) (Ω _) ?_,rfl,q _ (I.bf.fresh (Ω _))⟩;exact⟨aG (KE xs lo hi) hz,_,0,(r.drop (HT.bV xs.length 0 lo)).take (HT.bV xs.length xs.length hi-HT.bV xs.length 0 lo),ψ _ rfl⟩
theorem UK:gB X (.builtin "len") (fun xs H Q=>∃p ys,xs=[.ref p]/\(ff X.K H p ys∨bZ X.K H p ys)/\Q (.int ys.length) H):=by
 intro pins s σ H xs us Q I r h;obtain⟨p,ys,rfl,hq,q⟩:=h;obtain⟨u,rfl,rx⟩:=vals1 r;cases rx;have hn:=nQ;rcases hq with hq|hq
 ·obtain⟨its,r',pl,hz⟩:=I.list hq;have hlen:=r'.length;exact Calls.call_len_list pl.isList (by simp only[υ]<;>lia) ⟨.int ys.length,H,I.tok _,⟨s.toks+1,by rw[υ,hlen]⟩,q⟩
 ·obtain⟨its,r',pl,hz⟩:=I.tuple hq;have hlen:=r'.length;exact len_tuple pl (by simp only[υ]<;>lia) ⟨.int ys.length,H,I.tok _,⟨s.toks+1,by rw[υ,hlen]⟩,q⟩
theorem UJ:gB X (.type "list") (fun xs H Q=>∃p ys,xs=[.ref p]/\(ff X.K H p ys∨bZ X.K H p ys)/\∀l,H l=none->Q (.ref l) (upd H l (.lst ys))):=by
 intro pins s σ H xs us Q I r h;obtain⟨p,ys,rfl,hq,q⟩:=h;obtain⟨u,rfl,rx⟩:=vals1 r;cases rx;have fin:∀(its:List Value),aS ys its->ys.length≤ai->∀(h':Ξ) (c':Nat),(∀b o',s.heap.get? b=some o'->h'.get? b=some o') ->
   h'.get? s.heap.objs.size=some { cls:=.type "list",dict:=none,data:=.seq its.toArray c',slots:=#[]}->EP X pins σ Q (.ref s.heap.objs.size) { s with heap:=h' }:=fun its r' hz h' c' kp e=>
  ⟨.ref s.heap.objs.size,_,I.laid (t':=s.toks) kp (Ω _) (show bH X.prog X.w _ h' _ (.lst ys) from⟨hz,its,c',r',e⟩),rfl,q _ (I.bf.fresh (Ω _))⟩
 rcases hq with hq|hq
 ·obtain⟨its,r',pl,hz⟩:=I.list hq;have hlen:=r'.length;obtain⟨o,ho,hc,n,hd⟩:=pl.isList;exact call_list_seq p (.inl rfl) ho hc hd (fun h' c' kp e=>fin its r' hz h' c' kp e) (by simp only[υ]<;>lia)
 ·obtain⟨its,r',pl,hz⟩:=I.tuple hq;have hlen:=r'.length;obtain⟨o,ho,hc,n,hd⟩:=pl;exact call_list_seq p (.inr rfl) ho hc hd (fun h' c' kp e=>fin its r' hz h' c' kp e) (by simp only[υ]<;>lia)
theorem UI:gB X (.type "tuple") (fun xs H Q=>∃p ys,xs=[.ref p]/\((ff X.K H p ys/\∀l,H l=none->Q (.ref l) (upd H l (.tup ys)))∨(bZ X.K H p ys/\Q (.ref p) H))):=by
 intro pins s σ H xs us Q I r h;obtain⟨p,ys,rfl,h⟩:=h;obtain⟨u,rfl,rx⟩:=vals1 r;cases rx;rcases h with⟨hq,q⟩|⟨hq,q⟩
 ·obtain⟨its,r',pl,hz⟩:=I.list hq;have hlen:=r'.length;refine call_tuple_list pl.isList (fun h' kp=>?_) (by simp only[υ]<;>lia)
  have I1:Inv X pins σ H { s with heap:=h' }:=I.kept (t':=s.toks) kp;have I2:Inv X pins σ (upd H h'.objs.size (.tup ys)) { s with heap:=h'.push { cls:=.type "tuple",data:=.seq its.toArray }}:=
   I1.laid (t':=s.toks) (fun b o e=>η _ e) (Ω _) (show bH X.prog X.w _ _ _ (.tup ys) from⟨hz,its,r',ji.new _ _⟩)
  exact⟨.ref h'.objs.size,_,I2,rfl,q _ (I1.bf.fresh (Ω _))⟩
 ·obtain⟨its,r',pl,hz⟩:=I.tuple hq;exact call_tuple_same pl ⟨.ref p,H,I,rfl,q⟩
def MQ(K:PySem.W.Frag)(T:String)(x:V)(H:Hp):Prop:=match x with
 |.str _=>T="str"
 |.int _=>T="int"
 |.ref p=>(T="list"/\∃xs,ff K H p xs)∨(T="tuple"/\∃o,K.lookup p=some o/\o.cls=.type "tuple"/\o.dict=none) ∨
   (T="dict"/\((∃kvs,H p=some (.dK kvs))∨∃kvs,H p=some (.dT kvs)))∨(T="set"/\∃S n,H p=some (.set S n))
 |_=>False
theorem UH{pins:List (ε×aA)}{σ:St}{H:Hp}{s:ζ}{T:String}{x:V}{v:Value}(I:Inv X pins σ H s)(r:RelV x v)(ty:MQ X.K T x H):
  s.TypeIs v T/\∀a,v=.ref a->∃ob,s.heap.get? a=some ob/\ob.dict=none:=by
 cases x with
 |str z=>
  obtain⟨t,rfl⟩:=r;cases (show T="str" from ty);exact⟨typeIs_str s z t,fun _ e=>nomatch e⟩
 |int i=>
  obtain⟨t,rfl⟩:=r;cases (show T="int" from ty);exact⟨typeIs_int s i t,fun _ e=>nomatch e⟩
 |ref p=>
  cases r;rcases ty with⟨rfl,xs,hq⟩|⟨rfl,o,hk,hc,hd⟩|⟨rfl,hk⟩|⟨rfl,S,n,hk⟩
  ·obtain⟨its,_,pl,_⟩:=I.list hq;refine⟨pl.isList.typeIs,fun a e=>?_⟩;cases e;obtain⟨o,n,e,c,hd,_⟩:=pl;exact⟨o,e,hd⟩
  ·refine⟨⟨o,I.fC p o hk,hc⟩,fun a e=>?_⟩;cases e;exact⟨o,I.fC _ o hk,hd⟩
  ·have z:∃o,s.heap.get? p=some o/\o.ExactDict:=by
    rcases hk with⟨kvs,hk⟩|⟨kvs,hk⟩
    ·obtain⟨_,_,_,_,o,_,_,e,ex,_⟩:=I.bf p _ hk;exact⟨o,e,ex⟩
    ·obtain⟨_,_,_,_,o,_,_,e,ex,_⟩:=I.bf p _ hk;exact⟨o,e,ex⟩
   obtain⟨o,e,ex⟩:=z;refine⟨⟨o,e,ex.1⟩,fun a e2=>?_⟩;cases e2;exact⟨o,e,ex.2.1⟩
  ·obtain⟨o,_,_,_,e,ex,_⟩:=I.bf p _ hk;refine⟨⟨o,e,ex.1⟩,fun a e2=>?_⟩;cases e2;exact⟨o,e,ex.2.1⟩
 |_=>exact bo ty
def FU(K:PySem.W.Frag)(T:String)(r:V->List V->Hp->VK->Prop)(to:TE)(t:TA):TE:=fun σ H Q=>to σ H fun x H1=>MQ K T x H1/\t σ H1 fun xs H2=>r x xs H2 Q
variable {o e:ο} {es:List ο} {to:TE} {t:TA} {name:ι} {apos cpos:ay} {T id:String} {r:V->List V->Hp->VK->Prop}
theorem UG(pa:PlainAttrs T)(slot:Slot T name id)(hty:typeOf (.builtin id)=pure (.type "method_descriptor"))(hm:Cg X id r)(ho:PE X o to)(ha:PA X (e::es) t)
  (qX:attributeBase o name X.env (eval o X.env)=eval o X.env:=by rfl)
  (D1:((backTo cpos (bx (e::es) X.env)).all (fun x=>!x.1)&&(backToKw cpos (keywordEach [] X.env)).all (fun x=>x.1.isSome)
   && decide ((e::es).length+([]:List Keyword).length+(if ([]:List Keyword).isEmpty then 0 else 1)<30))=true:=by rfl)
  (Av:(apos.endLine==cpos.line)=true:=by rfl) (hs:bx (e::es) X.env=(false,eval e X.env)::bx es X.env:=by rfl) (hplain:(backTo cpos (bx es X.env)).any (·.1)=false:=by rfl):
  PE X (.Call (.Attribute o name apos) (e::es) [] cpos) (FU X.K T r to t):=by
 intro pins s σ H Q I h;refine wpAny_Call_method_late qX D1 Av rfl (br (ho pins s σ H _ I h) fun v s1 ⟨x,H1,I1,r1,ty,q1⟩=>?_);obtain⟨h1,h2⟩:=UH I1 r1 ty;refine⟨T,id,pa,slot,hty,h1,h2,?_⟩;have hA:=ha cpos pins s1 σ H1 _ I1 q1;rw[hs] at hA ⊢;refine Calls.callWith_builtin (by show (false||(backTo cpos (bx es X.env)).any (·.1))=false;rw[hplain]<;>rfl) (Calls.evalArgs_plain ?_)
 exact br hA fun us s2 ⟨vs,H2,I2,r2,q2⟩=>hm pins s2 σ H2 x vs v us Q I2 r1 r2 q2
/- xs.append(e),list.index on a module's tuple .. are Cg facts of 06m -/
end
end L2
namespace L2
open PySem PySem.Spec PyProof.Rows
def M1(X:Cx)(id:String)(r:V->List V->Hp->VK->Prop):Prop:=
 ∀(pins:List (ε×aA)) (s:ζ) (σ:St) (H:Hp) (x:V) (xs:List V) (v:Value) (us:List Value) (Q:VK),Inv X pins σ H s->RelV x v->aS xs us->r x xs H Q ->
  μ (model X.prog X.w) X.A (call (.builtin id) (v::us)) (EP X pins σ Q) X.xe s
theorem aS.one:∀{x:V} {us:List Value},aS [x] us->∃u,us=[u]/\RelV x u
 |_,_,.cons r .nil=>⟨_,rfl,r⟩
theorem aS.zero:∀{us:List Value},aS [] us->us=[]
 |_,.nil=>rfl
theorem aS.reverse{xs:List V}{us:List Value}(h:aS xs us):aS xs.reverse us.reverse:=by
 induction h with
 |nil=>exact .nil
 |cons r t ih=>rw[jR,jR];exact aS.append ih (.cons r .nil)
theorem aS.rep{xs:List V}{us:List Value}(h:aS xs us):∀k:Nat,aS (bj k xs).flatten (bj k us).flatten
 |0=>.nil
 |k+1=>by
  rw[fg,fg,gV,gV];exact aS.append h (aS.rep h k)
theorem foldl_rep(its:List Value):∀(k:Nat) (acc:List Value),
  vw (fun x1 x2=>x1++x2) acc.toArray (bj k its.toArray)=(acc++(bj k its).flatten).toArray
 |0,acc=>by simp
 |k+1,acc=>by
  have e:acc.toArray++its.toArray=(acc++its).toArray:=by simp
  have e2:(acc++its)++(bj k its).flatten=acc++(bj (k+1) its).flatten:=by
   rw[fg,gV,mR]
  rw[←e2,←foldl_rep its k (acc++its),←e,fg,List.foldl_cons]
section
variable {X:Cx} {pins:List (ε×aA)} {σ:St} {H:Hp} {s:ζ} {l b:ε} {xs ys zs:List V}
theorem Inv.K8{its its':List Value}{n:Nat}{f:Array Value->Array Value}{t':Nat}(I:Inv X pins σ H s)(hH:H l=some (.lst xs))
  (e:s.heap.get? l=some { cls:=.type "list",data:=.seq its.toArray n }) (hf:f its.toArray=its'.toArray) (hv:aS ys its') (hz:ys.length≤ai):
  Inv X pins σ (upd H l (.lst ys)) { s with heap:=s.heap.update l (bu f),toks:=t' }:=by
 have q:=PySem.IsL.update e f;rw[hf] at q;refine I.write (x:=l) (e:=l) (by rw[hH];exact trivial) (.inl rfl) (fun b' u hb hu=>(bq s.heap (bu f) (da hb)).trans hu) ⟨_,q⟩ ?_;exact⟨hz,its',_,hv,q⟩
theorem Inv.DX{its:List Value}{t':Nat}(I:Inv X pins σ H s)(hv:aS ys its)(hz:ys.length≤ai):
  Inv X pins σ (upd H s.heap.objs.size (.lst ys)) { s with heap:=s.heap.push { cls:=.type "list",data:=.seq its.toArray },toks:=t' }:=
 I.laid (fun _ _ q=>η _ q) (Ω _) ⟨hz,its,0,hv,ψ _ rfl⟩
theorem Inv.fresh(I:Inv X pins σ H s):H s.heap.objs.size=none:=I.bf.fresh (Ω _)
theorem Inv.sG(I:Inv X pins σ H s)(hH:H l=some (.lst xs)):xs.length≤ai/\∃(its:List Value) (n:Nat),aS xs its/\xs.length=its.length/\s.heap.get? l=some { cls:=.type "list",data:=.seq its.toArray n }:=by
 obtain⟨z,its,n,r,e⟩:=I.bf l _ hH;exact⟨z,its,n,r,r.length,e⟩
theorem xW{n:Nat}(h:n≤ai):gq n=false:=by
 unfold gq;exact decide_eq_false (by lia)
end
section
variable {X:Cx}
def yF:V->List V->Hp->VK->Prop:=fun x vs H Q=>∃l xs y,x=.ref l/\vs=[y]/\H l=some (.lst xs)/\xs.length<ai/\Q .az (upd H l (.lst (xs++[y])))
theorem Kz:M1 X "list.append" yF:=by
 intro pins s σ H x vs v us Q I rx rv h;obtain⟨l,xs,y,rfl,rfl,hH,hz,q⟩:=h;cases rx;obtain⟨u,rfl,ru⟩:=rv.one;obtain⟨z,its,n,r,hl,e⟩:=I.sG hH;refine kY F.slot_list_append ⟨_,e,rfl⟩ F.entry_list_append (F.args_list_append_2 _ _) (PySem.list_append l its.toArray n u (by rw[υ];lia)) ⟨e,?_⟩;refine⟨.az,_,I.K8 (its':=its++[u]) hH e (by simp) (r.append (.cons ru .nil)) ?_,rfl,q⟩;rw[aF,g9];lia
def Fx:V->List V->Hp->VK->Prop:=fun x vs H Q=>∃l b xs zs,x=.ref l/\vs=[.ref b]/\H l=some (.lst xs)/\H b=some (.lst zs)/\xs.length+zs.length≤ai/\Q .az (upd H l (.lst (xs++zs)))
theorem aaF:M1 X "list.extend" Fx:=by
 intro pins s σ H x vs v us Q I rx rv h;obtain⟨l,b,xs,zs,rfl,rfl,hH,hB,hz,q⟩:=h;cases rx;obtain⟨u,rfl,ru⟩:=rv.one;cases ru;obtain⟨z,its,n,r,hl,e⟩:=I.sG hH;obtain⟨z2,its2,n2,r2,hl2,e2⟩:=I.sG hB;have hsz:its.toArray.size+its2.toArray.size≤ai:=by rw[υ,υ];lia
 have hlong:¬(!its.toArray.isEmpty&&gq (its.toArray.size+its2.toArray.size))=true:=by
  rw[xW hsz,Bool.and_false];exact ak
 refine kY F.slot_list_extend ⟨_,e,rfl⟩ F.entry_list_extend (F.args_list_extend_2 _ _)
  (AutoSeq1.list_extend_list_list_0 l its.toArray n b its2.toArray n2 hlong (by rw[υ];lia) (by lia)) ⟨e,e2,?_⟩
 refine⟨.az,_,I.K8 (its':=its++its2) hH e (by simp) (r.append r2) ?_,rfl,q⟩;rw[aF];lia
def Ge:R2:=fun x y H Q=>∃l b xs zs,x=.ref l/\y=.ref b/\H l=some (.lst xs)/\H b=some (.lst zs)/\xs.length+zs.length≤ai/\∀p,H p=none->Q (.ref p) (upd H p (.lst (xs++zs)))
theorem KO:ed X (binaryOp .Add) Ge:=by
 intro pins s σ H x y v u Q I rx ry h;obtain⟨l,b,xs,zs,rfl,rfl,hH,hB,hz,q⟩:=h;cases rx;cases ry;obtain⟨z,its,n,r,hl,e⟩:=I.sG hH;obtain⟨z2,its2,n2,r2,hl2,e2⟩:=I.sG hB;refine PySem.P.add_list e e2 ?_ (by rw[υ,υ];lia);have ea:its.toArray++its2.toArray=(its++its2).toArray:=by simp
 rw[ea];exact⟨.ref _,_,I.DX (t':=s.toks) (r.append r2) (by rw[aF];lia),rfl,q _ I.fresh⟩
def FW:R2:=fun x y H Q=>∃l k xs,x=.ref l/\y=.int k/\H l=some (.lst xs)/\-(2^63)≤k/\k<2^63/\xs.length*k.toNat≤ai ∧
 ∀p,H p=none->Q (.ref p) (upd H p (.lst (bj k.toNat xs).flatten))
theorem len_rep{α:Type}(xs:List α)(k:Nat):(bj k xs).flatten.length=k*xs.length:=by
 induction k with
 |zero=>simp
 |succ k ih=>rw[fg,gV,aF,ih,Nat.succ_mul,Nat.add_comm]
theorem UE:ed X (binaryOp .Mult) FW:=by
 intro pins s σ H x y v u Q I rx ry h;obtain⟨l,k,xs,rfl,rfl,hH,h1,h2,hz,q⟩:=h;cases rx;obtain⟨t,rfl⟩:=ry;obtain⟨z,its,n,r,hl,e⟩:=I.sG hH;have hlen:its.toArray.size*k.toNat≤ai:=by rw[υ,←hl];exact hz
 have hcap:¬its.toArray.size*k.toNat > (2^63-1) / 8:=by
  have:(ai:Nat)≤(2^63-1) / 8:=by decide
  lia
 have hfit:¬(!cM.List.listFitsIndex k)=true:=by
  rw[fitsIndex_both h1 h2];exact ak
 have hlong:¬gq (its.toArray.size*k.toNat)=true:=by
  rw[xW hlen];exact ak
 have hnew:vw (fun x1 x2=>x1++x2) #[] (bj (if its.toArray.isEmpty=true then 0 else k.toNat) its.toArray)=(bj k.toNat its).flatten.toArray:=by
  have f0:∀m:Nat,vw (fun x1 x2=>x1++x2) #[] (bj m its.toArray)=(bj m its).flatten.toArray:=fun m=>by
   have:=foldl_rep its m [];rw[dU] at this;exact this
  rw[f0];cases its with
  |nil=>simp
  |cons a r'=>rw[if_neg (by simp)]
 refine wpAny_binaryOp_repeat_ref (T:="list") (U:="int") (by decide) ⟨_,e,rfl⟩ (fun s'=>typeIs_int s' k t) noFill_list_mul F.fills_int_mul F.slot_int_rmul repeat_list F.slot_int_index.lookup
  (kY F.slot_int_rmul (typeIs_int s k t) F.entry_int_rmul (F.args_int_rmul_2 _ _) (int___rmul___int_list k t l its.toArray n)
   ⟨e,rfl,⟨_,e,rfl⟩,kY F.slot_list_mul ⟨_,e,rfl⟩ F.entry_list_mul (F.args_list_mul_2 _ _) (AutoListH.list___mul___list_int_3 l its.toArray n k t hfit hcap hlong) ⟨e,?_⟩⟩)
 rw[hnew];exact⟨.ref _,_,I.DX (t':=s.toks) (r.rep k.toNat) (by rw[len_rep,jn];exact hz),rfl,q _ I.fresh⟩
end
end L2
namespace M5
open PySem PySem.W PySem.Calls PyProof.Rows
theorem UD{P:Params}{h:Ξ}:∀(ns:List Int) (vs:List Value),WellAll P h vs (ns.map WData.int)->gf vs ns:=by
 intro ns
 induction ns with
 |nil=>
  intro vs w;rw[List.map_nil] at w;cases w;exact .nil
 |cons n ns ih=>
  intro vs w;rw[bP] at w;cases w with
  |cons a b=>
   cases a;exact .cons _ _ (ih _ b)
theorem UC{l:OpenLaw}{n:Nat}(hn:l.most=some n){P:Params}{h:Ξ}{args:List WData}{vals:List Value}
  (Au:l.row.toRowW.claim.pre args=true) (hwl:WellAll P h vals args):
  ∃a vs ns,vals=[Value.ref a]/\args=[WData.list (ns.map WData.int)]/\h.get? a=some { cls:=.type "list",data:=.seq vs.toArray }/\gf vs ns/\ns.length≤n:=by
 have hsh:WShape.hasAll [] args [.list .int]=true:=(pre_splitW Au).1;have hc:l.pre.holds [] { args:=args }=true:=(pre_splitW Au).2;obtain⟨d,r,rfl,h1,h2⟩:=hasAllW_cons hsh;obtain rfl:=hasAllW_nil h2;obtain⟨xs,rfl,h3⟩:=hasW_list h1;obtain⟨ns,rfl⟩:=items_int h3;have hlen:ns.length≤n:=by
  unfold OpenLaw.pre at hc;have h4:(WTm.not (.lt (.lit (.int (n:Int))) (.len (.arg 0)))).holds [] { args:=[.list (ns.map .int)]}=true:=by
   have h4:=(holds_andW hc).1;rw[hn] at h4;exact h4
  have h5:=condW_of h4 (w_not (w_lt w_lit (w_len_list (w_arg rfl))));rw[ν] at h5;refine Nat.le_of_not_lt fun q=>?_;have q':(n:Int)<((ns.length:Nat):Int):=by lia
  first
   | (rw[decide_eq_true q'] at h5;exact absurd h5 (by decide))
   | (simp at h5;lia)
 cases hwl with
 |cons w1 w2=>
  cases w2;cases w1 with
  |list ho hall=>exact⟨_,_,ns,rfl,rfl,ho,UD ns _ hall,hlen⟩
theorem UB(l:OpenLaw)(args:List WData):l.row.toRowW.claim.post args (.bool true) args=true:=
 postW_of (r:=l.row.toRowW) (X:=(true==true))
  (show WShape.has [] (.bool true) .bool=true by first|rfl|decide|simp[WShape.has,WShape.arms,WShape.armsAll])
  (show (WTm.eq .res (.lit (.bool true))).value [] { args:=args,res:=some (.bool true),after:=args }=some (.bool (true==true)) from w_eq_bool (w_res rfl) w_lit) rfl
theorem yx{l:OpenLaw}{n:Nat}{q:Ψ}{loose:List ι}{XP:(ι->Option Value)->Ξ->Prop}{YP:af->Ξ->Prop}{d:DefRec}
  (hn:l.most=some n) (hdf:d.params.defaults=[])
  (call:∀(w:af) (s₀ s₁:ζ) (mg mb:ι->Option Value) (fa:ε) (o:aA) (pm cd doc:Value) (a:ε) (vs:List Value) (ns:List Int),
   Ground q loose [] XP w s₀ mg mb s₁.heap->YP w s₁.heap ->
   s₁.heap.get? fa=some o->o.data=.func (docDef d.name d.params d.body d.scope pm cd doc)->s₁.heap.CodeRec cd d.name->mg d.name=some (.ref fa) ->
   s₁.heap.get? a=some { cls:=.type "list",data:=.seq vs.toArray }->gf vs ns->ns.length≤n->s₁.gens = #[] ->
   fF (model l.prog w) callerA (.call (.ref fa) ⟨[.ref a],[]⟩) (fun r s'=>r=.ok (.ret (.bool true))/\OldK s₁.heap s'.heap/\s'.os=s₁.os/\jF s'.gens) s₁):
  WalkO q loose XP YP l.row.toRowW d [] (fun f vs=>PySem.call f vs):=by
 intro w s₀ s₁ mg mb G Y fa o pm cd doc dV kV ho hd gQ hD hmg hg args vals as Au hlay mH hwl hlo;obtain rfl:dV=.none:=Dflts.none hD hdf;obtain rfl:kV=.none:=Dflts.noKw hD;obtain⟨a,vs,ns,rfl,rfl,hobj,hints,hlen⟩:=UC hn Au hwl;refine enter_call (cZ (call w s₀ s₁ mg mb fa o pm cd doc a vs ns G Y ho (fd_plain hd) gQ hmg hobj hints hlen hg) fun r s' hq=>?_);obtain⟨rfl,h2,h3,h4⟩:=hq;exact⟨.inl ⟨.bool true,.bool true,[],rfl,fun _=>rfl,.bool true,UB l _,fun _=>⟨t5,fun _ hm=>(nomatch hm)⟩⟩,h2,h3,h4⟩
end M5
namespace L2
open PySem PySem.Spec PyProof.Rows
theorem lX:∀{vs:List Value} {ns:List Int},gf vs ns->aS (ns.map V.int) vs
 |_,_,.nil=>.nil
 |_,_,.cons n t h=>.cons ⟨t,rfl⟩ (lX h)
def By(H:Hp):Prop:=∀b,H b=none∨∃o xs,H b=some (.cN o (.lst xs))
theorem UA{P:Ψ}{w:af}{K:PySem.W.Frag}{mg mb:ι->Option Value}{CX:qk}{k:Nat}{fa a:ε}{fd:ae}{x:ι}{sp:Sp}{s₁:ζ}{vs:List Value}{ns:List Int}
  (KX:K.In s₁.heap) (hns:s₁.heap.Ns aL mg) (hb:s₁.heap.Ns builtinsNs mb) (hbb:∀x:ι,x≠"__name__"->mb x=gk x) (hlim:s₁.heap.NoLimit) (hg:s₁.gens = #[])
  (ha:s₁.heap.get? a=some { cls:=.type "list",data:=.seq vs.toArray }) (hi:gf vs ns) (hl:ns.length≤ai) (hr:dy k callerA)
  (F:∀base:Ξ,K.In base->base.Ns aL mg->iG P w K mg base CX k fa fd [x] sp) (hbind:∀(s:ζ) (u:Value),lQ s fd ⟨[u],[]⟩ [(x,u)])
  (oJ:∀H:Hp,By H->ff K H a (ns.map V.int)->sp [.ref a] H (fun v _=>v=.bl true) fun _ _ _=>False)
  (Lf:∀H e s',CX [] H s₁ (fun _ _ _=>False) e s'->False):
  fF (model P w) callerA (.call (.ref fa) ⟨[.ref a],[]⟩) (fun r s'=>r=.ok (.ret (.bool true))/\OldK s₁.heap s'.heap/\s'.os=s₁.os/\jF s'.gens) s₁:=by
 have rv:=lX hi;have lenV:=hi.length
 -- from an abstract heap in which nothing but the script may be tracked
 have core:∀H:Hp,By H->ff K H a (ns.map V.int)->dJ P w H s₁.heap->(∀b,H b≠none->b=a)->(H a≠none->K.lookup a=none) ->
   fF (model P w) callerA (.call (.ref fa) ⟨[.ref a],[]⟩) (fun r s'=>r=.ok (.ret (.bool true))/\OldK s₁.heap s'.heap/\s'.os=s₁.os/\jF s'.gens) s₁:=by
  intro H hO hS bf hA hK;have base_of:∀{b:ε} {o:aA},s₁.heap.get? b=some o->H b=none->(qW s₁.heap H).get? b=some o:=fun e n=>VX e n;have noA:∀{b:ε} {o:aA} {es:Array tD} {ep:Nat},s₁.heap.get? b=some o->o.data=.dict es ep->H b=none:=fun {b o es ep} e d=>by
   cases q:H b with
   |none=>rfl
   |some u=>
    have e':b=a:=hA b (by rw[q];simp);subst e';rw[ha] at e;cases e;have d':Data.seq vs.toArray _=Data.dict es ep:=d;cases d'
  have nsK:∀{b:ε} {m:ι->Option Value},s₁.heap.Ns b m->(qW s₁.heap H).Ns b m:=fun {b m} ⟨o,es,ep,e,d,r⟩=>⟨o,es,ep,base_of e (noA e d),d,r⟩;have hKb:K.In (qW s₁.heap H):=fun b o e=>base_of (KX b o e) (by
   cases q:H b with
   |none=>rfl
   |some u=>
    have e':b=a:=hA b (by rw[q];simp);subst e';rw[hK (by rw[q];simp)] at e;cases e)
  have hM:Mod K mg (qW s₁.heap H):=⟨hKb,nsK hns,⟨mb,nsK hb,hbb⟩,let ⟨mc,h1,h2⟩:=hlim;⟨mc,nsK h1,h2⟩⟩
  have e0:nV P w K mg (qW s₁.heap H) callerA [] s₁ H:=⟨rfl,hM,fun b o e=>VW e,Nat.le_of_eq (VY _ _),trivial,fun b hb=>absurd (show b∈([]:List ε) from hb) (by simp),bf,.of_eq hg⟩;refine cZ ((F _ hKb (nsK hns)).run callerA [] s₁ H ⟨[.ref a],[]⟩ [.ref a] [.ref a] _ _ hr e0 (hbind s₁ (.ref a)) (.cons rfl .nil) (oJ H hO hS)) fun r s' h=>?_;cases r with
  |error e=>exact (Lf H e s' h).elim
  |ok fl=>
   cases fl with
   |next=>exact bo h
   |brk=>exact bo h
   |cont=>exact bo h
   |ret u=>
    obtain⟨v,H',os,bare,un,hok',r',q⟩:=h;have q':v=.bl true:=q;subst q';obtain rfl:u=Value.bool true:=r';refine⟨rfl,OldK.of_keep fun b o e=>?_,os,bare⟩;cases q:H b with
    |none=>exact un.keep b o e q (by intro z;exact absurd (show b∈([]:List ε) from z) (by simp)) (by simp)
    |some u=>
     rcases hO b with z|⟨ob,xs,z⟩
     ·rw[q] at z;cases z
     ·have z2:=un.gZ b ob _ z;obtain⟨e1,_⟩:=bf b _ z;obtain⟨e2,_⟩:=hok' b _ z2;rw[e] at e1;cases e1;exact e2
 cases hk:K.lookup a with
 |some o=>
  -- the script is one of the module's own objects
  have e:=KX a o hk;rw[ha] at e;cases e;refine core (fun _=>none) (fun _=>.inl rfl) (.inr ⟨_,vs.toArray,_,hk,rfl,rfl,rfl,by rw[υ,lenV];exact hl,by simpa using rv⟩) (fun b u z=>by have z':(none:Option HO)=some u:=z;cases z') (fun b z=>absurd rfl z) fun z=>absurd rfl z
 |none=>
  refine core (fun b=>if b=a then some (.cN { cls:=.type "list",data:=.seq vs.toArray } (.lst (ns.map V.int))) else none) (fun b=>?_) (.inl (.inr ⟨{ cls:=.type "list",data:=.seq vs.toArray },if_pos rfl⟩)) (fun b u z=>?_) (fun b z=>?_) fun _=>hk
  ·by_cases hb:b=a
   ·exact .inr ⟨_,_,if_pos hb⟩
   ·exact .inl (if_neg hb)
  ·by_cases hb:b=a
   ·have z':=(if_pos hb).symm.trans z;cases z';subst hb;exact⟨ha,by rw[ν];exact hl,vs,_,rv,ha⟩
   ·have z':=(if_neg hb).symm.trans z;cases z'
  ·by_cases hb:b=a
   ·exact hb
   ·exact absurd (if_neg hb) z
end L2
namespace L2
open PySem PySem.Spec PyProof.Rows
theorem yz{l:PySem.W.OpenLaw}{n k:Nat}{q:Ψ}{loose:List ι}{XP:(ι->Option Value)->Ξ->Prop}{YP:af->Ξ->Prop}{d:DefRec}{K:Params->PySem.W.Frag}{CX:af->qk}{sp:af->Sp}{x:ι}
  (hn:l.most=some n) (hn2:n≤ai) (hdf:d.params.defaults=[]) (hr:dy k callerA)
  (hY:∀(w:af) (h:Ξ),YP w h->(K w.params).In h)
  (F:∀(w:af) (mg:ι->Option Value) (fa:ε) (h:Ξ),(K w.params).In h->h.Ns aL mg->mg d.name=some (.ref fa) ->
   ∃fd:ae,(∀(s:ζ) (u:Value),lQ s fd ⟨[u],[]⟩ [(x,u)]) ∧
    ∀base:Ξ,(K w.params).In base->base.Ns aL mg->iG l.prog w (K w.params) mg base (CX w) k fa fd [x] (sp w))
  (oJ:∀(w:af) (H:Hp) (a:ε) (ns:List Int),ns.length≤n->By H->ff (K w.params) H a (ns.map V.int)->sp w [.ref a] H (fun v _=>v=.bl true) fun _ _ _=>False)
  (Lf:∀(w:af) (H:Hp) (s:ζ) (e:Value) (s':ζ),CX w [] H s (fun _ _ _=>False) e s'->False):
  PySem.W.WalkO q loose XP YP l.row.toRowW d [] (fun f vs=>PySem.call f vs):=by
 refine M5.yx hn hdf fun w s₀ s₁ mg mb fa o pm cd doc a vs ns G Y ho hd gQ hmg hobj hints hlen hg=>?_;have KX:=hY w _ Y;obtain⟨fd,hb,hF⟩:=F w mg fa _ KX G.T.g hmg;exact UA KX G.T.g G.T.b G.T.builtins G.T.nolimit hg hobj hints (aG hlen hn2) hr hF hb (fun H hO hS=>oJ w H a ns hlen hO hS) fun H e s'=>Lf w H s₁ e s'
end L2
/- THE LAST THEOREM (shape;LID,My.* are yours):
  My.Ft: a structure of the addresses that your layer names (classes,functions);My.Txt K t: a structure (Prop) of the equations over K;
  My.wL:{K} {implicit addresses ..} (e1:nsIn K aL "law" = some (some (.ref f))) (e2:K.lookup f=some ⟨oc,od,.func (fnOf "law" "law" params body scope dV kV doc pm an cdv ct),sl⟩) (e3:codeIn K cdv "law" = true) ..:∃t,My.Txt K t
set_option maxRecDepth 100000 in
set_option maxHeartbeats 0 in
theorem PySem.Challenge.cw_LID_holds : PySem.Challenge.rw_LID.Holds := by
 w_on;o_law;k_head;(case hw=>w_witness2)
 k_fill
 refine L2.yz (l:=PySem.Challenge.rw_LID) (n:=63) (k:=40) (x:="script") (CX:=fun w=>..) (sp:=fun _=>My.lY) rfl (by decide) rfl ⟨rfl,by decide,by decide⟩ (fun w h Y=>PySem.W.kIn_of Y) ?F ?S ?C
 case F=>
  intro w mg fa h KX G hmg
  have T:∃t,My.Txt (L2.KOf KX) t:=by
   dsimp only[L2.KOf]                          -- K must stand as «<heap const> w.params» for k_is
   refine' My.wL ?e1 ?e2 ?e3 ..
   (case e1=>PySem.W.k_is)                    -- in the order: a name -> its address -> its object -> its parts
   (case e2=>PySem.W.k_is)
   ..
  obtain⟨t,T⟩:=T
  have e0:=hmg.symm.trans (PySem.W.mg_of KX G T.law)
  cases e0                                       -- fa is the law's own address
  exact⟨_,fun s u=>.of_eq rfl,fun base kb nb=>My.law_fn T kb nb⟩     -- if «.of_eq rfl» comes too early: refine' ⟨_,?b,fun base kb nb=>My.law_fn T kb nb⟩;exact fun s u=>.of_eq rfl
 case S=>exact fun w H a ns hl hO hS=>..
 case C=>exact ..
(the tactic k_is has no namespace: write k_is) -/
namespace L2
open PySem PySem.Spec PyProof.Rows
def nt(s:aB):Arguments:=match s with
 |.FunctionDef _ a _ _ _ _ _ _ _ _=>a
 |_=>{ posonlyargs:=[],args:=[],vararg:=none,kwonlyargs:=[],kw_defaults:=[],kwarg:=none,defaults:=[]}
def dO(s:aB):List aB:=match s with
 |.FunctionDef _ _ b _ _ _ _ _ _ _=>b
 |_=>[]
def ρ(s:aB):ee:=match s with
 |.FunctionDef _ _ _ _ _ _ sc _ _ _=>sc
 |_=>{ kind:=.function,names:=[],isGenerator:=false,isCoroutine:=false }
abbrev mM:qk:=fun _ _ _ _ _ _=>False
abbrev E0:XK:=fun _ _ _=>False
theorem LW{X:Cx}:jg mM X E0:=fun _ _ _ _ _ _ _ h=>h.elim
structure di(K:PySem.W.Frag)(x qual:ι)(st:aB)(f:ε)(fd:ae):Prop where
 ex:∃(oc:Value) (od:Option ε) (kV doc pm:Value) (an:Option ε) (cdv ct:Value) (osl:Array (Option Value)),
  fd=PySem.W.fnOf x qual (nt st) (dO st) (ρ st) .none kV doc pm an cdv ct/\K.lookup f=some ⟨oc,od,.func fd,osl⟩/\PySem.W.codeIn K cdv qual=true
 kp:PySem.W.keepIn K (.ref f)=true
section
variable {P:Ψ} {w:af} {K:PySem.W.Frag} {mg:ι->Option Value} {base:Ξ}
theorem di.ok{x qual:ι}{st:aB}{f:ε}{fd:ae}{N ps:List ι}{k:Nat}{sp:Sp}(F:di K x qual st f fd)(S:aU N ps (ρ st))(len:∀vs H Q E,sp vs H Q E->vs.length=ps.length)
  (eR:∀(cdv:Value) (A:aq) (outer:List cB) (s:ζ) (H:Hp) (vs:List V) (Q:VK) (E:XK),dy k (A.deeper (envOfC qual (ρ st) s.heap.objs.size f cdv))->sp vs H Q E ->
   ∃t,kS (gH mM P w K mg base N qual (ρ st) f cdv A outer s H E).ly (dO st) t/\t { nx:=fun _ H'=>Q .az H',rt:=Q } (start N vs) H):iG P w K mg base mM (k+1) f fd ps sp:=by
 obtain⟨oc,od,kV,doc,pm,an,cdv,ct,osl,rfl,lk,gQ⟩:=F.ex;refine KI lk gQ S len fun A outer s H vs Q E hr oJ=>?_;obtain⟨t,h,q⟩:=eR cdv A outer s H vs Q E hr oJ;exact⟨t,h.ly,q⟩
theorem di.binds{x qual:ι}{st:aB}{f:ε}{fd:ae}{ps:List ι}(F:di K x qual st f fd)
  (h:∀(kV doc pm:Value) (an:Option ε) (cdv ct:Value) (us:List Value),us.length=ps.length->bindArgs (PySem.W.fnOf x qual (nt st) (dO st) (ρ st) .none kV doc pm an cdv ct) ⟨us,[]⟩=pure (ps.zip us)):Binds K fd ps []:=by
 obtain⟨oc,od,kV,doc,pm,an,cdv,ct,osl,rfl,lk,gQ⟩:=F.ex;exact .all (h kV doc pm an cdv ct)
theorem Ky{x qual:ι}{st:aB}{f:ε}{oc:Value}{od an:Option ε}{osl:Array (Option Value)}{kV doc pm cdv ct:Value}(l:K.lookup f=some ⟨oc,od,.func (PySem.W.fnOf x qual (nt st) (dO st) (ρ st) .none kV doc pm an cdv ct),osl⟩)
  (c:PySem.W.codeIn K cdv qual=true) (k:PySem.W.keepIn K (.ref f)=true):di K x qual st f (PySem.W.fnOf x qual (nt st) (dO st) (ρ st) .none kV doc pm an cdv ct):=⟨⟨oc,od,kV,doc,pm,an,cdv,ct,osl,rfl,l,c⟩,k⟩
end
section
variable {X:Cx}
theorem pv(i:Nat){x:ι}{pos:ay}(hN:X.N[i]?=some x:=by rfl)(hv:Lu X.env.scope x:=by first|exact sZ rfl|exact qp (sZ rfl)|exact qp (qp rfl))(hd:(x==("__debug__":ι))=false:=by decide)
  (gQ:(x==("__classdict__":ι))=false:=by decide):PE X (.Name x pos) (yP i):=VV hN hv hd gQ
end
end L2
namespace L3
open PySem PySem.Spec PyProof.Rows L2
inductive D where
 |az|bl (b:Bool)|int (i:Int)|str (x:ι)|tup (xs:List D)|eN (xs:List D)|obj (a:ε)|dc (a:ε)
def ku(K:PySem.W.Frag)(H:Hp)(a:ε)(xs:List V):Prop:=
 (∃o,H a=some (.cN o (.lst xs))) ∨
  ∃(o:aA) (its:Array Value) (n:Nat),K.lookup a=some o/\o.cls=.type "list"/\o.dict=none/\o.data=.seq its n/\its.size≤ai/\aS xs its.toList
theorem ku.l{K:PySem.W.Frag}{H:Hp}{a:ε}{xs:List V}(h:ku K H a xs):ff K H a xs:=by
 rcases h with h|h
 ·exact .inl (.inr h)
 ·exact .inr h
mutual
def Hv(K:PySem.W.Frag)(H:Hp):D->V->Prop
 |.az,v=>v=.az
 |.bl b,v=>v=.bl b
 |.int i,v=>v=.int i
 |.str x,v=>v=.str x
 |.tup ds,v=>∃a vs,v=.ref a/\bZ K H a vs/\aw K H ds vs
 |.eN ds,v=>∃a vs,v=.ref a/\ku K H a vs/\aw K H ds vs
 |.obj a,v=>v=.ref a
 |.dc a,v=>v=.ref a/\∃ob φ,H a=some (.cN ob (.ext φ))/\ob.cls=.type "dict"
def aw(K:PySem.W.Frag)(H:Hp):List D->List V->Prop
 |[],vs=>vs=[]
 |d::ds,vs=>∃v r,vs=v::r/\Hv K H d v/\aw K H ds r
end
inductive GO where
 |lst (ds:List D)|kL|eD
 |gen (R:PySem.W.Frag->ε->Hp->Prop)
def GO.plain:GO->Prop
 |.gen _=>False
 |_=>True
abbrev Gp:=ε->Option GO
def dX(G:Gp)(a:ε)(o:GO):Gp:=fun b=>if b=a then some o else G b
theorem lF{G:Gp}{a:ε}{o:GO}:dX G a o a=some o:=by simp[dX]
theorem oI{G:Gp}{a b:ε}{o:GO}(h:b≠a):dX G a o b=G b:=by simp[dX,h]
theorem Uz{G:Gp}{a b:ε}{o u:GO}(hn:G a=none)(h:G b=some u):dX G a o b=some u:=by
 rw[oI]
 ·exact h
 ·intro e;rw[e,hn] at h;cases h
theorem Vb{G:Gp}{a:ε}{o u:GO}:dX (dX G a o) a u=dX G a u:=by
 funext b;unfold dX;by_cases h:b=a
 ·rw[if_pos h,if_pos h]
 ·rw[if_neg h,if_neg h,if_neg h]
def tV(a b c:Int):Prop:=0≤a/\0≤c/\c<2147483647
def sW(K:PySem.W.Frag)(H:Hp)(a:ε):GO->Prop
 |.lst ds=>∃vs,H a=some (.lst vs)/\aw K H ds vs
 |.kL=>∃i j k,H a=some (.lst [.int i,.int j,.int k])/\tV i j k
 |.eD=>H a=some (.ext fun h=>∃o,h.get? a=some o/\o.cls=.type "dict")
 |.gen R=>R K a H/\(∃o,H a=some o/\(∀xs,o≠.tup xs)/\∀ob u,o≠.cN ob u)/\∀H1 H2:Hp,(∀b xs,H1 b=some (.tup xs)->H2 b=some (.tup xs))->(∀b o u,H1 b=some (.cN o u)->H2 b=some (.cN o u))->H2 a=H1 a->R K a H1->R K a H2
def aD(K:PySem.W.Frag)(G:Gp)(H:Hp):Prop:=∀a o,G a=some o->sW K H a o
structure Ext(H H':Hp):Prop where
 tup:∀b xs,H b=some (.tup xs)->H' b=some (.tup xs)
 cN:∀b o u,H b=some (.cN o u)->H' b=some (.cN o u)
theorem Ext.refl(H:Hp):Ext H H:=⟨fun _ _ h=>h,fun _ _ _ h=>h⟩
theorem Ext.trans{H H1 H2:Hp}(a:Ext H H1)(b:Ext H1 H2):Ext H H2:=⟨fun c x h=>b.tup c x (a.tup c x h),fun c o u h=>b.cN c o u (a.cN c o u h)⟩
structure Step(H:Hp)(G:Gp)(H':Hp)(G':Gp):Prop where
 fr:∀a o,H a=some o->G a=none->H' a=some o
 mE:∀a,H a≠none->H' a≠none
 new:∀a,G a=none->G' a≠none->H a=none
theorem Step.refl(H:Hp)(G:Gp):Step H G H G:=⟨fun _ _ h _=>h,fun _ h=>h,fun _ h1 h2=>absurd h1 h2⟩
theorem Step.trans{H H1 H2:Hp}{G G1 G2:Gp}(a:Step H G H1 G1)(b:Step H1 G1 H2 G2):Step H G H2 G2 where
 fr:=fun c o h n=>b.fr c o (a.fr c o h n) (by
  refine aQ fun q=>?_;rw[a.new c n q] at h;cases h)
 mE:=fun c h=>b.mE c (a.mE c h)
 new:=fun c n q=>by
  by_cases h1:G1 c=none
  ·have h2:=b.new c h1 q;refine aQ fun z=>?_;exact a.mE c z h2
  ·exact a.new c n h1
def Sub(G' G:Gp):Prop:=∀a o,G' a=some o->G a=some o
theorem Sub.refl(G:Gp):Sub G G:=fun _ _ h=>h
theorem Sub.trans{A B C:Gp}(a:Sub A B)(b:Sub B C):Sub A C:=fun x o h=>b x o (a x o h)
theorem Sub.upd{G:Gp}{a:ε}{o:GO}(h:G a=none):Sub G (dX G a o):=fun _ _ e=>Uz h e
theorem Sub.of_none{G' G:Gp}(s:Sub G' G){a:ε}(h:G a=none):G' a=none:=by
 cases e:G' a with
 |none=>rfl
 |some o=>
  rw[s a o e] at h;cases h
structure fc(G:Gp)(p:ε)(o:GO)(G':Gp):Prop where
 az:G p=none
 sub:Sub G G'
 at_:G' p=some o
theorem fc.mk'{G:Gp}{p:ε}{o:GO}(h:G p=none):fc G p o (dX G p o):=⟨h,Sub.upd h,lF⟩
theorem Step.sub{H:Hp}{G G':Gp}(s:Sub G' G):Step H G H G':=⟨fun _ _ h _=>h,fun _ h=>h,fun a n q=>by
 exact absurd (s.of_none n) q⟩
section
variable {K:PySem.W.Frag} {H H':Hp} {G G':Gp}
theorem aD.sub(R:aD K G H)(s:Sub G' G):aD K G' H:=fun a o e=>R a o (s a o e)
theorem sW.mut{a:ε}{o:GO}(h:sW K H a o):∃o,H a=some o/\(∀xs,o≠.tup xs)/\∀ob u,o≠.cN ob u:=by
 cases o with
 |lst ds=>obtain⟨vs,e,_⟩:=h;exact⟨_,e,fun _=>nofun,fun _ _=>nofun⟩
 |kL=>obtain⟨i,j,k,e,_⟩:=h;exact⟨_,e,fun _=>nofun,fun _ _=>nofun⟩
 |eD=>exact⟨_,h,fun _=>nofun,fun _ _=>nofun⟩
 |gen R=>exact h.2.1
theorem aD.Za(R:aD K G H){a:ε}{xs:List V}(e:H a=some (.tup xs)):G a=none:=by
 cases q:G a with
 |none=>rfl
 |some u=>
  obtain⟨o,z,h1,_⟩:=(R a u q).mut;rw[e] at z;exact absurd (ao z).symm (h1 xs)
theorem aD.outF(R:aD K G H){a:ε}{ob:aA}{u:HO}(e:H a=some (.cN ob u)):G a=none:=by
 cases q:G a with
 |none=>rfl
 |some g=>
  obtain⟨o,z,_,h1⟩:=(R a g q).mut;rw[e] at z;exact absurd (ao z).symm (h1 ob u)
theorem aD.free(R:aD K G H){a:ε}(e:H a=none):G a=none:=by
 cases q:G a with
 |none=>rfl
 |some u=>
  obtain⟨o,z,_⟩:=(R a u q).mut;rw[e] at z;cases z
theorem Step.ext(S:Step H G H' G')(R:aD K G H):Ext H H':=⟨fun b xs h=>S.fr b _ h (R.Za h),fun b o u h=>S.fr b _ h (R.outF h)⟩
theorem bZ.ext{a:ε}{xs:List V}(E:Ext H H')(h:bZ K H a xs):bZ K H' a xs:=by
 rcases h with (h|⟨o,h⟩)|h
 ·exact .inl (.inl (E.tup _ _ h))
 ·exact .inl (.inr ⟨o,E.cN _ _ _ h⟩)
 ·exact .inr h
theorem ku.ext{a:ε}{xs:List V}(E:Ext H H')(h:ku K H a xs):ku K H' a xs:=by
 rcases h with⟨o,h⟩|h
 ·exact .inl ⟨o,E.cN _ _ _ h⟩
 ·exact .inr h
mutual
theorem Hv.ext(E:Ext H H'):∀{d:D} {v:V},Hv K H d v->Hv K H' d v
 |.az,_,h=>by simpa [Hv] using h
 |.bl _,_,h=>by simpa [Hv] using h
 |.int _,_,h=>by simpa [Hv] using h
 |.str _,_,h=>by simpa [Hv] using h
 |.obj _,_,h=>by simpa [Hv] using h
 |.dc a,v,h=>by
  unfold Hv at h ⊢;obtain⟨e,ob,φ,q,c⟩:=h;exact⟨e,ob,φ,E.cN _ _ _ q,c⟩
 |.tup ds,v,h=>by
  unfold Hv at h ⊢;obtain⟨a,vs,e,q,r⟩:=h;exact⟨a,vs,e,bZ.ext E q,aw.ext E r⟩
 |.eN ds,v,h=>by
  unfold Hv at h ⊢;obtain⟨a,vs,e,q,r⟩:=h;exact⟨a,vs,e,ku.ext E q,aw.ext E r⟩
theorem aw.ext(E:Ext H H'):∀{ds:List D} {vs:List V},aw K H ds vs->aw K H' ds vs
 |[],_,h=>by simpa [aw] using h
 |d::ds,vs,h=>by
  unfold aw at h ⊢;obtain⟨v,r,e,q,z⟩:=h;exact⟨v,r,e,Hv.ext E q,aw.ext E z⟩
end
theorem aw.nil:aw K H [] []:=by simp[aw]
theorem aw.cons{d:D}{v:V}{ds:List D}{vs:List V}(h:Hv K H d v)(r:aw K H ds vs):aw K H (d::ds) (v::vs):=by
 unfold aw;exact⟨v,vs,rfl,h,r⟩
theorem aw.inv{d:D}{ds:List D}{vs:List V}(h:aw K H (d::ds) vs):∃v r,vs=v::r/\Hv K H d v/\aw K H ds r:=by
 unfold aw at h;exact h
theorem aw.gi{vs:List V}(h:aw K H [] vs):vs=[]:=by
 unfold aw at h;exact h
theorem aw.length:∀{ds:List D} {vs:List V},aw K H ds vs->ds.length=vs.length
 |[],_,h=>by rw[h.gi];rfl
 |d::ds,vs,h=>by
  obtain⟨v,r,rfl,_,q⟩:=h.inv;simp[q.length]
theorem aw.get:∀{ds:List D} {vs:List V} {i:Nat} {d:D},aw K H ds vs->ds[i]?=some d->∃v,vs[i]?=some v/\Hv K H d v
 |[],_,_,_,_,e=>by simp at e
 |x::ds,vs,0,d,h,e=>by
  obtain⟨v,r,rfl,q,_⟩:=h.inv;simp at e;subst e;exact⟨v,rfl,q⟩
 |x::ds,vs,i+1,d,h,e=>by
  obtain⟨v,r,rfl,_,q⟩:=h.inv;simp at e;obtain⟨u,e2,q2⟩:=q.get e;exact⟨u,by simpa using e2,q2⟩
theorem aw.append:∀{ds es:List D} {vs us:List V},aw K H ds vs->aw K H es us->aw K H (ds++es) (vs++us)
 |[],es,_,_,h,q=>by rw[h.gi];exact q
 |d::ds,es,vs,us,h,q=>by
  obtain⟨v,r,rfl,z,w⟩:=h.inv;exact .cons z (w.append q)
theorem aw.drop:∀{ds:List D} {vs:List V} (n:Nat),aw K H ds vs->aw K H (ds.drop n) (vs.drop n)
 |ds,vs,0,h=>h
 |[],_,n+1,h=>by rw[h.gi];exact .nil
 |d::ds,vs,n+1,h=>by
  obtain⟨v,r,rfl,_,q⟩:=h.inv;exact q.drop n
theorem aw.take:∀{ds:List D} {vs:List V} (n:Nat),aw K H ds vs->aw K H (ds.take n) (vs.take n)
 |ds,vs,0,h=>by simpa using aw.nil
 |[],_,n+1,h=>by rw[h.gi];exact .nil
 |d::ds,vs,n+1,h=>by
  obtain⟨v,r,rfl,q,z⟩:=h.inv;exact .cons q (z.take n)
theorem aw.set:∀{ds:List D} {vs:List V} (i:Nat) {d:D} {v:V},aw K H ds vs->Hv K H d v->aw K H (ds.set i d) (vs.set i v)
 |[],_,i,d,v,h,_=>by rw[h.gi];exact .nil
 |x::ds,vs,0,d,v,h,q=>by
  obtain⟨u,r,rfl,_,z⟩:=h.inv;exact .cons q z
 |x::ds,vs,i+1,d,v,h,q=>by
  obtain⟨u,r,rfl,y,z⟩:=h.inv;exact .cons y (z.set i q)
theorem aw.rev:∀{ds:List D} {vs:List V},aw K H ds vs->aw K H ds.reverse vs.reverse
 |[],_,h=>by rw[h.gi];exact .nil
 |x::ds,vs,h=>by
  obtain⟨u,r,rfl,y,z⟩:=h.inv;rw[jR,jR];exact z.rev.append (.cons y .nil)
theorem aw.rep{ds:List D}{vs:List V}(h:aw K H ds vs):∀k:Nat,aw K H (bj k ds).flatten (bj k vs).flatten
 |0=>.nil
 |k+1=>by
  simp only[fg,gV];exact h.append (h.rep k)
theorem aw.ints:∀(ns:List Int),aw K H (ns.map D.int) (ns.map V.int)
 |[]=>.nil
 |n::ns=>.cons (by simp[Hv]) (aw.ints ns)
theorem Ext.laid{p:ε}{o:HO}(h:H p=none):Ext H (upd H p o):=⟨fun b xs e=>by rw[dj (lH e h)];exact e,fun b x u e=>by rw[dj (lH e h)];exact e⟩
theorem sW.ext{a:ε}{o:GO}(h:sW K H a o)(E:Ext H H')(e:H' a=H a):sW K H' a o:=by
 cases o with
 |lst ds=>
  obtain⟨vs,z,q⟩:=h;exact⟨vs,e.trans z,q.ext E⟩
 |kL=>
  obtain⟨i,j,k,z,q⟩:=h;exact⟨i,j,k,e.trans z,q⟩
 |eD=>exact e.trans h
 |gen R=>
  obtain⟨h1,h2,h3⟩:=h;exact⟨h3 H H' E.tup E.cN e h1,by rw[e];exact h2,h3⟩
theorem aD.laid{p:ε}{o:HO}(R:aD K G H)(h:H p=none):aD K G (upd H p o):=fun a u e=>by
 have cy:a≠p:=fun z=>by
  rw[z,R.free h] at e;cases e
 exact (R a u e).ext (Ext.laid h) (dj cy)
theorem aD.gr{p:ε}{o:HO}{g:GO}(R:aD K G H)(h:H p=none)(new:sW K (upd H p o) p g):aD K (dX G p g) (upd H p o):=fun a u e=>by
 by_cases z:a=p
 ·subst z;rw[lF] at e;cases e;exact new
 ·rw[oI z] at e;exact (R.laid h) a u e
theorem Step.laid{p:ε}{o:HO}(h:H p=none):Step H G (upd H p o) G:=⟨fun a u e _=>by rw[dj (lH e h)];exact e,fun a q=>by
 by_cases z:a=p
 ·rw[z,gh];simp
 ·rw[dj z];exact q,fun a n q=>absurd n q⟩
theorem Step.gr{p:ε}{o:HO}{g:GO}(h:H p=none):Step H G (upd H p o) (dX G p g):=⟨(Step.laid (G:=G) h).fr,(Step.laid (G:=G) h).mE,fun a n q=>by
 by_cases z:a=p
 ·rw[z];exact h
 ·rw[oI z] at q;exact absurd n q⟩
theorem U9{p b:ε}{xs ys:List V}(h:H p=some (.lst xs))(e:H b=some (.tup ys)):b≠p:=fun z=>by
 rw[z,h] at e;cases e
theorem U8{p b:ε}{xs:List V}{o:aA}{u:HO}(h:H p=some (.lst xs))(e:H b=some (.cN o u)):b≠p:=fun z=>by
 rw[z,h] at e;cases e
theorem Ext.wrote{p:ε}{xs:List V}{o:HO}(h:H p=some (.lst xs)):Ext H (upd H p o):=
 ⟨fun b ys e=>by rw[dj (U9 h e)];exact e,fun b x u e=>by rw[dj (U8 h e)];exact e⟩
theorem aD.wrote{p:ε}{xs:List V}{o:HO}{g:GO}(R:aD K G H)(h:H p=some (.lst xs))(new:sW K (upd H p o) p g):aD K (dX G p g) (upd H p o):=fun a u e=>by
 by_cases z:a=p
 ·subst z;rw[lF] at e;cases e;exact new
 ·rw[oI z] at e;exact (R a u e).ext (Ext.wrote h) (dj z)
theorem aD.sD{p:ε}{xs:List V}{ds:List D}(R:aD K G H)(h:H p=none)(hv:aw K H ds xs):aD K (dX G p (.lst ds)) (upd H p (.lst xs)):=R.gr h ⟨xs,gh,hv.ext (.laid h)⟩
theorem aD.FO{p:ε}{xs ys:List V}{ds:List D}(R:aD K G H)(e:H p=some (.lst xs))(hv:aw K H ds ys):aD K (dX G p (.lst ds)) (upd H p (.lst ys)):=R.wrote e ⟨ys,gh,hv.ext (.wrote e)⟩
theorem Step.wrote{p:ε}{o:HO}{g u:GO}(h:G p=some u):Step H G (upd H p o) (dX G p g):=⟨fun a x e n=>by
 have cy:a≠p:=fun z=>by
  rw[z,h] at n;cases n
 rw[dj cy];exact e,fun a q=>by
 by_cases z:a=p
 ·rw[z,gh];simp
 ·rw[dj z];exact q,fun a n q=>by
 have cy:a≠p:=fun z=>by
  rw[z,h] at n;cases n
 rw[oI cy] at q;exact absurd n q⟩
end
abbrev S3:=List (Option D)
def iu:S3->Nat->Option D
 |[],_=>none
 |x::_,0=>x
 |_::r,n+1=>iu r n
def jO:S3->Nat->D->S3
 |[],_,_=>[]
 |_::r,0,d=>some d::r
 |x::r,n+1,d=>x::jO r n d
structure dI(K:PySem.W.Frag)(τ:S3)(σ:L2.St)(H:Hp):Prop where
 len:τ.length=σ.length
 at_:∀(i:Nat) d,iu τ i=some d->∃v,σ[i]?=some (some v)/\Hv K H d v
theorem J7:∀(τ:S3) (i:Nat) (d:D),(jO τ i d).length=τ.length
 |[],_,_=>rfl
 |_::r,0,d=>rfl
 |x::r,n+1,d=>by simp[jO,J7 r n d]
theorem J6:∀(τ:S3) (i j:Nat) (d:D),iu (jO τ i d) j=if j=i/\i<τ.length then some d else iu τ j
 |[],i,j,d=>by simp[jO,iu]
 |x::r,0,0,d=>by simp[jO,iu]
 |x::r,0,j+1,d=>by simp[jO,iu]
 |x::r,i+1,0,d=>by simp[jO,iu]
 |x::r,i+1,j+1,d=>by
  simp only[jO,iu,J6 r i j d,aj];by_cases h:j=i/\i<r.length
  ·rw[if_pos h,if_pos (by lia)]
  ·rw[if_neg h,if_neg (by lia)]
section
variable {K:PySem.W.Frag} {τ:S3} {σ:L2.St} {H H':Hp}
theorem dI.ext(R:dI K τ σ H)(E:Ext H H'):dI K τ σ H':=⟨R.len,fun i d h=>by
 obtain⟨v,e,q⟩:=R.at_ i d h;exact⟨v,e,q.ext E⟩⟩
theorem dI.set(R:dI K τ σ H){i:Nat}{d:D}{v:V}(h:Hv K H d v):dI K (jO τ i d) (σ.set i (some v)) H:=⟨by rw[J7,List.length_set];exact R.len,fun j e q=>by
 rw[J6] at q;by_cases c:j=i/\i<τ.length
 ·rw[if_pos c] at q;cases q;refine⟨v,?_,h⟩;rw[c.1,jZ (by rw[←R.len];exact c.2)]
 ·rw[if_neg c] at q;obtain⟨u,e1,e2⟩:=R.at_ j e q;refine⟨u,?_,e2⟩;by_cases hij:i=j
  ·subst hij;have:σ.length≤i:=by
    have:=R.len;have:¬i<τ.length:=fun z=>c ⟨rfl,z⟩;lia
   rw[cT.mpr this] at e1;cases e1
  ·rw[lg hij];exact e1⟩
end
def aO:List ι->List D->S3
 |[],_=>[]
 |_::N,[]=>none::aO N []
 |_::N,d::ds=>some d::aO N ds
theorem DH:∀(N:List ι) (ds:List D),(aO N ds).length=N.length
 |[],_=>rfl
 |_::N,[]=>by simp[aO,DH N []]
 |_::N,d::ds=>by simp[aO,DH N ds]
theorem J5:∀(N:List ι) (i:Nat),iu (aO N []) i=none
 |[],i=>rfl
 |_::N,0=>rfl
 |_::N,i+1=>J5 N i
theorem J4:∀(N:List ι) (ds:List D) (i:Nat) (d:D),iu (aO N ds) i=some d->ds[i]?=some d
 |[],_,_,_,h=>by cases h
 |_::N,[],i,d,h=>by
  rw[J5] at h;cases h
 |_::N,x::ds,0,d,h=>by
  simp only[aO,iu] at h;simpa using h
 |_::N,x::ds,i+1,d,h=>by
  simp only[aO,iu] at h;simpa using J4 N ds i d h
theorem dI.start{K:PySem.W.Frag}{N:List ι}{ds:List D}{vs:List V}{H:Hp}(h:aw K H ds vs)(hl:vs.length≤N.length):dI K (aO N ds) (L2.start N vs) H:=⟨by
 rw[DH];simp[L2.start];lia,fun i d e=>by
 obtain⟨v,e1,q⟩:=h.get (J4 N ds i d e);refine⟨v,?_,q⟩;unfold L2.start;have hi:i<vs.length:=(aN.mp e1).1;rw[eL (by simpa using hi),aJ,e1];rfl⟩
abbrev V3:=D->Gp->Prop
abbrev ax:=S3->Gp->V3->Prop
abbrev cF:=S3->Gp->(Bool->Gp->Prop)->Prop
abbrev b9:=S3->Gp->(List D->Gp->Prop)->Prop
structure kT where
 nx:S3->Gp->Prop
 rt:V3
 bk:S3->Gp->Prop:=fun _ _=>False
 ct:S3->Gp->Prop:=fun _ _=>False
abbrev ar:=kT->S3->Gp->Prop
def low(K:PySem.W.Frag)(t:ax):TE:=fun σ H Q=>∃τ G Q3,dI K τ σ H/\aD K G H/\t τ G Q3/\∀v H' d G',Hv K H' d v->Step H G H' G'->aD K G' H'->Q3 d G'->Q v H'
def qP(K:PySem.W.Frag)(t:cF):TT:=fun σ H Q=>∃τ G Q3,dI K τ σ H/\aD K G H/\t τ G Q3/\∀b H' G',Step H G H' G'->aD K G' H'->Q3 b G'->Q b H'
def sH(K:PySem.W.Frag)(t:b9):TA:=fun σ H Q=>∃τ G Q3,dI K τ σ H/\aD K G H/\t τ G Q3/\∀vs H' ds G',aw K H' ds vs->Step H G H' G'->aD K G' H'->Q3 ds G'->Q vs H'
structure nv(K:PySem.W.Frag)(H:Hp)(G:Gp)(D3:kT)(D2:Ends):Prop where
 nx:∀τ σ G' H',dI K τ σ H'->Step H G H' G'->aD K G' H'->D3.nx τ G'->D2.nx σ H'
 bk:∀τ σ G' H',dI K τ σ H'->Step H G H' G'->aD K G' H'->D3.bk τ G'->D2.bk σ H'
 ct:∀τ σ G' H',dI K τ σ H'->Step H G H' G'->aD K G' H'->D3.ct τ G'->D2.ct σ H'
 rt:∀d v G' H',Hv K H' d v->Step H G H' G'->aD K G' H'->D3.rt d G'->D2.rt v H'
theorem nv.step{K:PySem.W.Frag}{H H1:Hp}{G G1:Gp}{D3:kT}{D2:Ends}(E:nv K H G D3 D2)(S:Step H G H1 G1):nv K H1 G1 D3 D2:=
 ⟨fun τ σ G' H' a b c q=>E.nx τ σ G' H' a (S.trans b) c q,fun τ σ G' H' a b c q=>E.bk τ σ G' H' a (S.trans b) c q,fun τ σ G' H' a b c q=>E.ct τ σ G' H' a (S.trans b) c q,fun d v G' H' a b c q=>E.rt d v G' H' a (S.trans b) c q⟩
def DW(K:PySem.W.Frag)(t:ar):TS:=fun D2 σ H=>∃τ G D3,dI K τ σ H/\aD K G H/\t D3 τ G/\nv K H G D3 D2
abbrev bE(X:Cx)(e:ο)(t:ax):Prop:=PE X e (low X.K t)
abbrev oU(X:Cx)(e:ο)(t:cF):Prop:=PT X e (qP X.K t)
abbrev we(X:Cx)(e:ο)(t:cF):Prop:=PW X e (qP X.K t)
abbrev gS(X:Cx)(es:List ο)(t:b9):Prop:=PA X es (sH X.K t)
abbrev mL(X:Cx)(st:aB)(t:ar):Prop:=PS X st (DW X.K t)
abbrev jh(X:Cx)(st:List aB)(t:ar):Prop:=kS X st (DW X.K t)
section
variable {X:Cx} {e:ο}
theorem gP{t t':TE}(h:PE X e t)(f:∀σ H Q,t' σ H Q->t σ H Q):PE X e t':=fun pins s σ H Q I q=>h pins s σ H Q I (f σ H Q q)
theorem zR{t t':TT}(h:PT X e t)(f:∀σ H Q,t' σ H Q->t σ H Q):PT X e t':=fun pins s σ H Q I q=>h pins s σ H Q I (f σ H Q q)
theorem pw_of{t t':TT}(h:PW X e t)(f:∀σ H Q,t' σ H Q->t σ H Q):PW X e t':=fun w pins s σ H Q I q=>h w pins s σ H Q I (f σ H Q q)
theorem J3{es:List ο}{t t':TA}(h:PA X es t)(f:∀σ H Q,t' σ H Q->t σ H Q):PA X es t':=fun p pins s σ H Q I q=>h p pins s σ H Q I (f σ H Q q)
theorem mx{st:aB}{t t':TS}(h:PS X st t)(f:∀D σ H,t' D σ H->t D σ H):PS X st t':=fun pins s σ H Q I q=>h pins s σ H Q I (f Q σ H q)
theorem J0{st:List aB}{t t':TS}(h:kS X st t)(f:∀D σ H,t' D σ H->t D σ H):kS X st t':=fun pins s σ H Q I q=>h pins s σ H Q I (f Q σ H q)
end
def Br(b:Bool)(A B:Prop):Prop:=(b=true->A)/\(b=false->B)
theorem Br.ite{b:Bool}{A B A' B':Prop}(h:Br b A B)(f:A->A')(g:B->B'):if b=true then A' else B':=by
 cases b with
 |true=>rw[if_pos rfl];exact f (h.1 rfl)
 |false=>rw[if_neg ak];exact g (h.2 rfl)
section
variable {X:Cx} {a b e c:ο} {ta tb te:ax} {tA tB:cF} {pos:ay} {es rest:List ο}
def eC(d:D):ax:=fun _ G Q=>Q d G
def π(i:Nat):ax:=fun τ G Q=>match iu τ i with
 |some d=>Q d G
 |none=>False
theorem U7{i:Nat}{x:ι}(h:PE X (.Name x pos) (yP i)):bE X (.Name x pos) (π i):=gP h fun σ H Q ⟨τ,G,Q3,RS,RG,h,k⟩=>by
 unfold π at h;cases hd:iu τ i with
 |none=>rw[hd] at h;exact h.elim
 |some d=>
  rw[hd] at h;obtain⟨v,e1,e2⟩:=RS.at_ i d hd;exact⟨v,e1,k v H d G e2 (.refl H G) RG h⟩
theorem xJ{v:V}{d:D}(h:PE X e (tC v))(r:∀H,Hv X.K H d v):bE X e (eC d):=gP h fun σ H Q ⟨τ,G,Q3,RS,RG,h,k⟩=>k v H d G (r H) (.refl H G) RG h
theorem U6{i:Int}{j}:bE X (.Constant (.int i) j pos) (eC (.int i)):=xJ Kw fun H=>by simp[Hv]
theorem ZD{i:Bool}{j}:bE X (.Constant (.bool i) j pos) (eC (.bl i)):=xJ VU fun H=>by simp[Hv]
theorem U5{j}:bE X (.Constant .none j pos) (eC .az):=xJ VT fun H=>by simp[Hv]
theorem U4{x:ι}{j}:bE X (.Constant (.str x) j pos) (eC (.str x)):=xJ VS fun H=>by simp[Hv]
theorem U3{x:ι}{i:Int}{u:dG}(hm:X.mg x=some (.int i u))(hg:Gl X x:=by rfl)(hd:(x==("__debug__":ι))=false:=by decide):bE X (.Name x pos) (eC (.int i)):=xJ (v:=.int i) (Kv hg hm ⟨u,rfl⟩ hd) fun H=>by simp[Hv]
abbrev R3:=D->D->Gp->V3->Prop
def bc(r:R3)(ta tb:ax):ax:=fun τ G Q=>ta τ G fun x G1=>tb τ G1 fun y G2=>r x y G2 Q
def eG(K:PySem.W.Frag)(r:R3)(r2:R2):Prop:=∀x y vx vy G H Q3 Q,Hv K H x vx->Hv K H y vy->aD K G H->r x y G Q3->(∀v H' d G',Hv K H' d v->Step H G H' G'->aD K G' H'->Q3 d G'->Q v H')->r2 vx vy H Q
theorem zQ{K:PySem.W.Frag}{r:R3}{r2:R2}(L:eG K r r2){σ:L2.St}{H:Hp}{Q:VK}(h:low K (bc r ta tb) σ H Q):BK r2 (low K ta) (low K tb) σ H Q:=by
 obtain⟨τ,G,Q3,RS,RG,h,k⟩:=h;refine⟨τ,G,_,RS,RG,h,fun v1 H1 d1 G1 h1 S1 R1 q1=>?_⟩;refine⟨τ,G1,_,RS.ext (S1.ext RG),R1,q1,fun v2 H2 d2 G2 h2 S2 R2 q2=>?_⟩;exact L _ _ _ _ _ _ _ _ (h1.ext (S2.ext R1)) h2 R2 q2 fun v H' d G' z1 z2 z3 z4=>k v H' d G' z1 ((S1.trans S2).trans z2) z3 z4
theorem ZA{op:rB}{r:R3}{r2:R2}(L:eG X.K r r2)(ho:ed X (binaryOp op) r2)(ha:bE X a ta)(hb:bE X b tb):bE X (.BinOp a op b pos) (bc r ta tb):=
 gP (Vn ho ha hb) fun _ _ _ h=>zQ L h
theorem U2{op:jE}{r:R3}{r2:R2}(L:eG X.K r r2)(ho:ed X (compareOp op) r2)(ha:bE X a ta)(hb:bE X b tb)(hm:behindInMarks op b=false):bE X (.Compare a [op] [b] pos) (bc r ta tb):=
 gP (Vk ho ha hb hm) fun _ _ _ h=>zQ L h
def bQ(t:ax):cF:=fun τ G Q=>t τ G fun x G1=>match x with
 |.bl k=>Q k G1
 |_=>False
theorem DG{K:PySem.W.Frag}{t:ax}{σ:L2.St}{H:Hp}{Q:Bool->Hp->Prop}(h:qP K (bQ t) σ H Q):EA (low K t) σ H Q:=by
 obtain⟨τ,G,Q3,RS,RG,h,k⟩:=h;refine⟨τ,G,_,RS,RG,h,fun v H' d G' h1 h2 h3 h4=>?_⟩;cases d with
 |bl c=>
  unfold Hv at h1;exact⟨c,h1,k c H' G' h2 h3 h4⟩
 |_=>exact h4.elim
theorem U1{op:jE}{r:R3}{r2:R2}(L:eG X.K r r2)(ho:ed X (compareOp op) r2)(ha:bE X a ta)(hb:bE X b tb)(hm:behindInMarks op b=false):oU X (.Compare a [op] [b] pos) (bQ (bc r ta tb)):=
 zR (Vj ho ha hb hm) fun σ H Q h=>by
  obtain⟨τ,G,Q3,RS,RG,h,k⟩:=DG h;exact zQ L ⟨τ,G,Q3,RS,RG,h,k⟩
theorem Uo(h:bE X a ta)(he:∀whole,isTrue a X.env whole=(do let v ←whole;standAt a.pos;holding [v] (truthy v)):=by intro _;rfl):oU X a (bQ ta):=
 zR (Vf h he) fun σ H Q h=>by
  obtain⟨τ,G,Q3,RS,RG,h,k⟩:=DG h;refine⟨τ,G,Q3,RS,RG,h,fun v H' d G' h1 h2 h3 h4=>?_⟩;obtain⟨c,rfl,q⟩:=k v H' d G' h1 h2 h3 h4;exact⟨c,rfl,q⟩
def qd(r r':R3)(ta tb tc:ax):ax:=fun τ G Q=>ta τ G fun x G1=>tb τ G1 fun y G2=>r x y G2 fun z G3=>match z with
 |.bl k=>Br k (tc τ G3 fun w G4=>r' y w G4 Q) (Q (.bl false) G3)
 |_=>False
theorem Um{K:PySem.W.Frag}{r r':R3}{r2 r2':R2}(L:eG K r r2)(L':eG K r' r2'){tc:ax}{σ:L2.St}{H:Hp}{Q:VK}(h:low K (qd r r' ta tb tc) σ H Q):wN r2 r2' (low K ta) (low K tb) (low K tc) σ H Q:=by
 obtain⟨τ,G,Q3,RS,RG,h,k⟩:=h;refine⟨τ,G,_,RS,RG,h,fun v1 H1 d1 G1 h1 S1 R1 q1=>?_⟩;refine⟨τ,G1,_,RS.ext (S1.ext RG),R1,q1,fun v2 H2 d2 G2 h2 S2 R2 q2=>?_⟩;refine L _ _ _ _ _ _ _ _ (h1.ext (S2.ext R1)) h2 R2 q2 fun v H3 d G3 z1 S3 R3 z4=>?_;cases d with
 |bl c=>
  unfold Hv at z1;refine⟨c,z1,Br.ite z4 (fun q=>?_) fun q=>?_⟩
  ·refine⟨τ,G3,_,((RS.ext (S1.ext RG)).ext (S2.ext R1)).ext (S3.ext R2),R3,q,fun v4 H4 d4 G4 h4 S4 R4 q4=>?_⟩;exact L' _ _ _ _ _ _ _ _ ((h2.ext (S3.ext R2)).ext (S4.ext R3)) h4 R4 q4 fun v H' d G' y1 y2 y3 y4=>k v H' d G' y1 ((((S1.trans S2).trans S3).trans S4).trans y2) y3 y4
  ·exact k _ H3 (.bl false) G3 (by simp[Hv]) ((S1.trans S2).trans S3) R3 q
 |_=>exact z4.elim
theorem Ul{op op':jE}{r r':R3}{r2 r2':R2}{tc:ax}(L:eG X.K r r2)(L':eG X.K r' r2')(h:PE X e (wN r2 r2' (low X.K ta) (low X.K tb) (low X.K tc))):bE X e (qd r r' ta tb tc):=
 gP h fun _ _ _ h=>Um L L' h
def Lm(r:D->Gp->V3->Prop)(ta:ax):ax:=fun τ G Q=>ta τ G fun x G1=>r x G1 Q
def yZ:D->Gp->V3->Prop:=fun x G Q=>match x with
 |.int i=>Q (.int (-i)) G
 |_=>False
theorem Uk(ha:bE X a ta):bE X (.UnaryOp .USub a pos) (Lm yZ ta):=gP (Kt Kq ha) fun σ H Q h=>by
 obtain⟨τ,G,Q3,RS,RG,h,k⟩:=h;refine⟨τ,G,_,RS,RG,h,fun v H' d G' h1 h2 h3 h4=>?_⟩;cases d with
 |int i=>
  unfold Hv at h1;exact⟨i,h1,k _ H' (.int (-i)) G' (by simp[Hv]) h2 h3 h4⟩
 |_=>exact h4.elim
def A4(t u:cF):cF:=fun τ G Q=>t τ G fun c G1=>Br c (u τ G1 Q) (Q false G1)
def qc(t u:cF):cF:=fun τ G Q=>t τ G fun c G1=>Br c (Q true G1) (u τ G1 Q)
def kh(t:cF):cF:=fun τ G Q=>t τ G fun c G1=>Q (!c) G1
theorem Uj(ha:oU X a tA):we X (.BoolOp .And [a] pos) tA:=pw_and1 ha
theorem Ui(ha:oU X a tA):we X (.BoolOp .Or [a] pos) tA:=pw_or1 ha
theorem Uh(ha:oU X a tA)(hb:we X (.BoolOp .And (b::rest) pos) tB):we X (.BoolOp .And (a::b::rest) pos) (A4 tA tB):=pw_of (pw_and ha hb) fun σ H Q h=>by
 obtain⟨τ,G,Q3,RS,RG,h,k⟩:=h;refine⟨τ,G,_,RS,RG,h,fun c H1 G1 S1 R1 q1=>?_⟩;exact Br.ite q1 (fun q=>⟨τ,G1,Q3,RS.ext (S1.ext RG),R1,q,fun b' H' G' y1 y2 y3=>k b' H' G' (S1.trans y1) y2 y3⟩) fun q=>k false H1 G1 S1 R1 q
theorem Ug(ha:oU X a tA)(hb:we X (.BoolOp .Or (b::rest) pos) tB):we X (.BoolOp .Or (a::b::rest) pos) (qc tA tB):=pw_of (pw_or ha hb) fun σ H Q h=>by
 obtain⟨τ,G,Q3,RS,RG,h,k⟩:=h;refine⟨τ,G,_,RS,RG,h,fun c H1 G1 S1 R1 q1=>?_⟩;exact Br.ite q1 (fun q=>k true H1 G1 S1 R1 q) fun q=>⟨τ,G1,Q3,RS.ext (S1.ext RG),R1,q,fun b' H' G' y1 y2 y3=>k b' H' G' (S1.trans y1) y2 y3⟩
theorem M7(h:we X a tA):oU X a tA:=h.pt
theorem Ue(ha:oU X a tA):oU X (.UnaryOp .Not a pos) (kh tA):=zR (VQ ha) fun σ H Q h=>by
 obtain⟨τ,G,Q3,RS,RG,h,k⟩:=h;exact⟨τ,G,_,RS,RG,h,fun c H1 G1 S1 R1 q1=>k _ H1 G1 S1 R1 q1⟩
def tP(ta tb:ax):ax:=fun τ G Q=>ta τ G fun x G1=>match x with
 |.bl c=>Br c (tb τ G1 Q) (Q (.bl false) G1)
 |_=>False
def A0(ta:ax):ax:=fun τ G Q=>ta τ G fun x G1=>match x with
 |.bl c=>Q (.bl (!c)) G1
 |_=>False
theorem Ud{op}(h:bE X a ta):bE X (.BoolOp op [a] pos) ta:=VP h
theorem Uc(ha:bE X a ta)(hb:bE X (.BoolOp .And (b::rest) pos) tb):bE X (.BoolOp .And (a::b::rest) pos) (tP ta tb):=gP (VO ha hb) fun σ H Q h=>by
 obtain⟨τ,G,Q3,RS,RG,h,k⟩:=h;refine⟨τ,G,_,RS,RG,h,fun v H1 d G1 h1 S1 R1 q1=>?_⟩;cases d with
 |bl c=>
  unfold Hv at h1;exact⟨c,h1,Br.ite q1 (fun q=>⟨τ,G1,Q3,RS.ext (S1.ext RG),R1,q,fun b' H' d' G' y0 y1 y2 y3=>k b' H' d' G' y0 (S1.trans y1) y2 y3⟩) fun q=>k _ H1 (.bl false) G1 (by simp[Hv]) S1 R1 q⟩
 |_=>exact q1.elim
theorem Ub(ha:bE X a ta):bE X (.UnaryOp .Not a pos) (A0 ta):=gP (VN ha) fun σ H Q h=>by
 obtain⟨τ,G,Q3,RS,RG,h,k⟩:=h;refine⟨τ,G,_,RS,RG,h,fun v H1 d G1 h1 S1 R1 q1=>?_⟩;cases d with
 |bl c=>
  unfold Hv at h1;exact⟨c,h1,k _ H1 (.bl (!c)) G1 (by simp[Hv]) S1 R1 q1⟩
 |_=>exact q1.elim
def notStar:ο->Bool
 |.Starred ..=>false
 |_=>true
theorem dB{e:ο}{es:List ο}{env:cB}(h:notStar e=true):bx (e::es) env=(false,eval e env)::bx es env:=by
 cases e<;>first|rfl|(simp[notStar] at h)
theorem iM{pos:ay}{env:cB}:∀{es:List ο},es.all notStar=true->(backTo pos (bx es env)).any (·.1)=false
 |[],_=>rfl
 |e::es,h=>by
  rw[mC,bF] at h;rw[dB h.1];show (false||(backTo pos (bx es env)).any (·.1))=false;rw[iM h.2];rfl
def aa:b9:=fun _ G Q=>Q [] G
def ξ(ta:ax)(tr:b9):b9:=fun τ G Q=>ta τ G fun x G1=>tr τ G1 fun xs G2=>Q (x::xs) G2
theorem Ua:gS X [] aa:=J3 pz fun σ H Q ⟨τ,G,Q3,RS,RG,h,k⟩=>k [] H [] G .nil (.refl H G) RG h
theorem T9{tr:b9}(ha:bE X a ta)(hr:gS X es tr)(hs:notStar a=true:=by rfl):gS X (a::es) (ξ ta tr):=J3 (lG ha hr (dB hs)) fun σ H Q h=>by
 obtain⟨τ,G,Q3,RS,RG,h,k⟩:=h;refine⟨τ,G,_,RS,RG,h,fun v1 H1 d1 G1 h1 S1 R1 q1=>?_⟩;refine⟨τ,G1,_,RS.ext (S1.ext RG),R1,q1,fun vs H2 ds G2 h2 S2 R2 q2=>?_⟩;exact k _ H2 _ G2 (.cons (h1.ext (S2.ext R1)) h2) (S1.trans S2) R2 q2
def sf{α:Type}(P:Prop):List α->Nat->Prop
 |[],_=>P
 |_::_,0=>False
 |_::xs,n+1=>sf P xs n
theorem zP{α:Type}{P:Prop}:∀{xs:List α} {n:Nat},sf P xs n->xs.length≤n/\P
 |[],n,h=>⟨aY _,h⟩
 |_::_,0,h=>h.elim
 |_::xs,n+1,h=>by
  obtain⟨h1,h2⟩:=zP (xs:=xs) (n:=n) h;exact⟨Nat.succ_le_succ h1,h2⟩
theorem ya{n:Nat}(h:n≤64):n≤ai:=aG h (by decide)
def eF(t:b9):ax:=fun τ G Q=>t τ G fun ds G1=>sf (Q (.tup ds) G1) ds 64
def i9(t:b9):ax:=fun τ G Q=>t τ G fun ds G1=>sf (∀p G2,fc G1 p (.lst ds) G2->Q (.obj p) G2) ds 64
theorem T6{t:b9}{x1}(h:gS X es t):bE X (.Tuple es x1 pos) (eF t):=gP (VJ h) fun σ H Q h=>by
 obtain⟨τ,G,Q3,RS,RG,h,k⟩:=h;refine⟨τ,G,_,RS,RG,h,fun vs H1 ds G1 h1 S1 R1 q1=>?_⟩;obtain⟨z,q1⟩:=zP q1;refine⟨by rw[←h1.length];exact ya z,fun p hp=>?_⟩;refine k _ _ (.tup ds) G1 ?_ (S1.trans (.laid hp)) (R1.laid hp) q1;unfold Hv;exact⟨p,vs,rfl,.of gh,h1.ext (.laid hp)⟩
theorem T5{t:b9}(h:gS X es t):bE X (.List es pos) (i9 t):=gP (Kl h) fun σ H Q h=>by
 obtain⟨τ,G,Q3,RS,RG,h,k⟩:=h;refine⟨τ,G,_,RS,RG,h,fun vs H1 ds G1 h1 S1 R1 q1=>?_⟩;obtain⟨z,q1⟩:=zP q1;refine⟨by rw[←h1.length];exact ya z,fun p hp=>?_⟩;exact k _ _ (.obj p) (dX G1 p (.lst ds)) (by simp[Hv]) (S1.trans (.gr hp)) (R1.gr hp ⟨vs,gh,h1.ext (.laid hp)⟩) (q1 p _ (.mk' (R1.free hp)))
end
end L3
namespace L2
open PySem PySem.Spec PyProof.Rows
def lJ(env:cB):List (ι×fo)->List (ι×ε)->List (ι×ε)
 |[],acc=>acc
 | (n,k)::r,acc=>lJ env r (if k=.free then (n,(env.cells.lookup n).getD 0)::acc else acc)
theorem JZ{scope:ee}{env:cB}(h:∀y∈scope.names,y.2=.free->∃c,env.cells.lookup y.1=some c):closureFor scope env=pure (lJ env scope.names []):=by
 have key:∀(l:List (ι×fo)) (acc:List (ι×ε)),(∀y∈l,y.2=.free->∃c,env.cells.lookup y.1=some c) ->
   (forIn l acc fun (x:ι×fo) (r:List (ι×ε))=>(do
    if (x.2==cL)=true then do
     let a ←cellOf env x.1
     pure (gG ((x.1,a)::r))
    else pure (gG r):hX (ForInStep (List (ι×ε)))))=pure (lJ env l acc):=by
  intro l
  induction l with
  |nil=>intro acc _;rfl
  |cons y r ih=>
   intro acc hy;obtain⟨n,k⟩:=y;rw[oX];by_cases hk:k=.free
   ·obtain⟨c,hc⟩:=hy (n,k) Δ hk;have e1:cellOf env n=pure c:=by unfold cellOf;rw[show env.cells.lookup n=some c from hc]
    subst hk;simp only[beq_self_eq_true,if_true,e1,pure_bind];rw[ih _ fun y hy'=>hy y (ω _ hy')];show _=pure (lJ env r (if cL=cL then (n,(env.cells.lookup n).getD 0)::acc else acc));rw[if_pos rfl,show env.cells.lookup n=some c from hc];rfl
   ·have hb:(k==cL)=false:=by simpa using hk
    simp only[hb,fB,if_false,pure_bind];rw[ih _ fun y hy'=>hy y (ω _ hy')];show _=pure (lJ env r (if k=cL then (n,(env.cells.lookup n).getD 0)::acc else acc));rw[if_neg hk]
 have:=key scope.names [] h;unfold closureFor
 first
  |exact (by simpa using this)
  | (simp only[bind_pure];exact this)
theorem JY{env:cB}{x:ι}{c:ε}:∀(l:List (ι×fo)) (acc:List (ι×ε)),(lJ env l acc).lookup x=some c ->
  acc.lookup x=some c∨((x,cL)∈l/\c=(env.cells.lookup x).getD 0)
 |[],_,h=>.inl h
 | (n,k)::r,acc,h=>by
  rcases JY r _ h with q|⟨q1,q2⟩
  ·by_cases hk:k=.free
   ·rw[if_pos hk,cg] at q;by_cases hx:(x==n)=true
    ·rw[hx] at q;have hx':x=n:=by simpa using hx
     subst hx' hk;exact .inr ⟨Δ,(ao q).symm⟩
    ·have hx2:(x==n)=false:=by simpa using hx
     rw[hx2] at q;exact .inl q
   ·rw[if_neg hk] at q;exact .inl q
  ·exact .inr ⟨ω _ q1,q2⟩
theorem JX{env:cB}{x:ι}:∀(l:List (ι×fo)) (acc:List (ι×ε)),acc.lookup x=some ((env.cells.lookup x).getD 0)->(lJ env l acc).lookup x=some ((env.cells.lookup x).getD 0)
 |[],_,h=>h
 | (n,k)::r,acc,h=>by
  refine JX r _ ?_;by_cases hk:k=.free
  ·rw[if_pos hk,cg];by_cases hx:(x==n)=true
   ·rw[hx];have hx':x=n:=by simpa using hx
    rw[hx']
   ·have hx2:(x==n)=false:=by simpa using hx
    rw[hx2];exact h
  ·rw[if_neg hk];exact h
theorem JW{env:cB}{x:ι}:∀(l:List (ι×fo)) (acc:List (ι×ε)),(x,cL)∈l->(lJ env l acc).lookup x=some ((env.cells.lookup x).getD 0)
 |[],_,h=>by cases h
 | (n,k)::r,acc,h=>by
  rcases Φ.mp h with e|e
  ·cases e;refine JX r _ ?_;rw[if_pos rfl,cg,beq_self_eq_true]
  ·exact JW r _ e
structure dE(N:List ι)(sc scope:ee)(own:List ι)(js:List Nat):Prop where
 kind:scope.kind=.function
 B2:∀y∈scope.names,y.2≠.cell
 names:∀y∈scope.names,y.2=.local->scope.names.lookup y.1=some .local
 free:∀y∈scope.names,y.2=.free->sc.names.lookup y.1=some .cell/\own.contains y.1=false
 only:∀y∈scope.names,y.2=.free->scope.names.lookup y.1=some .free
 js:∀j∈js,j<N.length/\(N.getD j hV,cL)∈scope.names
def ZG(N own:List ι)(js:List Nat):List ι:=own++js.map fun j=>N.getD j hV
def tQ(own:List ι)(js:List Nat)(σ:St):St:=bj own.length none++js.map fun j=>(σ[j]?).getD none
def Cx.cmp(X:Cx)(scope:ee)(own:List ι)(js:List Nat)(s:ζ)(H:Hp)(fp:List ε):Cx:=
 { X with N:=ZG X.N own js,s₀:=s,H₀:=H,env:=compEnvC scope (lJ X.env scope.names []) s.heap.objs.size X.env,outer:=X.stack,ex:=fp,fn:=fun x=>own.contains x,pn:=[],xe:=fun _ _=>False }
theorem Ag{sc:ee}{env:cB}{x:ι}{k:fo}:∀(names:List (ι×fo)),
  (names.map fun (n,k)=>if (k==cL&&env.scope.kind==.function&&env.kindOf n==some .cell) then (n,rP) else (n,k)).lookup x=some k ->
  (names.lookup x=some k/\(k≠.free∨k=.free))∨(k=.cell/\names.lookup x=some .free)
 |[],h=>by simp at h
 | (n,k')::r,h=>by
  have ih:=@Ag sc env x k r;have h':List.lookup x ((if (k'==cL&&env.scope.kind==.function&&env.kindOf n==some .cell)=true then (n,rP) else (n,k'))::_)=some k:=h;rw[cg];by_cases hc:(k'==cL&&env.scope.kind==.function&&env.kindOf n==some .cell)=true
  ·rw[if_pos hc,cg] at h';cases hx:x==n with
   |true=>
    rw[hx] at h';have e:rP=k:=ao h';have hk':k'=.free:=by
     rw[bF,bF] at hc;simpa using hc.1.1
    exact .inr ⟨e.symm,by rw[hk']⟩
   |false=>
    rw[hx] at h';exact ih h'
  ·rw[if_neg hc,cg] at h';cases hx:x==n with
   |true=>
    rw[hx] at h';have e:k'=k:=ao h';subst e;exact .inl ⟨rfl,by by_cases z:k'=.free;exact .inr z;exact .inl z⟩
   |false=>
    rw[hx] at h';exact ih h'
theorem DF{x:ι}{k:fo}{l:List (ι×fo)}(h:l.lookup x=some k):(x,k)∈l:=PySem.mem_of_lookup h
section
variable {X:Cx} {pins:List (ε×aA)} {σ:St} {H:Hp} {s:ζ} {scope:ee} {own:List ι} {js:List Nat} {fp:List ε}
theorem dE.cells(C:dE X.N X.env.scope scope own js)(ok:X.Ok):∀y∈scope.names,y.2=.free->∃c,X.env.cells.lookup y.1=some c:=fun y hy e=>
 ok.has y.1 (.inl (C.free y hy e).1)
theorem dE.tS(C:dE X.N X.env.scope scope own js)(ok:X.Ok){x:ι}{c:ε}(h:(lJ X.env scope.names []).lookup x=some c):(x,cL)∈scope.names/\X.env.cells.lookup x=some c:=by
 rcases JY scope.names [] h with q|⟨q1,q2⟩
 ·cases q
 ·obtain⟨c',e⟩:=C.cells ok _ q1 rfl;refine⟨q1,?_⟩;rw[q2,show X.env.cells.lookup x=some c' from e];rfl
theorem dE.Ca(C:dE X.N X.env.scope scope own js)(ok:X.Ok){x:ι}(h:(x,cL)∈scope.names):∃c,(lJ X.env scope.names []).lookup x=some c/\X.env.cells.lookup x=some c:=by
 obtain⟨c,e⟩:=C.cells ok _ h rfl;refine⟨c,?_,e⟩;rw[JW scope.names [] h,show X.env.cells.lookup x=some c from e];rfl
theorem Inv.Mu(I:Inv X pins σ H s)(C:dE X.N X.env.scope scope own js)(hf:∀b∈fp,jj X pins H b/\b<s.heap.objs.size):(X.cmp scope own js s H fp).Ok where
 mod:=I.ok.mod
 kind:=C.kind
 glob:=I.ok.glob
 blt:=I.ok.blt
 above:=Ω _
 inj:=fun x y c h1 h2=>I.ok.inj x y c (C.tS I.ok h1).2 (C.tS I.ok h2).2
 has:=fun x h=>by
  have hfree:(x,cL)∈scope.names:=by
   rcases h with h|h
   ·rcases Ag (sc:=scope) (env:=X.env) scope.names h with⟨q,_⟩|⟨_,q⟩
    ·exact absurd rfl (C.B2 _ (DF q))
    ·exact DF q
   ·rcases Ag (sc:=scope) (env:=X.env) scope.names h with⟨q,_⟩|⟨q,_⟩
    ·exact DF q
    ·cases q
  obtain⟨c,e,_⟩:=C.Ca I.ok hfree;exact⟨c,e⟩
 yJ:=fun x c h1 h2=>by
  have q:=(C.free _ (C.tS I.ok h2).1 rfl).2;have h1':own.contains x=true:=h1;rw[q] at h1';cases h1'
 hd:=I.ok.hd
 frames:=I.ok.frames
 yB:=.inl rfl
 B9:=fun b hb=>⟨av (hf b hb).2,fun x c e=>(hf b hb).1.2.2.2.2.1 x c (C.tS I.ok e).2⟩
 bs:=I.bs
 oP:=aG I.ok.oP I.sz
 uE:=fun b o e hb=>by
  rcases (hf b hb).1.2.2.2.1 with z|z
  ·exact I.ok.uE b o e z
  ·exact absurd (ba (χ e) (aG I.ok.oP z)) (cf _)
 vU:=fun b hb z=>by
  rcases Φ.mp (I.se b z) with e|e
  ·exact (hf b hb).1.2.1 e
  ·exact (hf b hb).1.2.2.1 e
 kg:=I.stack
 vc:=I.eY
theorem T4{N:List ι}{js:List Nat}{i:Nat}{x:ι}(h:(js.map fun j=>N.getD j hV)[i]?=some x):∃j,js[i]?=some j/\x=N.getD j hV:=by
 rw[aJ] at h;cases e:js[i]? with
 |none=>rw[e] at h;cases h
 |some j=>rw[e] at h;exact⟨j,rfl,(ao h).symm⟩
theorem Inv.cmp(I:Inv X pins σ H s)(C:dE X.N X.env.scope scope own js)(hf:∀b∈fp,jj X pins H b/\b<s.heap.objs.size){h':Ξ}{tk:Nat}(hn:h'.Ns s.heap.objs.size fun _=>none)
  (kept:∀b o,s.heap.get? b=some o->h'.get? b=some o):Inv (X.cmp scope own js s H fp) [] (tQ own js σ) H { s with heap:=h',toks:=tk }:=by
 have ok:=I.Mu C hf;refine⟨ok,rfl,I.bare,Un.kept kept,⟨_,hn,fun i x v h1 h2 h3=>?_⟩,fun x c e=>?_,I.bf.fresh (Ω _),fun x c e=>I.jA x c (C.tS I.ok e).2,fun p hp=>?_,I.bf.kept kept,?_⟩
 ·have h1':(own++js.map fun j=>X.N.getD j hV)[i]?=some x:=h1;have h2':(bj own.length none++js.map fun j=>(σ[j]?).getD none)[i]?=some (some v):=h2;by_cases hi:i<own.length
  ·rw[eL (by simpa using hi),jM,if_pos hi] at h2';cases h2'
  ·rw[et (by omega)] at h1';rw[et (by simp;omega),ky] at h2';obtain⟨j,hj,rfl⟩:=T4 h1';rw[aJ,hj] at h2';have h2'':(σ[j]?).getD none=some v:=ao h2';have hσ:σ[j]?=some (some v):=by
    cases e:σ[j]? with
    |none=>rw[e] at h2'';cases h2''
    |some o=>
     rw[e] at h2'';have:o=some v:=h2'';rw[this]
   obtain⟨jl,jf⟩:=C.js j (bM hj);have hN:X.N[j]?=some (X.N.getD j hV):=by
    rw[List.getD_eq_getElem?_getD,aK jl];rfl
   have hcell:=(C.free _ jf rfl).1;obtain⟨m,hm,hl⟩:=I.loc;obtain⟨u,ru,lk⟩:=hl j _ v hN hσ (.inr (.inl hcell));refine⟨u,ru,?_⟩;obtain⟨c,e1,e2⟩:=C.Ca I.ok jf;rcases lk with⟨z,_⟩|⟨_,c',z1,z2⟩
   ·have z':X.env.scope.names.lookup (X.N.getD j hV)=some .local:=z;rw[show X.env.scope.names.lookup (X.N.getD j hV)=some .cell from hcell] at z';cases z'
   ·rw[e2] at z1;cases z1;have ic:h'.IsCell c (some u):=by
     obtain⟨o,q1,q2⟩:=z2;exact⟨o,kept _ _ q1,q2⟩
    rcases h3 with h3|h3|h3
    ·exfalso;rcases Ag (sc:=scope) (env:=X.env) scope.names h3 with⟨q,_⟩|⟨q,_⟩
     ·have z:=C.only _ jf rfl;rw[q] at z;cases z
     ·cases q
    ·exact .inr ⟨.inl h3,c,e1,ic⟩
    ·exact .inr ⟨.inr h3,c,e1,ic⟩
 ·obtain⟨v,o,q1,q2⟩:=I.cell x c (C.tS I.ok e).2;exact⟨v,o,kept _ _ q1,q2⟩
 ·exact absurd (show p∈([]:List (ε×aA)) from hp) (by simp)
 ·show (bj own.length none++js.map fun j=>(σ[j]?).getD none).length=(own++js.map fun j=>X.N.getD j hV).length;simp
theorem Inv.LL{σ':St}{H':Hp}{s':ζ}{pl:List (ε×aA)}(I:Inv X pins σ H s)(hf:∀b∈fp,jj X pins H b/\b<s.heap.objs.size)(J:Inv (X.cmp scope own js s H fp) pl σ' H' s'):Inv X pins σ H' s':=by
 refine I.Bt (ch:=fp) J.os J.base J.bf J.bare fun b hb=>?_;obtain⟨f0,f1,f2,f3,f4,f5⟩:=(hf b hb).1;exact⟨f3,f1,f4,f5⟩
theorem Inv.other{H':Hp}{s':ζ}{h':Ξ}{b:ε}(I0:Inv X pins σ H s)(I:Inv X pins σ H' s')(hb:s.heap.objs.size≤b)(hn:H' b=none)(sb:dn b s'.heap h'):Inv X pins σ H' { s' with heap:=h' }:=by
 obtain⟨f0,f1,f2,f3,f4,f5⟩:=I0.pR hb hn;exact I.turned (t':=s'.toks) (fun c o hc e=>(sb.2 c hc).trans e) f0 f1 f3 f4 f5
end
def ud(X:Cx)(ifs:List ο)(t:TT):Prop:=
 ∀(pins:List (ε×aA)) (s:ζ) (σ:St) (H:Hp) (Q:Bool->Hp->Prop),Inv X pins σ H s->t σ H Q ->
  μ (model X.prog X.w) X.A (forIn ifs true fun c r=>if r=true then do let ok ←isTrue c X.env (eval c X.env);pure (gG ok) else pure (gG r)) (TP X pins σ Q) X.xe s
def Fu:TT:=fun _ H Q=>Q true H
theorem T3{X:Cx}:ud X [] Fu:=fun _ _ _ H _ I h=>wpAny_tests_nil ⟨H,I,h⟩
theorem T1{X:Cx}{c:ο}{t:TT}(h:PT X c t):ud X [c] t:=fun pins s σ H Q I hq=>wpAny_tests_one (h pins s σ H Q I hq)
section
variable {prog:Ψ} {w:af} {A:aq} {R:Result->ζ->Prop} {s:ζ}
theorem TZ{elt target iter:ο}{ifs:List ο}{scope:ee}{pos:ay}{it acc:Value}{env:cB}(I:Nat->ζ->Prop)
  (turn:∀n s,I n s->μ (model prog w) A (pyNext it) (fun r s₁=>match r with
   |none=>R (.ok .next) s₁
   | some v=>μ (model prog w) A (letOwnedTupleGo target it v) (fun _ s₁'=>μ (model prog w) A (assign target env v) (fun _ s₂=>
     μ (model prog w) A (forIn ifs true fun c r=>if r=true then do let ok ←isTrue c env (eval c env);pure (gG ok) else pure (gG r)) (fun ok s₃=>
      if ok=true then μ (model prog w) A (eval elt env) (fun x s₄=>
       μ (model prog w) A (call (.builtin "list.append") [acc,x]) (fun _ s₅=>∃m,m<n/\I m s₅) (fun _ _=>False) s₄) (fun _ _=>False) s₃
      else ∃m,m<n/\I m s₃) (fun _ _=>False) s₂) (fun _ _=>False) s₁') (fun _ _=>False) s₁) (fun _ _=>False) s)
  (n:Nat) (h:I n s):
  fF (model prog w) A (.compLoop (.ListComp elt [⟨target,iter,ifs,0⟩] scope pos) 0 it acc env) R s:=by
 refine codeAny_loop rfl I (fun n s hI=>?_) n h;show μ _ A ((compTurn (.ListComp elt [⟨target,iter,ifs,0⟩] scope pos) 0 it acc env).onRaise (fun x=>do noteFrame x env;theTreesLotGoes x)) _ _ s
 refine wpAny_noted ?_;rw[compTurn_list];refine δ (fH (δ (cp (turn n s hI) (fun r s₁ h₁=>?_) fun _ _ h'=>h'.elim)));cases r with
 |none=>exact θ h₁
 |some v=>
  refine δ (cp h₁ (fun _ s₁' h₁'=>?_) fun _ _ h'=>h'.elim);refine δ (cp h₁' (fun _ s₂ h₂=>δ (cp h₂ (fun ok s₃ h₃=>?_) fun _ _ h'=>h'.elim)) fun _ _ h'=>h'.elim);cases ok with
  |false=>exact θ ⟨rfl,h₃⟩
  |true=>
   exact δ (δ (cp h₃ (fun x s₄ h₄=>δ (cp h₄ (fun _ s₅ h₅=>θ (θ ⟨rfl,h₅⟩)) fun _ _ h'=>h'.elim)) fun _ _ h'=>h'.elim))
end
def LA(own:List ι)(js:List Nat)(g:TG)(tc:TT)(te:TE)(J:It)(σ:St)(H:Hp)(Q:VK):Prop:=
 ∀D,H D=none->∃W:Nat->Nat->List V->St->Hp->Prop,(∃m,W 0 m [] (tQ own js σ) (upd H D (.lst [])))/\∀i m ys σ' H',W i m ys σ' H'->H' D=some (.lst ys) ∧
  ((J.stop i H'/\Q (.ref D) H')∨(J.go i H'/\ys.length<ai/\∀x H2,J.BJ i H' x H2->g x σ' H2 fun σ2 H3=>tc σ2 H3 fun b H4=>
   if b=true then te σ2 H4 fun v H5=>H5 D=some (.lst ys)/\∃m',m' < m/\W (i+1) m' (ys++[v]) σ2 (upd H5 D (.lst (ys++[v]))) else ∃m',m' < m/\W (i+1) m' ys σ2 H4))
def FR(own:List ι)(js:List Nat)(wi:TI)(g:TG)(tc:TT)(te:TE):TE:=fun σ H Q=>wi σ H fun J H1=>LA own js g tc te J σ H1 Q
section
variable {X:Cx} {tg iter elt:ο} {ifs:List ο} {scope:ee} {pos:ay} {own:List ι} {js:List Nat} {g:TG} {tc:TT} {te:TE}
theorem JV{pins:List (ε×aA)}{σ:St}{H:Hp}{s:ζ}{Q:VK}{it:ε}{fp:List ε}{tn:Nat->Ξ->Prop}{J:It}{E:Value->ζ->Prop}{RR:Value->ε->Result->ζ->Prop}
  (hc:X.calm=true) (C:dE X.N X.env.scope scope own js)
  (hb:∀s H fp,PG (X.cmp scope own js s H fp) tg g/\ud (X.cmp scope own js s H fp) ifs tc/\PE (X.cmp scope own js s H fp) elt te)
  (I:Inv X pins σ H s) (T:Turn X.prog X.w X.K tg J fp it tn) (st:tn 0 s.heap) (hf:∀b∈fp,jj X pins H b) (rd:LA own js g tc te J σ H Q)
  (ZZ:∀D N s' H',Inv X pins σ H' s'->Q (.ref D) H'->s.heap.objs.size≤N->H' N=none->(∃m,s'.heap.Ns N m)->RR (.ref D) N (.ok .next) s'):
  μ (model X.prog X.w) X.A (newList []) (fun acc s₃=>μ (model X.prog X.w) X.A (newFunctionEnv scope X.env.globals (lJ X.env scope.names []) [] X.env.qual none .none (some X.env)) (fun cenv s₄=>
   fF (model X.prog X.w) X.A (.compStart (.ListComp elt [⟨tg,iter,ifs,0⟩] scope pos) 0 (.ref it) acc { cenv with scope:=relabel scope X.env }) (RR acc cenv.locals) s₄) E s₃) E s:=by
 have hD:H s.heap.objs.size=none:=I.fresh;obtain⟨W,⟨m0,w0⟩,turn⟩:=rd s.heap.objs.size hD;refine aR ?_;have hI3:Inv X pins σ (upd H s.heap.objs.size (.lst [])) { s with heap:=s.heap.push { cls:=.type "list",data:=.seq ([]:List Value).toArray }}:=
  I.DX (t':=s.toks) (its:=[]) (ys:=[]) .nil (aY _)
 have hlt:∀b∈fp,b<s.heap.objs.size:=fun b hb=>by
  obtain⟨o,e,_⟩:=T.obj 0 _ st b hb;exact χ e
 have st3:tn 0 (s.heap.push { cls:=.type "list",data:=.seq ([]:List Value).toArray }):=T.keep 0 _ _ st fun b _ o e=>η _ e;generalize hs3:({ s with heap:=s.heap.push { cls:=.type "list",data:=.seq ([]:List Value).toArray }}:ζ)=s3 at hI3 ⊢;have hsz3:s3.heap.objs.size=s.heap.objs.size+1:=by rw[←hs3];exact de ..
 have st3':tn 0 s3.heap:=by rw[←hs3];exact st3
 have hf3:∀b∈fp,jj X pins (upd H s.heap.objs.size (.lst [])) b/\b<s3.heap.objs.size:=fun b hb=>by
  obtain⟨f0,f1⟩:=hf b hb;refine⟨⟨?_,f1⟩,by rw[hsz3];exact e7 (hlt b hb)⟩;rw[dj (av (hlt b hb))];exact f0
 refine wpAny_newFunctionEnv C.B2 (by intro y hy;simp at hy) (fun h₁ hns₁ hsb₁=>?_) C.kind;have kept1:∀b o,s3.heap.get? b=some o->h₁.get? b=some o:=fun b o e=>(hsb₁.2 b (av (χ e))).trans (η _ e);have I4:Inv (X.cmp scope own js s3 (upd H s.heap.objs.size (.lst [])) fp) [] (tQ own js σ) (upd H s.heap.objs.size (.lst [])) { s3 with heap:=h₁,toks:=s3.toks+([]:List (ι×Value)).length }:=
  hI3.cmp C hf3 hns₁ kept1
 have st4:tn 0 h₁:=T.keep 0 _ _ st3' fun b _ o e=>kept1 b o e;obtain⟨hg,ht,he⟩:=hb s3 (upd H s.heap.objs.size (.lst [])) fp
 -- the iterator's objects in the block's context
 have stat:∀{H':Hp},(∀b∈fp,H' b=none)->∀b∈fp,jj (X.cmp scope own js s3 (upd H s.heap.objs.size (.lst [])) fp) [] H' b:=fun {H'} hn b hb=>by
  have q:=I4.ok;exact⟨hn b hb,(q.B9 b hb).1,q.vU b hb,.inl hb,(q.B9 b hb).2,fun p hp=>absurd (show p∈([]:List (ε×aA)) from hp) (by simp)⟩
 have loop:fF (model X.prog X.w) X.A (.compLoop (.ListComp elt [⟨tg,iter,ifs,0⟩] scope pos) 0 (.ref it) (.ref s.heap.objs.size) (compEnvC scope (lJ X.env scope.names []) s3.heap.objs.size X.env))
   (RR (.ref s.heap.objs.size) s3.heap.objs.size) { s3 with heap:=h₁,toks:=s3.toks+([]:List (ι×Value)).length }:=by
  refine TZ (fun n s'=>∃i ys σ' H',Inv (X.cmp scope own js s3 (upd H s.heap.objs.size (.lst [])) fp) [] σ' H' s'/\tn i s'.heap/\(∀b∈fp,H' b=none)/\W i n ys σ' H') ?_ m0
   ⟨0,[],_,_,I4,st4,fun b hb=>(hf3 b hb).1.1,w0⟩
  rintro n s5 ⟨i,ys,σ5,H5,I5,st5,fr5,w5⟩;obtain⟨hacc,hcase⟩:=turn i n ys σ5 H5 w5;rcases hcase with⟨stop,qn⟩|⟨go,hys,step⟩
  ·refine br (T.done (X.cmp scope own js s3 (upd H s.heap.objs.size (.lst [])) fp) rfl rfl rfl hc i [] s5 σ5 H5 (fun _ _=>False) I5 (stat fr5) st5 stop) fun r s6 ⟨hr,I6⟩=>?_;subst hr;have I7:=hI3.LL hf3 I6;obtain⟨m,hm,_⟩:=I6.loc;exact ZZ _ _ _ _ I7 qn (by rw[hsz3];exact Nat.le_succ _) I6.free ⟨m,hm⟩
  ·refine br (T.item (X.cmp scope own js s3 (upd H s.heap.objs.size (.lst [])) fp) rfl rfl rfl hc i [] s5 σ5 H5 (fun _ _=>False) I5 (stat fr5) st5 go) fun r s6 ⟨u,hr,h6⟩=>?_;subst hr;refine br h6 fun _ s7 ⟨x,H7,I7,r7,y7,st7,fr7⟩=>?_;have I7':=I7.pinned (stat fr7) (T.obj _ _ st7);refine br (hg _ s7 σ5 H7 x u _ I7' r7 (step x H7 y7)) fun _ s8 ⟨σ8,H8,I8,q8⟩=>?_;refine br (ht _ s8 σ8 H8 _ I8 q8) fun ok s9 ⟨H9,I9,q9⟩=>?_;have back:∀{σ':St} {H':Hp} {s':ζ} {ys':List V},Inv (X.cmp scope own js s3 (upd H s.heap.objs.size (.lst [])) fp) ([]++sA fp s7.heap) σ' H' s'->(∃m',m' < n/\W (i+1) m' ys' σ' H') ->
     ∃m',m' < n/\∃i ys σ' H',Inv (X.cmp scope own js s3 (upd H s.heap.objs.size (.lst [])) fp) [] σ' H' s'/\tn i s'.heap/\(∀b∈fp,H' b=none)/\W i m' ys σ' H':=fun {σ' H' s' ys'} I' ⟨m',hm,w'⟩=>by
    refine⟨m',hm,i+1,ys',σ',H',I'.kc,T.keep _ _ _ st7 fun b hb o e=>(I'.pin (b,o) (aV _ (aV _ (zW hb e)))).1,fun b hb=>?_,w'⟩;obtain⟨o,e,d⟩:=T.obj _ _ st7 b hb;exact (I'.pin (b,o) (aV _ (aV _ (zW hb e)))).2.1
   cases ok with
   |false=>
    rw[if_neg ak] at q9 ⊢;exact back I9 q9
   |true=>
    rw[if_pos rfl] at q9 ⊢;refine br (he _ s9 σ8 H9 _ I9 q9) fun xv s10 ⟨v,H10,I10,r10,hD10,q10⟩=>?_;refine br (Kz (X:=X.cmp scope own js s3 (upd H s.heap.objs.size (.lst [])) fp) _ s10 σ8 H10 (.ref s.heap.objs.size) [v] (.ref s.heap.objs.size) [xv] (fun _ H'=>H'=upd H10 s.heap.objs.size (.lst (ys++[v]))) I10 rfl (.cons r10 .nil)
     ⟨_,ys,v,rfl,rfl,hD10,hys,rfl⟩) fun _ s11 ⟨_,H11,I11,_,e11⟩=>?_
    subst e11;exact back I11 q10
 exact codeAny_compStart_list loop (T.self _ 0 _ _ _ st4 loop)
theorem TY{wi:TI}(hc:X.calm=true)(C:dE X.N X.env.scope scope own js)(hi:PI X tg iter wi)
  (hb:∀s H fp,PG (X.cmp scope own js s H fp) tg g/\ud (X.cmp scope own js s H fp) ifs tc/\PE (X.cmp scope own js s H fp) elt te)
  (hs:∀x,foldedSetIterable iter X.env x=pure x:=by intro _;rfl):PE X (.ListComp elt [⟨tg,iter,ifs,0⟩] scope pos) (FR own js wi g tc te):=by
 intro pins s σ H Q I h;rw[eval_ListComp];refine nW (use:=none) rfl hs (JZ (C.cells I.ok)) C.kind C.names (br (hi pins s σ H _ I h) fun xv s₁ h₁=>br h₁ fun itv s₂ h₂=>?_);obtain⟨it,fp,tn,J,H2,e,I2,T,st2,f2,rd⟩:=h₂;subst e;refine JV (RR:=fun acc C'=>compPost (model X.prog X.w) X.A X.xe none (EP X pins σ Q) acc C') hc C hb I2 T st2 f2 rd fun D N s' H' I' q hN hHN ⟨m,hm⟩=>?_;exact⟨m,hm,fun h' sb=>⟨.ref D,H',I2.other I' hN hHN sb,rfl,q⟩⟩
theorem TX{wi:TI}{i:Nat}{y:ι}{py spos:ay}(hc:X.calm=true)(hN:X.N.Nodup)(hy:X.N[i]?=some y)(hyl:X.env.scope.names.lookup y=some .local)(C:dE X.N X.env.scope scope own js)(hi:PI X tg iter wi)
  (hb:∀s H fp,PG (X.cmp scope own js s H fp) tg g/\ud (X.cmp scope own js s H fp) ifs tc/\PE (X.cmp scope own js s H fp) elt te)
  (B8:swapsWith (.ListComp elt [⟨tg,iter,ifs,0⟩] scope pos) (some (.Name y py)) spos.line X.env=pure true:=by rfl)
  (hs:∀x,foldedSetIterable iter X.env x=pure x:=by intro _;rfl):PS X (.Assign [.Name y py] (.ListComp elt [⟨tg,iter,ifs,0⟩] scope pos) spos) (Co (FR own js wi g tc te) (Aw i)):=by
 intro pins s σ H D I h;rw[exec_Assign_Name_used _ _ _ _ B8];refine δ (fH (δ ?_));show μ _ X.A (do let _ ←comprehension (.ListComp elt [⟨tg,iter,ifs,0⟩] scope pos) scope X.env _ (newList []) false (eval iter X.env) (some (assign (.Name y py) X.env))) _ _ s;refine δ (cp (nW (use:=some (assign (.Name y py) X.env)) (Q:=fun _ s'=>SP X pins D .next s') rfl hs (JZ (C.cells I.ok)) C.kind C.names
  (br (hi pins s σ H _ I h) fun xv s₁ h₁=>br h₁ fun itv s₂ h₂=>?_)) (fun _ s' hq=>θ (θ hq)) fun _ _ e=>e)
 obtain⟨it,fp,tn,J,H2,e,I2,T,st2,f2,rd⟩:=h₂;subst e;refine JV (RR:=fun acc C'=>compPost (model X.prog X.w) X.A X.xe (some (assign (.Name y py) X.env)) (fun _ s'=>SP X pins D .next s') acc C') hc C hb I2 T st2 f2 rd fun L N s' H' I' q hN' hHN ⟨m,hm⟩=>?_
 show μ _ _ (assign (.Name y py) X.env (.ref L)) _ _ _;refine wpAny_assign_Name (DJ I' hN hy (.inl hyl) (v:=.ref L) rfl (fun s'' I'' ⟨a,sb,ha⟩=>?_) (.inr hyl));have hNa:N≠a:=by
  obtain⟨f0,f1,f2,f3,f4,f5⟩:=I2.pR hN' hHN;rcases ha with rfl|ha
  ·exact f1
  ·exact da (f4 _ _ ha)
 refine⟨m,hm.sameBut sb hNa,fun h'' sb''=>?_⟩;refine⟨σ.set i (some (.ref L)),H',?_,q⟩;obtain⟨f0,f1,f2,f3,f4,f5⟩:=I2.pR hN' hHN;exact I''.turned (t':=s''.toks) (fun c o hc e=>(sb''.2 c hc).trans e) f0 f1 f3 f4 f5
end
end L2
namespace L3
open PySem PySem.Spec PyProof.Rows L2
section
variable {X:Cx} {st:aB} {rest:List aB} {t u:ar} {e c:ο} {te:ax} {tc:cF} {pos:ay}
def ft:ar:=fun D τ G=>D.nx τ G
def bz(t u:ar):ar:=fun D τ G=>t { D with nx:=u D } τ G
theorem TV:jh X [] ft:=J0 Wd fun D σ H ⟨τ,G,D3,RS,RG,h,k⟩=>k.nx τ σ G H RS (.refl H G) RG h
theorem TU(h1:mL X st t)(h2:jh X rest u):jh X (st::rest) (bz t u):=J0 (Wc h1 h2) fun D σ H ⟨τ,G,D3,RS,RG,h,k⟩=>
 ⟨τ,G,{ D3 with nx:=u D3 },RS,RG,h,⟨fun τ' σ' G' H' a b c q=>⟨τ',G',D3,a,c,q,k.step b⟩,k.bk,k.ct,k.rt⟩⟩
theorem TQ(h1:mL X st t):jh X [st] t:=Wb h1
def tL(te:ax):ar:=fun D τ G=>te τ G fun _ G1=>D.nx τ G1
theorem TN(he:bE X e te)(hs:swapsWith e none pos.line X.env=pure false:=by rfl):mL X (.Expr e pos) (tL te):=mx (Wa he hs) fun D σ H ⟨τ,G,D3,RS,RG,h,k⟩=>
 ⟨τ,G,_,RS,RG,h,fun v H1 d G1 h1 S1 R1 q1=>k.nx τ σ G1 H1 (RS.ext (S1.ext RG)) S1 R1 q1⟩
def bS(te:ax):ar:=fun D τ G=>te τ G D.rt
theorem Uy(he:bE X e te):mL X (.Return (some e) pos) (bS te):=mx (V9 he) fun D σ H ⟨τ,G,D3,RS,RG,h,k⟩=>
 ⟨τ,G,D3.rt,RS,RG,h,fun v H1 d G1 h1 S1 R1 q1=>k.rt d v G1 H1 h1 S1 R1 q1⟩
def jV(c:cF)(t u:ar):ar:=fun D τ G=>c τ G fun b G1=>Br b (t D τ G1) (u D τ G1)
theorem Nh{a b:List aB}(hc:oU X c tc)(ha:jh X a t)(hb:jh X b u):mL X (.If c a b pos) (jV tc t u):=mx (V8 hc ha hb) fun D σ H ⟨τ,G,D3,RS,RG,h,k⟩=>
 ⟨τ,G,_,RS,RG,h,fun b H1 G1 S1 R1 q1=>Br.ite q1 (fun q=>⟨τ,G1,D3,RS.ext (S1.ext RG),R1,q,k.step S1⟩) fun q=>⟨τ,G1,D3,RS.ext (S1.ext RG),R1,q,k.step S1⟩⟩
end
abbrev gR:=D->S3->Gp->(S3->Gp->Prop)->Prop
abbrev lK:=List D->S3->Gp->(S3->Gp->Prop)->Prop
def lowG(K:PySem.W.Frag)(t:gR):TG:=fun v σ H Q=>∃d τ G Q3,Hv K H d v/\dI K τ σ H/\aD K G H/\t d τ G Q3/\∀τ' σ' G' H',dI K τ' σ' H'->Step H G H' G'->aD K G' H'->Q3 τ' G'->Q σ' H'
def Mm(K:PySem.W.Frag)(t:lK):uc:=fun vs σ H Q=>∃ds τ G Q3,aw K H ds vs/\dI K τ σ H/\aD K G H/\t ds τ G Q3/\∀τ' σ' G' H',dI K τ' σ' H'->Step H G H' G'->aD K G' H'->Q3 τ' G'->Q σ' H'
abbrev sV(X:Cx)(tg:ο)(t:gR):Prop:=PG X tg (lowG X.K t)
abbrev vZ(X:Cx)(tgs:List ο)(t:lK):Prop:=wg X tgs (Mm X.K t)
section
variable {X:Cx} {pos:ay} {e:ο} {es:List ο}
theorem Af{t t':TG}(h:PG X e t)(f:∀v σ H Q,t' v σ H Q->t v σ H Q):PG X e t':=fun pins s σ H v u Q I r q=>h pins s σ H v u Q I r (f v σ H Q q)
theorem JU{t t':uc}(h:wg X es t)(f:∀v σ H Q,t' v σ H Q->t v σ H Q):wg X es t':=fun pins s σ H v u Q I r q=>h pins s σ H v u Q I r (f v σ H Q q)
def hName(i:Nat):gR:=fun d τ G Q=>Q (jO τ i d) G
theorem Ux{i:Nat}{x:ι}(hN:X.N.Nodup)(hi:X.N[i]?=some x:=by rfl)(hx:Loc X.env.scope x:=by first|exact sZ rfl|exact qp rfl)(hf:X.fn x=true∨X.env.scope.names.lookup x=some .local:=by first|exact .inl rfl|exact .inr rfl|assumption):sV X (.Name x pos) (hName i):=
 Af (V7 hN hi hx hf) fun v σ H Q ⟨d,τ,G,Q3,hd,RS,RG,h,k⟩=>k _ _ G H (RS.set hd) (.refl H G) RG h
def qY:lK:=fun ds τ G Q=>match ds with
 |[]=>Q τ G
 |_::_=>False
def gU(t:gR)(u:lK):lK:=fun ds τ G Q=>match ds with
 |[]=>False
 |d::r=>t d τ G fun τ' G'=>u r τ' G' Q
theorem Uw:vZ X [] qY:=JU V6 fun vs σ H Q ⟨ds,τ,G,Q3,hd,RS,RG,h,k⟩=>by
 cases ds with
 |nil=>exact⟨hd.gi,k _ _ G H RS (.refl H G) RG h⟩
 |cons d r=>exact h.elim
theorem Uv{t:gR}{u:lK}(h1:sV X e t)(h2:vZ X es u)(hs:(assignEach (e::es) X.env).map (·.2)=assign e X.env::(assignEach es X.env).map (·.2):=by rfl):vZ X (e::es) (gU t u):=
 JU (V5 h1 h2 hs) fun vs σ H Q ⟨ds,τ,G,Q3,hd,RS,RG,h,k⟩=>by
  cases ds with
  |nil=>exact h.elim
  |cons d r=>
   obtain⟨v,vr,rfl,q1,q2⟩:=hd.inv;refine⟨v,vr,rfl,d,τ,G,_,q1,RS,RG,h,fun τ' σ' G' H' a b c q=>?_⟩;exact⟨r,τ',G',Q3,q2.ext (b.ext RG),a,c,q,fun τ2 σ2 G2 H2 a2 b2 c2=>k τ2 σ2 G2 H2 a2 (b.trans b2) c2⟩
def nS(n:Nat)(t:lK):gR:=fun d τ G Q=>match d with
 |.tup ds=>ds.length=n/\t ds τ G Q
 |_=>False
theorem Uu{k:Nat}{t:lK}{n:Nat}(hc:X.calm=true)(h:vZ X es t)(hn:(assignEach es X.env).length=n:=by rfl)(hst:(assignEach es X.env).findIdx? (·.1)=none:=by rfl):sV X (.Tuple es k pos) (nS n t):=
 Af (V4 hc h hn hst) fun v σ H Q ⟨d,τ,G,Q3,hd,RS,RG,h,k⟩=>by
  cases d with
  |tup ds=>
   unfold Hv at hd;obtain⟨a,vs,e1,e2,e3⟩:=hd;exact⟨a,vs,e1,e2,by rw[←e3.length];exact h.1,ds,τ,G,Q3,e3,RS,RG,h.2,k⟩
  |_=>exact h.elim
def cb(te:ax)(g:gR):ar:=fun D τ G=>te τ G fun x G1=>g x τ G1 D.nx
theorem Ut{tg:ο}{te:ax}{g:gR}(he:bE X e te)(hg:sV X tg g)(hs:swapsWithSole [tg] e pos.line X.env=pure false:=by rfl)(hw:swappedStores [tg] e X.env=pure none:=by rfl)
  (h1:(assignEach [tg] X.env).map (·.2)=[assign tg X.env]:=by rfl):mL X (.Assign [tg] e pos) (cb te g):=mx (VA he hg hs hw h1) fun D σ H ⟨τ,G,D3,RS,RG,h,k⟩=>
 ⟨τ,G,_,RS,RG,h,fun v H1 d G1 h1 S1 R1 q1=>⟨d,τ,G1,D3.nx,h1,RS.ext (S1.ext RG),R1,q1,fun τ' σ' G' H' a b c q=>k.nx τ' σ' G' H' a (S1.trans b) c q⟩⟩
theorem Us{i:Nat}{x:ι}{te:ax}{pos':ay}(hN:X.N.Nodup)(he:bE X e te)(hi:X.N[i]?=some x:=by rfl)(hx:Loc X.env.scope x:=by first|exact sZ rfl|exact qp rfl)(hs:swapsWith e (some (.Name x pos')) pos.line X.env=pure false:=by rfl)
  (hf:X.fn x=true∨X.env.scope.names.lookup x=some .local:=by first|exact .inl rfl|exact .inr rfl|assumption):mL X (.Assign [.Name x pos'] e pos) (cb te (hName i)):=mx (Vz hN hi hx he hs hf) fun D σ H ⟨τ,G,D3,RS,RG,h,k⟩=>
 ⟨τ,G,_,RS,RG,h,fun v H1 d G1 h1 S1 R1 q1=>k.nx _ _ G1 H1 ((RS.ext (S1.ext RG)).set h1) S1 R1 q1⟩
def yT(i j:Nat)(ta:b9):ar:=fun D τ G=>ta τ G fun ds G1=>match ds with
 |[a,b]=>D.nx (jO (jO τ i a) j b) G1
 |_=>False
theorem JT{i j:Nat}{st:aB}{ta:b9}(h:PS X st (Cn i j (sH X.K ta))):mL X st (yT i j ta):=mx h fun D σ H ⟨τ,G,D3,RS,RG,h,k⟩=>
 ⟨τ,G,_,RS,RG,h,fun vs H1 ds G1 h1 S1 R1 q1=>by
  match ds,h1,q1 with
  |[a,b],h1,q1=>
   obtain⟨v,r,rfl,z1,z2⟩:=h1.inv;obtain⟨w,r2,rfl,z3,z4⟩:=z2.inv;cases z4.gi;exact⟨v,w,rfl,k.nx _ _ G1 H1 (((RS.ext (S1.ext RG)).set z1).set z3) S1 R1 q1⟩
  |[],_,q1=>exact q1.elim
  |[_],_,q1=>exact q1.elim
  |_::_::_::_,_,q1=>exact q1.elim⟩
def yX:D->D->D->Gp->(Gp->Prop)->Prop:=fun o i v G Q=>match o,i with
 |.obj p,.int k=>∃ds j,G p=some (.lst ds)/\sL ds.length k=some j/\Q (dX G p (.lst (ds.set j v)))
 |_,_=>False
def hSub(to ti:ax):gR:=fun v τ G Q=>to τ G fun o G1=>ti τ G1 fun i G2=>yX o i v G2 fun G3=>Q τ G3
theorem JS{K:PySem.W.Frag}{o i v:D}{vo vi vv:V}{G:Gp}{H:Hp}{Q3:Gp->Prop}{Q:Hp->Prop}(ho:Hv K H o vo)(hi:Hv K H i vi)(hv:Hv K H v vv)(RG:aD K G H)(h:yX o i v G Q3)
  (k:∀H' G',Step H G H' G'->aD K G' H'->Q3 G'->Q H'):ED vo vi vv H Q:=by
 match o,i,ho,hi,h with
 |.obj p,.int j,ho,hi,h=>
  unfold Hv at ho hi;obtain⟨ds,n,e1,e2,q⟩:=h;obtain⟨vs,e3,e4⟩:=RG p _ e1;refine⟨p,vs,j,n,ho,hi,e3,by rw[←e4.length];exact e2,k _ _ (Step.wrote (g:=.lst (ds.set n v)) e1) (RG.wrote e3 ⟨_,gh,?_⟩) q⟩;exact (e4.ext (Ext.wrote e3)).set n (hv.ext (Ext.wrote e3))
 |.obj _,.az,_,_,h=>exact h.elim
 |.obj _,.bl _,_,_,h=>exact h.elim
 |.obj _,.str _,_,_,h=>exact h.elim
 |.obj _,.tup _,_,_,h=>exact h.elim
 |.obj _,.eN _,_,_,h=>exact h.elim
 |.obj _,.obj _,_,_,h=>exact h.elim
 |.obj _,.dc _,_,_,h=>exact h.elim
 |.dc _,_,_,_,h=>exact h.elim
 |.az,_,_,_,h=>exact h.elim
 |.bl _,_,_,_,h=>exact h.elim
 |.int _,_,_,_,h=>exact h.elim
 |.str _,_,_,_,h=>exact h.elim
 |.tup _,_,_,_,h=>exact h.elim
 |.eN _,_,_,_,h=>exact h.elim
theorem Ur{o i:ο}{to ti:ax}(ho:bE X o to)(hi:bE X i ti)
  (ha:∀v,assign (.Subscript o i pos) X.env v=(do
   let ov ←holding [v] (eval o X.env)
   let iv ←holding [v,ov] (eval i X.env)
   standAt pos
   holding [v,ov,iv] (setItem ov iv v)
   release [v,ov,iv] []):=by intro _;rfl):sV X (.Subscript o i pos) (hSub to ti):=Af (VB ho hi set_list ha) fun v σ H Q ⟨d,τ,G,Q3,hd,RS,RG,h,k⟩=>
 ⟨τ,G,_,RS,RG,h,fun v1 H1 d1 G1 h1 S1 R1 q1=>⟨τ,G1,_,RS.ext (S1.ext RG),R1,q1,fun v2 H2 d2 G2 h2 S2 R2 q2=>
  JS (h1.ext (S2.ext R1)) h2 ((hd.ext (S1.ext RG)).ext (S2.ext R1)) R2 q2 fun H' G' y1 y2 y3=>k _ _ G' H' (((RS.ext (S1.ext RG)).ext (S2.ext R1)).ext (y1.ext R2)) ((S1.trans S2).trans y1) y2 y3⟩⟩
def wx(to ti te:ax)(f:Int->Int->Int):ar:=fun D τ G=>to τ G fun o G1=>ti τ G1 fun i G2=>match o,i with
 |.obj p,.int k=>∃ds x,G2 p=some (.lst ds)/\kr ds k=some (.int x)/\te τ G2 fun y G3=>match y with
  |.int y=>yX o i (.int (f x y)) G3 fun G4=>D.nx τ G4
  |_=>False
 |_,_=>False
def uU(c:cF)(tb:ar):ar:=fun D τ G=>∃W:Nat->S3->Gp->Prop,(∃m,W m τ G)/\∀m τ G,W m τ G ->
 c τ G fun b G1=>Br b (tb { D with nx:=fun τ' G'=>∃m',m' < m/\W m' τ' G',ct:=fun τ' G'=>∃m',m' < m/\W m' τ' G',bk:=D.nx } τ G1) (D.nx τ G1)
theorem Uq{c:ο}{body:List aB}{tc:cF}{tb:ar}(hp:gD (model X.prog X.w) X.A X.env X.xe)(hc:oU X c tc)(hb:jh X body tb):mL X (.While c body [] pos) (uU tc tb):=
 mx (Vv hp hc hb) fun D σ H ⟨τ,G,D3,RS,RG,⟨W,⟨m0,w0⟩,turn⟩,k⟩=>by
  refine⟨fun m σ' H'=>∃τ' G',W m τ' G'/\dI X.K τ' σ' H'/\aD X.K G' H'/\Step H G H' G',⟨m0,τ,G,w0,RS,RG,.refl H G⟩,fun m σ1 H1 ⟨τ1,G1,w1,RS1,RG1,S1⟩=>?_⟩;refine⟨τ1,G1,_,RS1,RG1,turn m τ1 G1 w1,fun b H2 G2 S2 R2 q2=>Br.ite q2 (fun q=>?_) fun q=>k.nx _ _ G2 H2 (RS1.ext (S2.ext RG1)) (S1.trans S2) R2 q⟩;refine⟨fun σ' H'=>∃τ' G',(∃m',m' < m/\W m' τ' G')/\dI X.K τ' σ' H'/\aD X.K G' H'/\Step H G H' G',fun σ' H' ⟨τ',G',⟨m',hm,w'⟩,a,b,c⟩=>⟨m',hm,τ',G',w',a,b,c⟩,?_⟩;refine⟨τ1,G2,_,RS1.ext (S2.ext RG1),R2,q,⟨?_,?_,?_,?_⟩⟩
  ·exact fun τ' σ' G' H' a b c q=>⟨τ',G',q,a,c,(S1.trans S2).trans b⟩
  ·exact fun τ' σ' G' H' a b c q=>k.nx τ' σ' G' H' a ((S1.trans S2).trans b) c q
  ·exact fun τ' σ' G' H' a b c q=>⟨τ',G',q,a,c,(S1.trans S2).trans b⟩
  ·exact fun d v G' H' a b c q=>k.rt d v G' H' a ((S1.trans S2).trans b) c q
end
abbrev dC:=List D->Gp->V3->Prop
def j6(K:PySem.W.Frag)(sp:dC):Sp:=fun vs H Q _=>∃ds G Q3,aw K H ds vs/\aD K G H/\sp ds G Q3/\∀v H' d G',Hv K H' d v->Step H G H' G'->aD K G' H'->Q3 d G'->Q v H'
abbrev dD(P:Ψ)(w:af)(K:PySem.W.Frag)(mg:ι->Option Value)(base:Ξ)(k:Nat)(f:ε)(fd:ae)(ps:List ι)(sp:dC):Prop:=iG P w K mg base mM k f fd ps (j6 K sp)
def bt(sp:dC)(t:b9):ax:=fun τ G Q=>t τ G fun ds G1=>sp ds G1 Q
section
variable {X:Cx} {k:Nat} {f:ε} {fd:ae} {ps:List ι} {sp:dC} {x:ι} {p pos:ay} {e:ο} {es:List ο} {t:b9}
theorem DE{K:PySem.W.Frag}{σ:L2.St}{H:Hp}{Q:VK}{E:XK}(h:low K (bt sp t) σ H Q):wo (j6 K sp) [] E (sH K t) σ H Q:=by
 obtain⟨τ,G,Q3,RS,RG,h,k⟩:=h;refine⟨τ,G,_,RS,RG,h,fun vs H1 ds G1 h1 S1 R1 q1=>?_⟩;refine⟨ds,G1,Q3,by rw[bw];exact h1,R1,q1,fun v H' d G' z1 z2 z3 z4=>k v H' d G' z1 (S1.trans z2) z3 z4⟩
theorem Up(F:dD X.prog X.w X.K X.mg X.base k f fd ps sp)(hr:dy k X.A)(hm:X.mg x=some (.ref f))(hk:PySem.W.keepIn X.K (.ref f)=true)(hb:Binds X.K fd ps [])(ha:gS X (e::es) t)(hg:Gl X x:=by rfl)
  (hdb:(x==("__debug__":ι))=false:=by decide) (he:notStar e=true:=by rfl) (hpl:es.all notStar=true:=by rfl):
  bE X (.Call (.Name x p) (e::es) [] pos) (bt sp t):=gP (VH (E:=E0) F hr hg hm hk hb .nil LW ha hdb (dB he) (iM hpl)) fun σ H Q h=>DE h
end
section
variable {P:Ψ} {w:af} {K:PySem.W.Frag} {mg:ι->Option Value} {base:Ξ}
def aT(Q:V3):kT:={ nx:=fun _ G'=>∃G0,Sub G0 G'/\Q .az G0,rt:=fun d G'=>∃G0,Sub G0 G'/\Q d G0 }
theorem fn3{x qual:ι}{st:aB}{f:ε}{fd:ae}{N ps:List ι}{k:Nat}{sp:dC}(F:di K x qual st f fd)(S:aU N ps (ρ st))(hN:ps.length≤N.length)(len:∀ds G Q,sp ds G Q->ds.length=ps.length)(tb:ar)
  (eR:∀(cdv:Value) (A:aq) (outer:List cB) (s:ζ) (H:Hp) (E:XK),dy k (A.deeper (envOfC qual (ρ st) s.heap.objs.size f cdv)) ->
   jh (gH mM P w K mg base N qual (ρ st) f cdv A outer s H E).ly (dO st) tb)
  (mH:∀ds G Q,sp ds G Q->tb (aT Q) (aO N ds) G):dD P w K mg base (k+1) f fd ps sp:=by
 refine F.ok S (fun vs H Q E h=>?_) (fun cdv A outer s H vs Q E hr h=>?_)
 ·obtain⟨ds,G,Q3,h1,h2,h3,h4⟩:=h;rw[←h1.length];exact len _ _ _ h3
 ·obtain⟨ds,G,Q3,h1,h2,h3,h4⟩:=h;refine⟨_,eR cdv A outer s H E hr,aO N ds,G,aT Q3,.start h1 ?_,h2,mH _ _ _ h3,⟨?_,?_,?_,?_⟩⟩
  ·rw[←h1.length,len _ _ _ h3];exact hN
  ·exact fun τ σ G' H' a b c ⟨G0,s0,q⟩=>h4 _ H' .az G0 (by simp[Hv]) (b.trans (.sub s0)) (c.sub s0) q
  ·exact fun τ σ G' H' a b c q=>q.elim
  ·exact fun τ σ G' H' a b c q=>q.elim
  ·exact fun d v G' H' a b c ⟨G0,s0,q⟩=>h4 _ H' d G0 a (b.trans (.sub s0)) (c.sub s0) q
end
end L3
namespace L3
open PySem PySem.Spec PyProof.Rows L2
structure Src where
 items:List D
 guard:Gp->Prop
structure wH(K:PySem.W.Frag)(H0:Hp)(J:It)(S:Src):Prop where
 go:∀(i:Nat) d H G,Ext H0 H->aD K G H->S.guard G->S.items[i]?=some d->J.go i H/\∀x H',J.BJ i H x H'->Hv K H' d x/\Step H G H' G/\aD K G H'
 stop:∀(i:Nat) H G,Ext H0 H->aD K G H->S.guard G->S.items.length≤i->J.stop i H
abbrev mh:=S3->Gp->(Src->Gp->Prop)->Prop
def K9(K:PySem.W.Frag)(ti:mh):TI:=fun σ H R=>∃τ G R3,dI K τ σ H/\aD K G H/\ti τ G R3/\∀J H' S G',wH K H' J S->Step H G H' G'->aD K G' H'->R3 S G'->R J H'
abbrev vh(X:Cx)(tg iter:ο)(ti:mh):Prop:=PI X tg iter (K9 X.K ti)
section
variable {X:Cx} {tg iter:ο} {pos p:ay}
theorem Ae{t t':TI}(h:PI X tg iter t)(f:∀σ H R,t' σ H R->t σ H R):PI X tg iter t':=fun pins s σ H R I q=>h pins s σ H R I (f σ H R q)
def i6(te:ax):mh:=fun τ G R=>te τ G fun x G1=>match x with
 |.obj p=>∃ds,G1 p=some (.lst ds)/\R ⟨ds,fun G=>G p=some (.lst ds)⟩ G1
 |.tup ds=>R ⟨ds,fun _=>True⟩ G1
 |.eN ds=>R ⟨ds,fun _=>True⟩ G1
 |_=>False
theorem Tw{l:ο}{te:ax}(hl:bE X l te):vh X tg l (i6 te):=by
 intro pins s σ H R I h;obtain⟨τ,G,R3,RS,RG,h,k⟩:=h
 -- the state carries what a list of the heap is
 refine br (hl pins s σ H (fun v H'=>∃d G',Hv X.K H' d v/\Step H G H' G'/\aD X.K G' H'/\(match d with
  |.obj p=>∃ds,G' p=some (.lst ds)/\R3 ⟨ds,fun G=>G p=some (.lst ds)⟩ G'
  |.tup ds=>R3 ⟨ds,fun _=>True⟩ G'
  |.eN ds=>R3 ⟨ds,fun _=>True⟩ G'
  | _=>False)) I ⟨τ,G,_,RS,RG,h,fun v H' d G' a b c q=>⟨d,G',a,b,c,q⟩⟩) fun v s1 ⟨x,H1,I1,r1,d,G1,hv,S1,R1,q⟩=>?_
 have hlist:∀(a:ε) (its:List Value) (xs:List V),aS xs its->PlainL s1.heap a its.toArray->R (M4 X.K a) H1->μ (model X.prog X.w) X.A (pyIter (.ref a)) (E9 X pins σ tg R) X.xe s1:=by
  intro a its xs rv p q;refine eZ p.isList ?_;refine⟨s1.heap.objs.size,[s1.heap.objs.size],_,_,H1,rfl,I1.kept (t':=s1.toks) fun b o e=>η _ e,Vu a _,⟨_,ψ _ rfl,rfl,rfl⟩,fun b hb=>?_,q⟩;have e:b=s1.heap.objs.size:=by simpa using hb
  subst e;exact I1.pR (Ω _) (I1.bf.fresh (Ω _))
 cases d with
 |obj a=>
  unfold Hv at hv;subst hv;cases r1;obtain⟨ds,e1,q⟩:=q;obtain⟨vs,e2,e3⟩:=R1 a _ e1;obtain⟨its,rv,p,hz⟩:=I1.list (ff.of e2);refine hlist a its vs rv p (k _ _ _ _ ⟨?_,?_⟩ S1 R1 q)
  ·intro i d H' G' E' RG' hg hi;obtain⟨vs',z1,z2⟩:=RG' a _ hg;obtain⟨v',y1,y2⟩:=z2.get hi;refine⟨⟨vs',v',.of z1,y1⟩,fun x H'' hy=>?_⟩;obtain⟨rfl,hy⟩:=hy;have:=hy vs' (.of z1);rw[y1] at this;cases this;exact⟨y2,.refl _ _,RG'⟩
  ·intro i H' G' E' RG' hg hi;obtain⟨vs',z1,z2⟩:=RG' a _ hg;exact⟨vs',.of z1,by rw[←z2.length];exact hi⟩
 |tup ds=>
  unfold Hv at hv;obtain⟨a,vs,rfl,e2,e3⟩:=hv;cases r1;obtain⟨its,rv,p,hz⟩:=I1.tuple e2;have hq:R (Ci X.K a) H1:=by
   refine k _ _ _ _ ⟨?_,?_⟩ S1 R1 q
   ·intro i d H' G' E' RG' hg hi;obtain⟨v',y1,y2⟩:=e3.get hi;refine⟨⟨vs,v',bZ.ext E' e2,y1⟩,fun x H'' hy=>?_⟩;obtain⟨rfl,hy⟩:=hy;have:=hy vs (bZ.ext E' e2);rw[y1] at this;cases this;exact⟨y2.ext E',.refl _ _,RG'⟩
   ·intro i H' G' E' RG' hg hi;exact⟨vs,bZ.ext E' e2,by rw[←e3.length];exact hi⟩
  refine cO (show s1.heap.IsTuple a its.toArray from p) ?_;refine⟨s1.heap.objs.size,[s1.heap.objs.size],_,_,H1,rfl,I1.kept (t':=s1.toks) fun b o e=>η _ e,Vt a _,⟨_,ψ _ rfl,rfl,rfl⟩,fun b hb=>?_,hq⟩;have e:b=s1.heap.objs.size:=by simpa using hb
  subst e;exact I1.pR (Ω _) (I1.bf.fresh (Ω _))
 |eN ds=>
  unfold Hv at hv;obtain⟨a,vs,rfl,e2,e3⟩:=hv;cases r1;obtain⟨its,rv,p,hz⟩:=I1.list e2.l;refine hlist a its vs rv p (k _ _ _ _ ⟨?_,?_⟩ S1 R1 q)
  ·intro i d H' G' E' RG' hg hi;obtain⟨v',y1,y2⟩:=e3.get hi;refine⟨⟨vs,v',(ku.ext E' e2).l,y1⟩,fun x H'' hy=>?_⟩;obtain⟨rfl,hy⟩:=hy;have:=hy vs (ku.ext E' e2).l;rw[y1] at this;cases this;exact⟨y2.ext E',.refl _ _,RG'⟩
  ·intro i H' G' E' RG' hg hi;exact⟨vs,(ku.ext E' e2).l,by rw[←e3.length];exact hi⟩
 |az=>exact q.elim
 |bl _=>exact q.elim
 |int _=>exact q.elim
 |str _=>exact q.elim
 |dc _=>exact q.elim
def fP(lo:Int)(n:Nat):List D:=(ag n).map fun i:Nat=>.int (lo+(i:Int))
theorem JR{lo:Int}{n i:Nat}{d:D}(h:(fP lo n)[i]?=some d):i<n/\d=.int (lo+(i:Int)):=by
 unfold fP at h;rw[aJ] at h;by_cases hi:i<n
 ·rw[gs hi] at h;simp at h;exact⟨hi,h.symm⟩
 ·rw[cT.mpr (by simpa using hi)] at h;cases h
theorem sy(lo:Int)(n:Nat):(fP lo n).length=n:=by simp[fP]
theorem Tv{K:PySem.W.Frag}{H:Hp}(lo:Int)(n:Nat):wH K H (Fb lo n) ⟨fP lo n,fun _=>True⟩:=⟨by
 intro i d H' G' _ RG _ hi;obtain⟨h1,h2⟩:=JR hi;refine⟨h1,fun x H'' hy=>?_⟩;obtain⟨rfl,rfl⟩:=hy;exact⟨by rw[h2];simp[Hv],.refl _ _,RG⟩,by
 intro i H' G' _ RG _ hi;rw[sy] at hi;exact hi⟩
def kN(ta:b9):mh:=fun τ G R=>ta τ G fun ds G1=>match ds with
 |[.int j]=>(-(2^62)≤j/\j<2^62)/\R ⟨fP 0 j.toNat,fun _=>True⟩ G1
 |_=>False
theorem Tu{a:ο}{ta:b9}(hm:X.mg "range" = none)(ha:gS X [a] ta)(hg:Gl X "range":=by rfl)(hs:notStar a=true:=by rfl):vh X tg (.Call (.Name "range" p) [a] [] pos) (kN ta):=
 Ae (Vq hg hm ha (dB hs)) fun σ H R ⟨τ,G,R3,RS,RG,h,k⟩=>⟨τ,G,_,RS,RG,h,fun vs H1 ds G1 h1 S1 R1 q1=>by
  rcases ds with _|⟨d,_|⟨d2,ds⟩⟩
  ·exact q1.elim
  ·cases d with
   |int j=>
    obtain⟨v,r,rfl,z1,z2⟩:=h1.inv;cases z2.gi;unfold Hv at z1;exact⟨j,by rw[z1],q1.1.1,q1.1.2,k _ _ _ _ (Tv 0 _) S1 R1 q1.2⟩
   |_=>exact q1.elim
  ·cases d<;>exact q1.elim⟩
def jB(guard:Gp->Prop)(g:gR)(tb:ar)(D3:kT):List D->S3->Gp->Prop
 |[],τ,G=>guard G/\D3.nx τ G
 |d::ds,τ,G=>guard G/\g d τ G fun τ2 G2=>tb { D3 with nx:=jB guard g tb D3 ds,ct:=jB guard g tb D3 ds,bk:=D3.nx } τ2 G2
def iD(ti:mh)(g:gR)(tb:ar):ar:=fun D3 τ G=>ti τ G fun S G1=>jB S.guard g tb D3 S.items τ G1
theorem Tt{body:List aB}{ti:mh}{g:gR}{tb:ar}(hp:gD (model X.prog X.w) X.A X.env X.xe)(hc:X.calm=true)(hi:vh X tg iter ti)(hg:sV X tg g)(hb:jh X body tb)
  (hs:∀x,foldedSetIterable iter X.env x=pure x:=by intro _;rfl):mL X (.For tg iter body [] pos) (iD ti g tb):=mx (Vo hp hc hi hg hb hs) fun D2 σ H ⟨τ,G,D3,RS,RG,h,k⟩=>by
 refine⟨τ,G,_,RS,RG,h,fun J H1 S G1 ok S1 R1 q1=>?_⟩;refine⟨fun i m σ' H'=>∃τ' G',dI X.K τ' σ' H'/\aD X.K G' H'/\Step H G H' G'/\Ext H1 H'/\jB S.guard g tb D3 (S.items.drop i) τ' G'/\m+i=S.items.length,⟨S.items.length,τ,G1,RS.ext (S1.ext RG),R1,S1,.refl H1,by simpa using q1,by lia⟩,?_⟩;rintro i m σ' H' ⟨τ',G',RS',RG',S',E',q,hm⟩;by_cases hlt:i<S.items.length
 ·have hd:S.items.drop i=S.items[i]::S.items.drop (i+1):=iU hlt;have hget:S.items[i]?=some S.items[i]:=aK hlt;rw[hd] at q;obtain⟨hgd,q⟩:=q;obtain⟨z1,z2⟩:=ok.go i _ H' G' E' RG' hgd hget;refine .inr ⟨z1,fun σ2 H2=>∃τ2 G2,dI X.K τ2 σ2 H2/\aD X.K G2 H2/\Step H G H2 G2/\Ext H1 H2/\jB S.guard g tb D3 (S.items.drop (i+1)) τ2 G2,fun σ2 H2 ⟨τ2,G2,a1,a2,a3,a4,a5⟩=>⟨m-1,by lia,τ2,G2,a1,a2,a3,a4,a5,by lia⟩,fun x H2 hy=>?_⟩;obtain⟨y1,y2,y3⟩:=z2 x H2 hy;refine⟨S.items[i],τ',G',_,y1,RS'.ext (y2.ext RG'),y3,q,fun τ3 σ3 G3 H3 b1 b2 b3 b4=>?_⟩;refine⟨τ3,G3,_,b1,b3,b4,⟨?_,?_,?_,?_⟩⟩
  ·exact fun τ4 σ4 G4 H4 c1 c2 c3 c4=>⟨τ4,G4,c1,c3,((S'.trans y2).trans b2).trans c2,((E'.trans (y2.ext RG')).trans (b2.ext y3)).trans (c2.ext b3),c4⟩
  ·exact fun τ4 σ4 G4 H4 c1 c2 c3 c4=>k.nx τ4 σ4 G4 H4 c1 (((S'.trans y2).trans b2).trans c2) c3 c4
  ·exact fun τ4 σ4 G4 H4 c1 c2 c3 c4=>⟨τ4,G4,c1,c3,((S'.trans y2).trans b2).trans c2,((E'.trans (y2.ext RG')).trans (b2.ext y3)).trans (c2.ext b3),c4⟩
  ·exact fun d v G4 H4 c1 c2 c3 c4=>k.rt d v G4 H4 c1 (((S'.trans y2).trans b2).trans c2) c3 c4
 ·have hd:S.items.drop i=[]:=gL (by lia);rw[hd] at q;exact .inl ⟨ok.stop i H' G' E' RG' q.1 (by lia),k.nx τ' σ' G' H' RS' S' RG' q.2⟩
def g0(guard:Gp->Prop)(g:gR)(tc:cF)(te:ax)(Q:List D->Gp->Prop):List D->List D->S3->Gp->Prop
 |[],acc,τ,G=>guard G/\Q acc G
 |d::ds,acc,τ,G=>guard G/\g d τ G fun τ2 G2=>tc τ2 G2 fun b G3=>Br b (te τ2 G3 fun v G4=>g0 guard g tc te Q ds (acc++[v]) τ2 G4) (g0 guard g tc te Q ds acc τ2 G3)
def yj(own:List ι)(js:List Nat)(τ:S3):S3:=(own.map fun _=>none)++js.map fun j=>iu τ j
def fR(own:List ι)(js:List Nat)(ti:mh)(g:gR)(tc:cF)(te:ax):ax:=fun τ G Q=>ti τ G fun S G1=>S.items.length≤ai ∧
 g0 S.guard g tc te (fun ds G2=>∀p G3,fc G2 p (.lst ds) G3->Q (.obj p) G3) S.items [] (yj own js τ) G1
theorem JQ:∀(τ:S3) (i:Nat),iu τ i=(τ[i]?).getD none
 |[],i=>by simp[iu]
 |x::r,0=>by simp[iu]
 |x::r,i+1=>by simp[iu,JQ r i]
theorem dI.cmp{K:PySem.W.Frag}{τ:S3}{σ:L2.St}{H:Hp}(own:List ι)(js:List Nat)(R:dI K τ σ H):dI K (yj own js τ) (tQ own js σ) H:=⟨by simp[yj,tQ],fun i d h=>by
 rw[JQ] at h;unfold yj at h;by_cases hi:i<own.length
 ·rw[eL (by simpa using hi)] at h;rw[aJ,aK hi] at h;cases h
 ·rw[et (by simpa using hi),aJ] at h;simp only[ν] at h;cases hj:js[i-own.length]? with
  |none=>rw[hj] at h;cases h
  |some j=>
   rw[hj] at h;have h':iu τ j=some d:=h;obtain⟨v,e1,e2⟩:=R.at_ j d h';refine⟨v,?_,e2⟩;unfold tQ;rw[et (by simpa using hi),aJ];simp only[ky,hj,Option.map_some,e1,Option.getD_some]⟩
def eE:cF:=fun _ G Q=>Q true G
theorem Ts:ud X [] (qP X.K eE):=fun pins s σ H Q I ⟨τ,G,Q3,RS,RG,h,k⟩=>T3 pins s σ H Q I (k true H G (.refl H G) RG h)
theorem Tr{c:ο}{t:cF}(h:oU X c t):ud X [c] (qP X.K t):=T1 h
theorem JP{K:PySem.W.Frag}{own:List ι}{js:List Nat}{ti:mh}{g:gR}{tc:cF}{te:ax}{σ:L2.St}{H:Hp}{Q:VK}(h:low K (fR own js ti g tc te) σ H Q):FR own js (K9 K ti) (lowG K g) (qP K tc) (low K te) σ H Q:=by
 obtain⟨τ,G,Q3,RS,RG,h,k⟩:=h;refine⟨τ,G,_,RS,RG,h,fun J H1 S G1 ok S1 R1 q1=>?_⟩;obtain⟨hz,q1⟩:=q1;intro p hp;have hGp:G1 p=none:=R1.free hp;refine⟨fun i m ys σ' H'=>∃τ' G' acc,dI K τ' σ' H'/\aD K G' H'/\Step H G H' G'/\Ext H1 H'/\H' p=some (.lst ys)/\G' p=none/\aw K H' acc ys ∧
  g0 S.guard g tc te (fun ds G2=>∀p G3,fc G2 p (.lst ds) G3->Q3 (.obj p) G3) (S.items.drop i) acc τ' G'/\m+i=S.items.length/\ys.length≤i,?_,?_⟩
 ·have E1:Ext H1 (upd H1 p (.lst [])):=.laid hp;exact⟨S.items.length,yj own js τ,G1,[],((RS.ext (S1.ext RG)).cmp own js).ext E1,R1.laid hp,S1.trans (.laid hp),E1,gh,hGp,.nil,by simpa using q1,by lia,aY _⟩
 rintro i m ys σ' H' ⟨τ',G',acc,RS',RG',S',E',hpl,hG',hacc,q,hm,hy⟩;refine⟨hpl,?_⟩;by_cases hlt:i<S.items.length
 ·have hd:S.items.drop i=S.items[i]::S.items.drop (i+1):=iU hlt;have hget:S.items[i]?=some S.items[i]:=aK hlt;rw[hd] at q;obtain⟨hgd,q⟩:=q;obtain⟨z1,z2⟩:=ok.go i _ H' G' E' RG' hgd hget;refine .inr ⟨z1,by lia,fun x H2 hyl=>?_⟩;obtain⟨y1,y2,y3⟩:=z2 x H2 hyl
  -- what is not in G stays
  have keep:∀{Ha Hb:Hp} {Ga Gb:Gp},Step Ha Ga Hb Gb->Ha p=some (.lst ys)->Ga p=none->Hb p=some (.lst ys)/\Gb p=none:=fun {Ha Hb Ga Gb} st e n=>by
   refine⟨st.fr p _ e n,?_⟩;refine aQ fun z=>?_;rw[st.new p n z] at e;cases e
  obtain⟨p2,n2⟩:=keep y2 hpl hG';refine⟨S.items[i],τ',G',_,y1,RS'.ext (y2.ext RG'),y3,q,fun τ3 σ3 G3 H3 b1 b2 b3 b4=>?_⟩;obtain⟨p3,n3⟩:=keep b2 p2 n2;refine⟨τ3,G3,_,b1,b3,b4,fun bb H4 G4 c1 c2 c3=>?_⟩;obtain⟨p4,n4⟩:=keep c1 p3 n3;have E4:Ext H' H4:=((y2.ext RG').trans (b2.ext y3)).trans (c1.ext b3);have S4:Step H G H4 G4:=((S'.trans y2).trans b2).trans c1;have RS4:=b1.ext (c1.ext b3);refine Br.ite c3 (fun c3=>?_) fun c3=>?_
  ·refine⟨τ3,G4,_,RS4,c2,c3,fun v H5 d G5 e1 e2 e3 e4=>?_⟩;obtain⟨p5,n5⟩:=keep e2 p4 n4;refine⟨p5,m-1,by lia,τ3,G5,acc++[d],?_,?_,?_,?_,gh,n5,?_,e4,by lia,by rw[aF];simp;lia⟩
   ·exact (RS4.ext (e2.ext c2)).ext (.wrote p5)
   ·intro a o e;have cy:a≠p:=fun z=>by
     rw[z,n5] at e;cases e
    exact (e3 a o e).ext (.wrote p5) (dj cy)
   ·refine⟨fun a o e n=>?_,fun a q=>?_,fun a n q=>((S4.trans e2).new a n q)⟩
    ·by_cases cy:a=p
     ·exfalso;rw[cy] at e n;have hh:=S1.fr p o e n;rw[hp] at hh;cases hh
     ·rw[dj cy];exact (S4.trans e2).fr a o e n
    ·by_cases cy:a=p
     ·rw[cy,gh];simp
     ·rw[dj cy];exact (S4.trans e2).mE a q
   ·exact ((E'.trans E4).trans (e2.ext c2)).trans (.wrote p5)
   ·have E5:Ext H' (upd H5 p (.lst (ys++[v]))):=(E4.trans (e2.ext c2)).trans (.wrote p5);exact (hacc.ext E5).append (.cons (e1.ext (.wrote p5)) .nil)
  ·exact⟨m-1,by lia,τ3,G4,acc,RS4,c2,S4,E'.trans E4,p4,n4,hacc.ext E4,c3,by lia,by lia⟩
 ·have hd:S.items.drop i=[]:=gL (by lia);rw[hd] at q;refine .inl ⟨ok.stop i H' G' E' RG' q.1 (by lia),?_⟩;refine k _ H' (.obj p) (dX G' p (.lst acc)) (by simp[Hv]) ?_ ?_ (q.2 p _ (.mk' hG'))
  ·refine⟨S'.fr,S'.mE,fun a n z=>?_⟩;by_cases cy:a=p
   ·rw[cy];cases hh:H p with
    |none=>rfl
    |some o=>
     exfalso;rw[cy] at n;have:=S1.fr p o hh n;rw[hp] at this;cases this
   ·rw[oI cy] at z;exact S'.new a n z
  ·intro a o e;by_cases cy:a=p
   ·rw[cy,lF] at e;cases e;rw[cy];exact⟨ys,hpl,hacc⟩
   ·rw[oI cy] at e;exact RG' a o e
theorem Tq{elt:ο}{ifs:List ο}{scope:ee}{own:List ι}{js:List Nat}{ti:mh}{g:gR}{tc:cF}{te:ax}(hc:X.calm=true)(C:dE X.N X.env.scope scope own js)(hi:vh X tg iter ti)
  (hb:∀s H fp,sV (X.cmp scope own js s H fp) tg g/\ud (X.cmp scope own js s H fp) ifs (qP X.K tc)/\bE (X.cmp scope own js s H fp) elt te)
  (hs:∀x,foldedSetIterable iter X.env x=pure x:=by intro _;rfl):bE X (.ListComp elt [⟨tg,iter,ifs,0⟩] scope pos) (fR own js ti g tc te):=
 gP (TY hc C hi hb hs) fun σ H Q h=>JP h
theorem Tp{elt:ο}{ifs:List ο}{scope:ee}{own:List ι}{js:List Nat}{ti:mh}{g:gR}{tc:cF}{te:ax}{i:Nat}{y:ι}{py spos:ay}(hc:X.calm=true)(hN:X.N.Nodup)(C:dE X.N X.env.scope scope own js)(hi:vh X tg iter ti)
  (hb:∀s H fp,sV (X.cmp scope own js s H fp) tg g/\ud (X.cmp scope own js s H fp) ifs (qP X.K tc)/\bE (X.cmp scope own js s H fp) elt te) (hy:X.N[i]?=some y:=by rfl) (hyl:X.env.scope.names.lookup y=some .local:=by rfl)
  (B8:swapsWith (.ListComp elt [⟨tg,iter,ifs,0⟩] scope pos) (some (.Name y py)) spos.line X.env=pure true:=by rfl)
  (hs:∀x,foldedSetIterable iter X.env x=pure x:=by intro _;rfl):mL X (.Assign [.Name y py] (.ListComp elt [⟨tg,iter,ifs,0⟩] scope pos) spos) (cb (fR own js ti g tc te) (hName i)):=
 mx (TX hc hN hy hyl C hi hb B8 hs) fun D2 σ H ⟨τ,G,D3,RS,RG,h,k⟩=>
  JP ⟨τ,G,_,RS,RG,h,fun v H1 d G1 h1 S1 R1 q1=>k.nx _ _ G1 H1 ((RS.ext (S1.ext RG)).set h1) S1 R1 q1⟩
theorem Tn{guard:Gp->Prop}{g:gR}{tb:ar}{D3:kT}(I:List D->S3->Gp->Prop)(hg:∀ds τ G,I ds τ G->guard G)
  (step:∀d ds τ G,I (d::ds) τ G->g d τ G fun τ2 G2=>tb { D3 with nx:=I ds,ct:=I ds,bk:=D3.nx } τ2 G2) (lI:∀τ G,I [] τ G->D3.nx τ G)
  (mono:∀(N N':S3->Gp->Prop),(∀τ G,N τ G->N' τ G)->∀d τ G,(g d τ G fun τ2 G2=>tb { D3 with nx:=N,ct:=N,bk:=D3.nx } τ2 G2)->g d τ G fun τ2 G2=>tb { D3 with nx:=N',ct:=N',bk:=D3.nx } τ2 G2):
  ∀ds τ G,I ds τ G->jB guard g tb D3 ds τ G
 |[],τ,G,h=>⟨hg _ _ _ h,lI _ _ h⟩
 |d::ds,τ,G,h=>⟨hg _ _ _ h,mono (I ds) _ (fun τ G q=>Tn I hg step lI mono ds τ G q) d τ G (step d ds τ G h)⟩
theorem mw{guard:Gp->Prop}{g:gR}{tb:ar}{D3:kT}(I:List D->S3->Gp->Prop)(hg:∀ds τ G,I ds τ G->guard G)
  (step:∀d ds τ G (N:S3->Gp->Prop),I (d::ds) τ G->(∀τ' G',I ds τ' G'->N τ' G')->g d τ G fun τ2 G2=>tb { D3 with nx:=N,ct:=N,bk:=D3.nx } τ2 G2) (lI:∀τ G,I [] τ G->D3.nx τ G):
  ∀ds τ G,I ds τ G->jB guard g tb D3 ds τ G
 |[],τ,G,h=>⟨hg _ _ _ h,lI _ _ h⟩
 |d::ds,τ,G,h=>⟨hg _ _ _ h,step d ds τ G _ h fun τ' G' q=>mw I hg step lI ds τ' G' q⟩
end
end L3
namespace Dat
open PySem PySem.SeqAt
inductive D where
 |az|bl (b:Bool)|int (i:Int)|str (x:ι)|tup (xs:List D)|lst (xs:List D)|eD
mutual
def D.dZ:D->D->Bool
 |.az,.az=>true
 |.bl a,.bl b=>a==b
 |.bl a,.int b=>(if a then 1 else 0)==b
 |.int a,.bl b=>a==(if b then 1 else 0)
 |.int a,.int b=>a==b
 |.str a,.str b=>a==b
 |.tup xs,.tup ys=>i8 xs ys
 |.lst xs,.lst ys=>i8 xs ys
 |_,_=>false
def i8:List D->List D->Bool
 |[],[]=>true
 |x::xs,y::ys=>x.dZ y&&i8 xs ys
 |_,_=>false
end
mutual
def D.iP:D->Nat
 |.tup xs=>fe xs+1
 |.lst xs=>fe xs+1
 |_=>0
def fe:List D->Nat
 |[]=>0
 |x::xs=>max x.iP (fe xs)
end
theorem uu{d:D}:∀{xs:List D},d∈xs->d.iP≤fe xs
 |x::xs,h=>by
  unfold fe;rcases Φ.mp h with e|e
  ·rw[e];exact Nat.le_max_left _ _
  ·exact aG (uu e) (Nat.le_max_right _ _)
mutual
def Hv(h:Ξ):D->Value->Prop
 |.az,u=>u=.none
 |.bl b,u=>u=.bool b
 |.int i,u=>∃t,u=.int i t
 |.str x,u=>∃t,u=.str x t
 |.tup ds,u=>∃(a:ε) (its:List Value),u=.ref a/\h.IsTuple a its.toArray/\aw h ds its
 |.lst ds,u=>∃(a:ε) (its:List Value),u=.ref a/\h.IsList a its.toArray/\aw h ds its
 |.eD,_=>False
def aw(h:Ξ):List D->List Value->Prop
 |[],us=>us=[]
 |d::ds,us=>∃u r,us=u::r/\Hv h d u/\aw h ds r
end
theorem aw.length{h:Ξ}:∀{ds:List D} {us:List Value},aw h ds us->us.length=ds.length
 |[],us,e=>by
  unfold aw at e;rw[e];rfl
 |d::ds,us,e=>by
  unfold aw at e;obtain⟨u,r,rfl,_,e2⟩:=e;rw[aj,aj,e2.length]
theorem aw.get{h:Ξ}:∀{ds:List D} {us:List Value} {j:Nat} {d:D} {u:Value},aw h ds us->ds[j]?=some d->us[j]?=some u->Hv h d u
 |[],_,_,_,_,_,e,_=>by simp at e
 |d::ds,us,0,_,_,q,e1,e2=>by
  unfold aw at q;obtain⟨u,r,rfl,q1,_⟩:=q;simp at e1 e2;rw[←e1,←e2];exact q1
 |d::ds,us,j+1,_,_,q,e1,e2=>by
  unfold aw at q;obtain⟨u,r,rfl,_,q2⟩:=q;exact q2.get (j:=j) (by simpa using e1) (by simpa using e2)
theorem JO{h:Ξ}{a:ε}{xs ys:Array Value}(hl:h.IsList a xs)(ht:h.IsTuple a ys):False:=by
 obtain⟨o,ho,hc,_⟩:=hl;obtain⟨o',ho',hc',_⟩:=ht;rw[ho] at ho';cases ho';rw[hc] at hc';exact absurd hc' (by decide)
mutual
theorem Hv.inj{h:Ξ}:∀{d e:D} {u:Value},Hv h d u->Hv h e u->d=e
 |d,e,u,p,q=>by
  cases d with
  |az=>unfold Hv at p;subst p;cases e<;>unfold Hv at q<;>first|rfl|(simp at q)
  |bl b=>unfold Hv at p;subst p;cases e<;>unfold Hv at q<;>first|(simp at q;rw[q])|(simp at q)
  |int b=>unfold Hv at p;obtain⟨t,rfl⟩:=p;cases e<;>unfold Hv at q<;>first|(simp at q;rw[q])|(simp at q)
  |str b=>unfold Hv at p;obtain⟨t,rfl⟩:=p;cases e<;>unfold Hv at q<;>first|(simp at q;rw[q])|(simp at q)
  |eD=>unfold Hv at p;exact p.elim
  |tup ds=>
   unfold Hv at p;obtain⟨a,its,rfl,ha,p⟩:=p;cases e with
   |tup es=>
    unfold Hv at q;obtain⟨a',its',e1,ha',q⟩:=q;cases e1;have e2:its=its':=by
     obtain⟨o,ho,_,n,hd⟩:=ha;obtain⟨o',ho',_,n',hd'⟩:=ha';rw[ho] at ho';cases ho';rw[hd] at hd';injection hd' with e3 _
     simpa using congrArg oz e3
    subst e2;rw[aw.inj p q]
   |lst es=>
    unfold Hv at q;obtain⟨a',its',e1,ha',q⟩:=q;cases e1;exact (JO ha' ha).elim
   |_=>unfold Hv at q<;>simp at q
  |lst ds=>
   unfold Hv at p;obtain⟨a,its,rfl,ha,p⟩:=p;cases e with
   |lst es=>
    unfold Hv at q;obtain⟨a',its',e1,ha',q⟩:=q;cases e1;have e2:its=its':=by
     obtain⟨o,ho,_,n,hd⟩:=ha;obtain⟨o',ho',_,n',hd'⟩:=ha';rw[ho] at ho';cases ho';rw[hd] at hd';injection hd' with e3 _
     simpa using congrArg oz e3
    subst e2;rw[aw.inj p q]
   |tup es=>
    unfold Hv at q;obtain⟨a',its',e1,ha',q⟩:=q;cases e1;exact (JO ha ha').elim
   |_=>unfold Hv at q<;>simp at q
theorem aw.inj{h:Ξ}:∀{ds es:List D} {us:List Value},aw h ds us->aw h es us->ds=es
 |[],[],_,_,_=>rfl
 |[],e::es,us,p,q=>by
  unfold aw at p q;subst p;obtain⟨_,_,e1,_⟩:=q;cases e1
 |d::ds,[],us,p,q=>by
  unfold aw at p q;subst q;obtain⟨_,_,e1,_⟩:=p;cases e1
 |d::ds,e::es,us,p,q=>by
  unfold aw at p q;obtain⟨u,r,rfl,p1,p2⟩:=p;obtain⟨u',r',e1,q1,q2⟩:=q;cases e1;rw[Hv.inj p1 q1,aw.inj p2 q2]
end
theorem ur:∀(ds es:List D),((ag (min ds.length es.length)).all (fun j=>(ds.getD j .az).dZ (es.getD j .az))&&ds.length==es.length)=i8 ds es
 |[],[]=>by simp[i8]
 |[],e::es=>by simp[i8]
 |d::ds,[]=>by simp[i8]
 |d::ds,e::es=>by
  have ih:=ur ds es;unfold i8;rw[←ih];rw[aj,aj,show min (ds.length+1) (es.length+1)=min ds.length es.length+1 by lia,gJ,mC,tu];have e1:((ds.length+1==es.length+1):Bool)=(ds.length==es.length):=by simp
  rw[e1,Bool.and_assoc];rfl
theorem Ad:∀(ds es:List D),ds.length≠es.length->i8 ds es=false
 |[],[],h=>absurd rfl h
 |[],e::es,_=>rfl
 |d::ds,[],_=>rfl
 |d::ds,e::es,h=>by
  unfold i8;rw[Ad ds es (by simpa using h),Bool.and_false]
mutual
theorem Hv.refl{h:Ξ}:∀{d:D} {u:Value},Hv h d u->d.dZ d=true
 |.az,_,_=>rfl
 |.bl b,_,_=>by unfold D.dZ;simp
 |.int b,_,_=>by unfold D.dZ;simp
 |.str b,_,_=>by unfold D.dZ;simp
 |.eD,_,p=>by unfold Hv at p;exact p.elim
 |.tup ds,_,p=>by
  unfold Hv at p;obtain⟨_,_,_,_,p⟩:=p;unfold D.dZ;exact aw.refl p
 |.lst ds,_,p=>by
  unfold Hv at p;obtain⟨_,_,_,_,p⟩:=p;unfold D.dZ;exact aw.refl p
theorem aw.refl{h:Ξ}:∀{ds:List D} {us:List Value},aw h ds us->i8 ds ds=true
 |[],_,_=>rfl
 |d::ds,us,p=>by
  unfold aw at p;obtain⟨u,r,_,p1,p2⟩:=p;unfold i8;rw[Hv.refl p1,aw.refl p2];rfl
end
theorem lr{h:Ξ}{ds:List D}{us:List Value}(p:aw h ds us){j:Nat}(hj:j<us.toArray.size):Hv h (ds.getD j .az) (us.toArray[j])/\ds.getD j .az∈ds:=by
 have hl:=p.length;have hj':j<ds.length:=by simp at hj;lia
 have e1:ds[j]?=some (ds.getD j .az):=by simp[hj']
 exact⟨p.get e1 (by simp at hj;simp[hj]),bM e1⟩
theorem vW{s:ζ}:∀(d e:D) (u v:Value) (A:aq),Hv s.heap d u->Hv s.heap e v->A.units+d.iP+1<cLine->EqAt A s u v (d.dZ e)
 |.az,.az,u,v,A,p1,p2,hu=>by
  unfold Hv at p1;subst p1;unfold Hv at p2;subst p2;exact EqAt.same _
 |.az,.bl b2,u,v,A,p1,p2,hu=>by
  unfold Hv at p1;subst p1;unfold Hv at p2;subst p2;exact EqAt.none_bool  b2
 |.az,.int b2,u,v,A,p1,p2,hu=>by
  unfold Hv at p1;subst p1;unfold Hv at p2;obtain⟨t2,rfl⟩:=p2;exact EqAt.none_int  b2 t2
 |.az,.str b2,u,v,A,p1,p2,hu=>by
  unfold Hv at p1;subst p1;unfold Hv at p2;obtain⟨t2,rfl⟩:=p2;exact EqAt.none_str  b2 t2
 |.az,.tup ds2,u,v,A,p1,p2,hu=>by
  unfold Hv at p1;subst p1;unfold Hv at p2;obtain⟨a2,its2,rfl,l2,p2⟩:=p2;exact EqAt.none_tuple  l2 (by lia)
 |.az,.lst ds2,u,v,A,p1,p2,hu=>by
  unfold Hv at p1;subst p1;unfold Hv at p2;obtain⟨a2,its2,rfl,l2,p2⟩:=p2;exact EqAt.none_list  l2 (by lia)
 |.bl b1,.az,u,v,A,p1,p2,hu=>by
  unfold Hv at p1;subst p1;unfold Hv at p2;subst p2;exact EqAt.bool_none b1
 |.bl b1,.bl b2,u,v,A,p1,p2,hu=>by
  unfold Hv at p1;subst p1;unfold Hv at p2;subst p2;exact EqAt.bool_bool b1 b2
 |.bl b1,.int b2,u,v,A,p1,p2,hu=>by
  unfold Hv at p1;subst p1;unfold Hv at p2;obtain⟨t2,rfl⟩:=p2;exact EqAt.bool_int b1 b2 t2
 |.bl b1,.str b2,u,v,A,p1,p2,hu=>by
  unfold Hv at p1;subst p1;unfold Hv at p2;obtain⟨t2,rfl⟩:=p2;exact EqAt.bool_str b1 b2 t2
 |.bl b1,.tup ds2,u,v,A,p1,p2,hu=>by
  unfold Hv at p1;subst p1;unfold Hv at p2;obtain⟨a2,its2,rfl,l2,p2⟩:=p2;exact EqAt.bool_tuple b1 l2 (by lia)
 |.bl b1,.lst ds2,u,v,A,p1,p2,hu=>by
  unfold Hv at p1;subst p1;unfold Hv at p2;obtain⟨a2,its2,rfl,l2,p2⟩:=p2;exact EqAt.bool_list b1 l2 (by lia)
 |.int b1,.az,u,v,A,p1,p2,hu=>by
  unfold Hv at p1;obtain⟨t1,rfl⟩:=p1;unfold Hv at p2;subst p2;exact EqAt.int_none b1 t1
 |.int b1,.bl b2,u,v,A,p1,p2,hu=>by
  unfold Hv at p1;obtain⟨t1,rfl⟩:=p1;unfold Hv at p2;subst p2;exact EqAt.int_bool b1 t1 b2
 |.int b1,.int b2,u,v,A,p1,p2,hu=>by
  unfold Hv at p1;obtain⟨t1,rfl⟩:=p1;unfold Hv at p2;obtain⟨t2,rfl⟩:=p2;exact EqAt.int_int b1 t1 b2 t2
 |.int b1,.str b2,u,v,A,p1,p2,hu=>by
  unfold Hv at p1;obtain⟨t1,rfl⟩:=p1;unfold Hv at p2;obtain⟨t2,rfl⟩:=p2;exact EqAt.int_str b1 t1 b2 t2
 |.int b1,.tup ds2,u,v,A,p1,p2,hu=>by
  unfold Hv at p1;obtain⟨t1,rfl⟩:=p1;unfold Hv at p2;obtain⟨a2,its2,rfl,l2,p2⟩:=p2;exact EqAt.int_tuple b1 t1 l2 (by lia)
 |.int b1,.lst ds2,u,v,A,p1,p2,hu=>by
  unfold Hv at p1;obtain⟨t1,rfl⟩:=p1;unfold Hv at p2;obtain⟨a2,its2,rfl,l2,p2⟩:=p2;exact EqAt.int_list b1 t1 l2 (by lia)
 |.str b1,.az,u,v,A,p1,p2,hu=>by
  unfold Hv at p1;obtain⟨t1,rfl⟩:=p1;unfold Hv at p2;subst p2;exact EqAt.str_none b1 t1
 |.str b1,.bl b2,u,v,A,p1,p2,hu=>by
  unfold Hv at p1;obtain⟨t1,rfl⟩:=p1;unfold Hv at p2;subst p2;exact EqAt.str_bool b1 t1 b2
 |.str b1,.int b2,u,v,A,p1,p2,hu=>by
  unfold Hv at p1;obtain⟨t1,rfl⟩:=p1;unfold Hv at p2;obtain⟨t2,rfl⟩:=p2;exact EqAt.str_int b1 t1 b2 t2
 |.str b1,.str b2,u,v,A,p1,p2,hu=>by
  unfold Hv at p1;obtain⟨t1,rfl⟩:=p1;unfold Hv at p2;obtain⟨t2,rfl⟩:=p2;exact EqAt.str_str b1 t1 b2 t2
 |.str b1,.tup ds2,u,v,A,p1,p2,hu=>by
  unfold Hv at p1;obtain⟨t1,rfl⟩:=p1;unfold Hv at p2;obtain⟨a2,its2,rfl,l2,p2⟩:=p2;exact EqAt.str_tuple b1 t1 l2 (by lia)
 |.str b1,.lst ds2,u,v,A,p1,p2,hu=>by
  unfold Hv at p1;obtain⟨t1,rfl⟩:=p1;unfold Hv at p2;obtain⟨a2,its2,rfl,l2,p2⟩:=p2;exact EqAt.str_list b1 t1 l2 (by lia)
 |.tup ds1,.az,u,v,A,p1,p2,hu=>by
  unfold Hv at p1;obtain⟨a1,its1,rfl,l1,p1⟩:=p1;unfold Hv at p2;subst p2;exact EqAt.tuple_none  l1 (by lia)
 |.tup ds1,.bl b2,u,v,A,p1,p2,hu=>by
  unfold Hv at p1;obtain⟨a1,its1,rfl,l1,p1⟩:=p1;unfold Hv at p2;subst p2;exact EqAt.tuple_bool b2 l1 (by lia)
 |.tup ds1,.int b2,u,v,A,p1,p2,hu=>by
  unfold Hv at p1;obtain⟨a1,its1,rfl,l1,p1⟩:=p1;unfold Hv at p2;obtain⟨t2,rfl⟩:=p2;exact EqAt.tuple_int b2 t2 l1 (by lia)
 |.tup ds1,.str b2,u,v,A,p1,p2,hu=>by
  unfold Hv at p1;obtain⟨a1,its1,rfl,l1,p1⟩:=p1;unfold Hv at p2;obtain⟨t2,rfl⟩:=p2;exact EqAt.tuple_str b2 t2 l1 (by lia)
 |.tup ds1,.tup ds2,u,v,A,p1,p2,hu=>by
  unfold Hv at p1;obtain⟨a1,its1,rfl,l1,p1⟩:=p1;unfold Hv at p2;obtain⟨a2,its2,rfl,l2,p2⟩:=p2;unfold D.dZ;by_cases ha:a1=a2
  ·subst ha;have e0:(.tup ds1:D)=.tup ds2:=Hv.inj (h:=s.heap) (u:=.ref a1) (by unfold Hv;exact⟨a1,its1,rfl,l1,p1⟩) (by unfold Hv;exact⟨a1,its2,rfl,l2,p2⟩);injection e0 with e0;subst e0;rw[p1.refl];exact EqAt.same _
  ·refine EqAt.of_refs ha ?_;have hdep:A.units+fe ds1+1+1<cLine:=by
    have e9:(.tup ds1:D).iP=fe ds1+1:=by first|rfl|(unfold D.iP;rfl)
    lia
   have q:=RcAt.tuples (e:=fun j=>(ds1.getD j .az).dZ (ds2.getD j .az)) l1 l2 (by lia) fun j h1 h2=>
    have m:=(lr p1 h1).2
    vW (ds1.getD j .az) (ds2.getD j .az) _ _ A.in1 (lr p1 h1).1 (lr p2 h2).1 (by
     have:=uu m;show A.units+1+_+1<cLine;lia)
   rw[υ,υ,p1.length,p2.length,ur] at q;exact q
 |.tup ds1,.lst ds2,u,v,A,p1,p2,hu=>by
  unfold Hv at p1;obtain⟨a1,its1,rfl,l1,p1⟩:=p1;unfold Hv at p2;obtain⟨a2,its2,rfl,l2,p2⟩:=p2;exact EqAt.tuple_list l1 l2 (by lia)
 |.lst ds1,.az,u,v,A,p1,p2,hu=>by
  unfold Hv at p1;obtain⟨a1,its1,rfl,l1,p1⟩:=p1;unfold Hv at p2;subst p2;exact EqAt.list_none  l1 (by lia)
 |.lst ds1,.bl b2,u,v,A,p1,p2,hu=>by
  unfold Hv at p1;obtain⟨a1,its1,rfl,l1,p1⟩:=p1;unfold Hv at p2;subst p2;exact EqAt.list_bool b2 l1 (by lia)
 |.lst ds1,.int b2,u,v,A,p1,p2,hu=>by
  unfold Hv at p1;obtain⟨a1,its1,rfl,l1,p1⟩:=p1;unfold Hv at p2;obtain⟨t2,rfl⟩:=p2;exact EqAt.list_int b2 t2 l1 (by lia)
 |.lst ds1,.str b2,u,v,A,p1,p2,hu=>by
  unfold Hv at p1;obtain⟨a1,its1,rfl,l1,p1⟩:=p1;unfold Hv at p2;obtain⟨t2,rfl⟩:=p2;exact EqAt.list_str b2 t2 l1 (by lia)
 |.lst ds1,.tup ds2,u,v,A,p1,p2,hu=>by
  unfold Hv at p1;obtain⟨a1,its1,rfl,l1,p1⟩:=p1;unfold Hv at p2;obtain⟨a2,its2,rfl,l2,p2⟩:=p2;exact EqAt.list_tuple l1 l2 (by lia)
 |.lst ds1,.lst ds2,u,v,A,p1,p2,hu=>by
  unfold Hv at p1;obtain⟨a1,its1,rfl,l1,p1⟩:=p1;unfold Hv at p2;obtain⟨a2,its2,rfl,l2,p2⟩:=p2;unfold D.dZ;by_cases ha:a1=a2
  ·subst ha;have e0:(.lst ds1:D)=.lst ds2:=Hv.inj (h:=s.heap) (u:=.ref a1) (by unfold Hv;exact⟨a1,its1,rfl,l1,p1⟩) (by unfold Hv;exact⟨a1,its2,rfl,l2,p2⟩);injection e0 with e0;subst e0;rw[p1.refl];exact EqAt.same _
  ·refine EqAt.of_refs ha ?_;have hdep:A.units+fe ds1+1+1<cLine:=by
    have e9:(.lst ds1:D).iP=fe ds1+1:=by first|rfl|(unfold D.iP;rfl)
    lia
   by_cases hn:ds1.length=ds2.length
   ·have q:=RcAt.lists (e:=fun j=>(ds1.getD j .az).dZ (ds2.getD j .az)) l1 l2 (by simp[p1.length,p2.length,hn]) (by lia) fun j h1 h2=>
     have m:=(lr p1 h1).2
     vW (ds1.getD j .az) (ds2.getD j .az) _ _ A.in1 (lr p1 h1).1 (lr p2 h2).1 (by
      have:=uu m;show A.units+1+_+1<cLine;lia)
    have q2:=ur ds1 ds2;rw[hn,tj,beq_self_eq_true,rQ] at q2;rw[υ,p1.length,hn,q2] at q;exact q
   ·rw[Ad _ _ hn];exact sY l1 l2 (by simp[p1.length,p2.length,hn]) (by lia)
 |.az,.eD,u,v,A,p1,p2,hu=>by
  unfold Hv at p2;exact p2.elim
 |.bl b1,.eD,u,v,A,p1,p2,hu=>by
  unfold Hv at p2;exact p2.elim
 |.int b1,.eD,u,v,A,p1,p2,hu=>by
  unfold Hv at p2;exact p2.elim
 |.str b1,.eD,u,v,A,p1,p2,hu=>by
  unfold Hv at p2;exact p2.elim
 |.tup ds1,.eD,u,v,A,p1,p2,hu=>by
  unfold Hv at p2;exact p2.elim
 |.lst ds1,.eD,u,v,A,p1,p2,hu=>by
  unfold Hv at p2;exact p2.elim
 |.eD,e,u,v,A,p1,p2,hu=>by
  unfold Hv at p1;exact p1.elim
termination_by d=>sizeOf d
decreasing_by
 all_goals (have:=List.sizeOf_lt_of_mem m;first|(rw[D.tup.sizeOf_spec];lia)|(rw[D.lst.sizeOf_spec];lia))
theorem Nk{s:ζ}(d e:D)(u v:Value)(A:aq)(p1:Hv s.heap d u)(p2:Hv s.heap e v)(hu:A.units+d.iP+1<cLine):RcAt A s u v (d.dZ e):=
 match d,e,p1,p2,hu with
 |.az,.az,p1,p2,hu=>by
  unfold Hv at p1;subst p1;unfold Hv at p2;subst p2;exact RcAt.none_none
 |.az,.bl b2,p1,p2,hu=>by
  unfold Hv at p1;subst p1;unfold Hv at p2;subst p2;exact RcAt.none_bool  b2
 |.az,.int b2,p1,p2,hu=>by
  unfold Hv at p1;subst p1;unfold Hv at p2;obtain⟨t2,rfl⟩:=p2;exact RcAt.none_int  b2 t2
 |.az,.str b2,p1,p2,hu=>by
  unfold Hv at p1;subst p1;unfold Hv at p2;obtain⟨t2,rfl⟩:=p2;exact RcAt.none_str  b2 t2
 |.az,.tup ds2,p1,p2,hu=>by
  unfold Hv at p1;subst p1;unfold Hv at p2;obtain⟨a2,its2,rfl,l2,p2⟩:=p2;exact RcAt.none_tuple  l2 (by lia)
 |.az,.lst ds2,p1,p2,hu=>by
  unfold Hv at p1;subst p1;unfold Hv at p2;obtain⟨a2,its2,rfl,l2,p2⟩:=p2;exact RcAt.none_list  l2 (by lia)
 |.bl b1,.az,p1,p2,hu=>by
  unfold Hv at p1;subst p1;unfold Hv at p2;subst p2;exact RcAt.bool_none b1
 |.bl b1,.bl b2,p1,p2,hu=>by
  unfold Hv at p1;subst p1;unfold Hv at p2;subst p2;exact RcAt.bool_bool b1 b2
 |.bl b1,.int b2,p1,p2,hu=>by
  unfold Hv at p1;subst p1;unfold Hv at p2;obtain⟨t2,rfl⟩:=p2;exact RcAt.bool_int b1 b2 t2
 |.bl b1,.str b2,p1,p2,hu=>by
  unfold Hv at p1;subst p1;unfold Hv at p2;obtain⟨t2,rfl⟩:=p2;exact RcAt.bool_str b1 b2 t2
 |.bl b1,.tup ds2,p1,p2,hu=>by
  unfold Hv at p1;subst p1;unfold Hv at p2;obtain⟨a2,its2,rfl,l2,p2⟩:=p2;exact RcAt.bool_tuple b1 l2 (by lia)
 |.bl b1,.lst ds2,p1,p2,hu=>by
  unfold Hv at p1;subst p1;unfold Hv at p2;obtain⟨a2,its2,rfl,l2,p2⟩:=p2;exact RcAt.bool_list b1 l2 (by lia)
 |.int b1,.az,p1,p2,hu=>by
  unfold Hv at p1;obtain⟨t1,rfl⟩:=p1;unfold Hv at p2;subst p2;exact RcAt.int_none b1 t1
 |.int b1,.bl b2,p1,p2,hu=>by
  unfold Hv at p1;obtain⟨t1,rfl⟩:=p1;unfold Hv at p2;subst p2;exact RcAt.int_bool b1 t1 b2
 |.int b1,.int b2,p1,p2,hu=>by
  unfold Hv at p1;obtain⟨t1,rfl⟩:=p1;unfold Hv at p2;obtain⟨t2,rfl⟩:=p2;exact RcAt.int_int b1 t1 b2 t2
 |.int b1,.str b2,p1,p2,hu=>by
  unfold Hv at p1;obtain⟨t1,rfl⟩:=p1;unfold Hv at p2;obtain⟨t2,rfl⟩:=p2;exact RcAt.int_str b1 t1 b2 t2
 |.int b1,.tup ds2,p1,p2,hu=>by
  unfold Hv at p1;obtain⟨t1,rfl⟩:=p1;unfold Hv at p2;obtain⟨a2,its2,rfl,l2,p2⟩:=p2;exact RcAt.int_tuple b1 t1 l2 (by lia)
 |.int b1,.lst ds2,p1,p2,hu=>by
  unfold Hv at p1;obtain⟨t1,rfl⟩:=p1;unfold Hv at p2;obtain⟨a2,its2,rfl,l2,p2⟩:=p2;exact RcAt.int_list b1 t1 l2 (by lia)
 |.str b1,.az,p1,p2,hu=>by
  unfold Hv at p1;obtain⟨t1,rfl⟩:=p1;unfold Hv at p2;subst p2;exact RcAt.str_none b1 t1
 |.str b1,.bl b2,p1,p2,hu=>by
  unfold Hv at p1;obtain⟨t1,rfl⟩:=p1;unfold Hv at p2;subst p2;exact RcAt.str_bool b1 t1 b2
 |.str b1,.int b2,p1,p2,hu=>by
  unfold Hv at p1;obtain⟨t1,rfl⟩:=p1;unfold Hv at p2;obtain⟨t2,rfl⟩:=p2;exact RcAt.str_int b1 t1 b2 t2
 |.str b1,.str b2,p1,p2,hu=>by
  unfold Hv at p1;obtain⟨t1,rfl⟩:=p1;unfold Hv at p2;obtain⟨t2,rfl⟩:=p2;exact RcAt.str_str b1 t1 b2 t2
 |.str b1,.tup ds2,p1,p2,hu=>by
  unfold Hv at p1;obtain⟨t1,rfl⟩:=p1;unfold Hv at p2;obtain⟨a2,its2,rfl,l2,p2⟩:=p2;exact RcAt.str_tuple b1 t1 l2 (by lia)
 |.str b1,.lst ds2,p1,p2,hu=>by
  unfold Hv at p1;obtain⟨t1,rfl⟩:=p1;unfold Hv at p2;obtain⟨a2,its2,rfl,l2,p2⟩:=p2;exact RcAt.str_list b1 t1 l2 (by lia)
 |.tup ds1,.az,p1,p2,hu=>by
  unfold Hv at p1;obtain⟨a1,its1,rfl,l1,p1⟩:=p1;unfold Hv at p2;subst p2;exact RcAt.tuple_none  l1 (by lia)
 |.tup ds1,.bl b2,p1,p2,hu=>by
  unfold Hv at p1;obtain⟨a1,its1,rfl,l1,p1⟩:=p1;unfold Hv at p2;subst p2;exact RcAt.tuple_bool b2 l1 (by lia)
 |.tup ds1,.int b2,p1,p2,hu=>by
  unfold Hv at p1;obtain⟨a1,its1,rfl,l1,p1⟩:=p1;unfold Hv at p2;obtain⟨t2,rfl⟩:=p2;exact RcAt.tuple_int b2 t2 l1 (by lia)
 |.tup ds1,.str b2,p1,p2,hu=>by
  unfold Hv at p1;obtain⟨a1,its1,rfl,l1,p1⟩:=p1;unfold Hv at p2;obtain⟨t2,rfl⟩:=p2;exact RcAt.tuple_str b2 t2 l1 (by lia)
 |.tup ds1,.tup ds2,p1,p2,hu=>by
  unfold Hv at p1;obtain⟨a1,its1,rfl,l1,p1⟩:=p1;unfold Hv at p2;obtain⟨a2,its2,rfl,l2,p2⟩:=p2;unfold D.dZ;have hdep:A.units+fe ds1+1+1<cLine:=by
   have e9:(.tup ds1:D).iP=fe ds1+1:=by first|rfl|(unfold D.iP;rfl)
   lia
  have q:=RcAt.tuples (e:=fun j=>(ds1.getD j .az).dZ (ds2.getD j .az)) l1 l2 (by lia) fun j h1 h2=>
   vW (ds1.getD j .az) (ds2.getD j .az) _ _ A.in1 (lr p1 h1).1 (lr p2 h2).1 (by
    have:=uu (lr p1 h1).2;show A.units+1+_+1<cLine;lia)
  rw[υ,υ,p1.length,p2.length,ur] at q;exact q
 |.tup ds1,.lst ds2,p1,p2,hu=>by
  unfold Hv at p1;obtain⟨a1,its1,rfl,l1,p1⟩:=p1;unfold Hv at p2;obtain⟨a2,its2,rfl,l2,p2⟩:=p2;exact RcAt.tuple_list l1 l2 (by lia)
 |.lst ds1,.az,p1,p2,hu=>by
  unfold Hv at p1;obtain⟨a1,its1,rfl,l1,p1⟩:=p1;unfold Hv at p2;subst p2;exact RcAt.list_none  l1 (by lia)
 |.lst ds1,.bl b2,p1,p2,hu=>by
  unfold Hv at p1;obtain⟨a1,its1,rfl,l1,p1⟩:=p1;unfold Hv at p2;subst p2;exact RcAt.list_bool b2 l1 (by lia)
 |.lst ds1,.int b2,p1,p2,hu=>by
  unfold Hv at p1;obtain⟨a1,its1,rfl,l1,p1⟩:=p1;unfold Hv at p2;obtain⟨t2,rfl⟩:=p2;exact RcAt.list_int b2 t2 l1 (by lia)
 |.lst ds1,.str b2,p1,p2,hu=>by
  unfold Hv at p1;obtain⟨a1,its1,rfl,l1,p1⟩:=p1;unfold Hv at p2;obtain⟨t2,rfl⟩:=p2;exact RcAt.list_str b2 t2 l1 (by lia)
 |.lst ds1,.tup ds2,p1,p2,hu=>by
  unfold Hv at p1;obtain⟨a1,its1,rfl,l1,p1⟩:=p1;unfold Hv at p2;obtain⟨a2,its2,rfl,l2,p2⟩:=p2;exact RcAt.list_tuple l1 l2 (by lia)
 |.lst ds1,.lst ds2,p1,p2,hu=>by
  unfold Hv at p1;obtain⟨a1,its1,rfl,l1,p1⟩:=p1;unfold Hv at p2;obtain⟨a2,its2,rfl,l2,p2⟩:=p2;unfold D.dZ;have hdep:A.units+fe ds1+1+1<cLine:=by
   have e9:(.lst ds1:D).iP=fe ds1+1:=by first|rfl|(unfold D.iP;rfl)
   lia
  by_cases hn:ds1.length=ds2.length
  ·have q:=RcAt.lists (e:=fun j=>(ds1.getD j .az).dZ (ds2.getD j .az)) l1 l2 (by simp[p1.length,p2.length,hn]) (by lia) fun j h1 h2=>
    vW (ds1.getD j .az) (ds2.getD j .az) _ _ A.in1 (lr p1 h1).1 (lr p2 h2).1 (by
     have:=uu (lr p1 h1).2;show A.units+1+_+1<cLine;lia)
   have q2:=ur ds1 ds2;rw[hn,tj,beq_self_eq_true,rQ] at q2;rw[υ,p1.length,hn,q2] at q;exact q
  ·rw[Ad _ _ hn];exact sY l1 l2 (by simp[p1.length,p2.length,hn]) (by lia)
 |d,.eD,p1,p2,hu=>by
  unfold Hv at p2;exact p2.elim
 |.eD,e,p1,p2,hu=>by
  unfold Hv at p1;exact p1.elim
theorem Nj{s:ζ}(d e:D)(u v:Value)(A:aq)(p1:Hv s.heap d u)(p2:Hv s.heap e v)(hu:A.units+d.iP+1<cLine):RcNeAt A s u v (!d.dZ e):=
 match d,e,p1,p2,hu with
 |.az,.az,p1,p2,hu=>by
  unfold Hv at p1;subst p1;unfold Hv at p2;subst p2;exact RcNeAt.none_none
 |.az,.bl b2,p1,p2,hu=>by
  unfold Hv at p1;subst p1;unfold Hv at p2;subst p2;exact RcNeAt.none_bool  b2
 |.az,.int b2,p1,p2,hu=>by
  unfold Hv at p1;subst p1;unfold Hv at p2;obtain⟨t2,rfl⟩:=p2;exact RcNeAt.none_int  b2 t2
 |.az,.str b2,p1,p2,hu=>by
  unfold Hv at p1;subst p1;unfold Hv at p2;obtain⟨t2,rfl⟩:=p2;exact RcNeAt.none_str  b2 t2
 |.az,.tup ds2,p1,p2,hu=>by
  unfold Hv at p1;subst p1;unfold Hv at p2;obtain⟨a2,its2,rfl,l2,p2⟩:=p2;exact RcNeAt.none_tuple  l2 (by lia)
 |.az,.lst ds2,p1,p2,hu=>by
  unfold Hv at p1;subst p1;unfold Hv at p2;obtain⟨a2,its2,rfl,l2,p2⟩:=p2;exact RcNeAt.none_list  l2 (by lia)
 |.bl b1,.az,p1,p2,hu=>by
  unfold Hv at p1;subst p1;unfold Hv at p2;subst p2;exact RcNeAt.bool_none b1
 |.bl b1,.bl b2,p1,p2,hu=>by
  unfold Hv at p1;subst p1;unfold Hv at p2;subst p2;exact RcNeAt.bool_bool b1 b2
 |.bl b1,.int b2,p1,p2,hu=>by
  unfold Hv at p1;subst p1;unfold Hv at p2;obtain⟨t2,rfl⟩:=p2;exact RcNeAt.bool_int b1 b2 t2
 |.bl b1,.str b2,p1,p2,hu=>by
  unfold Hv at p1;subst p1;unfold Hv at p2;obtain⟨t2,rfl⟩:=p2;exact RcNeAt.bool_str b1 b2 t2
 |.bl b1,.tup ds2,p1,p2,hu=>by
  unfold Hv at p1;subst p1;unfold Hv at p2;obtain⟨a2,its2,rfl,l2,p2⟩:=p2;exact RcNeAt.bool_tuple b1 l2 (by lia)
 |.bl b1,.lst ds2,p1,p2,hu=>by
  unfold Hv at p1;subst p1;unfold Hv at p2;obtain⟨a2,its2,rfl,l2,p2⟩:=p2;exact RcNeAt.bool_list b1 l2 (by lia)
 |.int b1,.az,p1,p2,hu=>by
  unfold Hv at p1;obtain⟨t1,rfl⟩:=p1;unfold Hv at p2;subst p2;exact RcNeAt.int_none b1 t1
 |.int b1,.bl b2,p1,p2,hu=>by
  unfold Hv at p1;obtain⟨t1,rfl⟩:=p1;unfold Hv at p2;subst p2;exact RcNeAt.int_bool b1 t1 b2
 |.int b1,.int b2,p1,p2,hu=>by
  unfold Hv at p1;obtain⟨t1,rfl⟩:=p1;unfold Hv at p2;obtain⟨t2,rfl⟩:=p2;exact RcNeAt.int_int b1 t1 b2 t2
 |.int b1,.str b2,p1,p2,hu=>by
  unfold Hv at p1;obtain⟨t1,rfl⟩:=p1;unfold Hv at p2;obtain⟨t2,rfl⟩:=p2;exact RcNeAt.int_str b1 t1 b2 t2
 |.int b1,.tup ds2,p1,p2,hu=>by
  unfold Hv at p1;obtain⟨t1,rfl⟩:=p1;unfold Hv at p2;obtain⟨a2,its2,rfl,l2,p2⟩:=p2;exact RcNeAt.int_tuple b1 t1 l2 (by lia)
 |.int b1,.lst ds2,p1,p2,hu=>by
  unfold Hv at p1;obtain⟨t1,rfl⟩:=p1;unfold Hv at p2;obtain⟨a2,its2,rfl,l2,p2⟩:=p2;exact RcNeAt.int_list b1 t1 l2 (by lia)
 |.str b1,.az,p1,p2,hu=>by
  unfold Hv at p1;obtain⟨t1,rfl⟩:=p1;unfold Hv at p2;subst p2;exact RcNeAt.str_none b1 t1
 |.str b1,.bl b2,p1,p2,hu=>by
  unfold Hv at p1;obtain⟨t1,rfl⟩:=p1;unfold Hv at p2;subst p2;exact RcNeAt.str_bool b1 t1 b2
 |.str b1,.int b2,p1,p2,hu=>by
  unfold Hv at p1;obtain⟨t1,rfl⟩:=p1;unfold Hv at p2;obtain⟨t2,rfl⟩:=p2;exact RcNeAt.str_int b1 t1 b2 t2
 |.str b1,.str b2,p1,p2,hu=>by
  unfold Hv at p1;obtain⟨t1,rfl⟩:=p1;unfold Hv at p2;obtain⟨t2,rfl⟩:=p2;exact RcNeAt.str_str b1 t1 b2 t2
 |.str b1,.tup ds2,p1,p2,hu=>by
  unfold Hv at p1;obtain⟨t1,rfl⟩:=p1;unfold Hv at p2;obtain⟨a2,its2,rfl,l2,p2⟩:=p2;exact RcNeAt.str_tuple b1 t1 l2 (by lia)
 |.str b1,.lst ds2,p1,p2,hu=>by
  unfold Hv at p1;obtain⟨t1,rfl⟩:=p1;unfold Hv at p2;obtain⟨a2,its2,rfl,l2,p2⟩:=p2;exact RcNeAt.str_list b1 t1 l2 (by lia)
 |.tup ds1,.az,p1,p2,hu=>by
  unfold Hv at p1;obtain⟨a1,its1,rfl,l1,p1⟩:=p1;unfold Hv at p2;subst p2;exact RcNeAt.tuple_none  l1 (by lia)
 |.tup ds1,.bl b2,p1,p2,hu=>by
  unfold Hv at p1;obtain⟨a1,its1,rfl,l1,p1⟩:=p1;unfold Hv at p2;subst p2;exact RcNeAt.tuple_bool b2 l1 (by lia)
 |.tup ds1,.int b2,p1,p2,hu=>by
  unfold Hv at p1;obtain⟨a1,its1,rfl,l1,p1⟩:=p1;unfold Hv at p2;obtain⟨t2,rfl⟩:=p2;exact RcNeAt.tuple_int b2 t2 l1 (by lia)
 |.tup ds1,.str b2,p1,p2,hu=>by
  unfold Hv at p1;obtain⟨a1,its1,rfl,l1,p1⟩:=p1;unfold Hv at p2;obtain⟨t2,rfl⟩:=p2;exact RcNeAt.tuple_str b2 t2 l1 (by lia)
 |.tup ds1,.tup ds2,p1,p2,hu=>by
  unfold Hv at p1;obtain⟨a1,its1,rfl,l1,p1⟩:=p1;unfold Hv at p2;obtain⟨a2,its2,rfl,l2,p2⟩:=p2;unfold D.dZ;have hdep:A.units+fe ds1+1+1<cLine:=by
   have e9:(.tup ds1:D).iP=fe ds1+1:=by first|rfl|(unfold D.iP;rfl)
   lia
  have q:=RcNeAt.tuples (e:=fun j=>(ds1.getD j .az).dZ (ds2.getD j .az)) l1 l2 (by lia) fun j h1 h2=>
   vW (ds1.getD j .az) (ds2.getD j .az) _ _ A.in1 (lr p1 h1).1 (lr p2 h2).1 (by
    have:=uu (lr p1 h1).2;show A.units+1+_+1<cLine;lia)
  rw[υ,υ,p1.length,p2.length,ur] at q;exact q
 |.tup ds1,.lst ds2,p1,p2,hu=>by
  unfold Hv at p1;obtain⟨a1,its1,rfl,l1,p1⟩:=p1;unfold Hv at p2;obtain⟨a2,its2,rfl,l2,p2⟩:=p2;exact RcNeAt.tuple_list l1 l2 (by lia)
 |.lst ds1,.az,p1,p2,hu=>by
  unfold Hv at p1;obtain⟨a1,its1,rfl,l1,p1⟩:=p1;unfold Hv at p2;subst p2;exact RcNeAt.list_none  l1 (by lia)
 |.lst ds1,.bl b2,p1,p2,hu=>by
  unfold Hv at p1;obtain⟨a1,its1,rfl,l1,p1⟩:=p1;unfold Hv at p2;subst p2;exact RcNeAt.list_bool b2 l1 (by lia)
 |.lst ds1,.int b2,p1,p2,hu=>by
  unfold Hv at p1;obtain⟨a1,its1,rfl,l1,p1⟩:=p1;unfold Hv at p2;obtain⟨t2,rfl⟩:=p2;exact RcNeAt.list_int b2 t2 l1 (by lia)
 |.lst ds1,.str b2,p1,p2,hu=>by
  unfold Hv at p1;obtain⟨a1,its1,rfl,l1,p1⟩:=p1;unfold Hv at p2;obtain⟨t2,rfl⟩:=p2;exact RcNeAt.list_str b2 t2 l1 (by lia)
 |.lst ds1,.tup ds2,p1,p2,hu=>by
  unfold Hv at p1;obtain⟨a1,its1,rfl,l1,p1⟩:=p1;unfold Hv at p2;obtain⟨a2,its2,rfl,l2,p2⟩:=p2;exact RcNeAt.list_tuple l1 l2 (by lia)
 |.lst ds1,.lst ds2,p1,p2,hu=>by
  unfold Hv at p1;obtain⟨a1,its1,rfl,l1,p1⟩:=p1;unfold Hv at p2;obtain⟨a2,its2,rfl,l2,p2⟩:=p2;unfold D.dZ;have hdep:A.units+fe ds1+1+1<cLine:=by
   have e9:(.lst ds1:D).iP=fe ds1+1:=by first|rfl|(unfold D.iP;rfl)
   lia
  by_cases hn:ds1.length=ds2.length
  ·have q:=RcNeAt.lists (e:=fun j=>(ds1.getD j .az).dZ (ds2.getD j .az)) l1 l2 (by simp[p1.length,p2.length,hn]) (by lia) fun j h1 h2=>
    vW (ds1.getD j .az) (ds2.getD j .az) _ _ A.in1 (lr p1 h1).1 (lr p2 h2).1 (by
     have:=uu (lr p1 h1).2;show A.units+1+_+1<cLine;lia)
   have q2:=ur ds1 ds2;rw[hn,tj,beq_self_eq_true,rQ] at q2;rw[υ,p1.length,hn,q2] at q;exact q
  ·rw[Ad _ _ hn];exact RcNeAt.lists_lengths l1 l2 (by simp[p1.length,p2.length,hn]) (by lia)
 |d,.eD,p1,p2,hu=>by
  unfold Hv at p2;exact p2.elim
 |.eD,e,p1,p2,hu=>by
  unfold Hv at p1;exact p1.elim
end Dat
namespace L3
open PySem PySem.Spec PyProof.Rows L2
section
variable {X:Cx} {K:PySem.W.Frag}
def BX(f:Int->Int->D):R3:=fun x y G Q=>match x,y with
 |.int i,.int j=>Q (f i j) G
 |_,_=>False
theorem ir{H:Hp}{i:Int}{v:V}(h:Hv K H (.int i) v):v=.int i:=by unfold Hv at h;exact h
theorem qL{H:Hp}{i:Bool}{v:V}(h:Hv K H (.bl i) v):v=.bl i:=by unfold Hv at h;exact h
theorem hJ{H:Hp}{a:ε}{v:V}(h:Hv K H (.obj a) v):v=.ref a:=by unfold Hv at h;exact h
theorem mG{H:Hp}{ds:List D}{v:V}(h:Hv K H (.tup ds) v):∃a vs,v=.ref a/\bZ K H a vs/\aw K H ds vs:=by unfold Hv at h;exact h
theorem sx{H:Hp}{ds:List D}{v:V}(h:Hv K H (.eN ds) v):∃a vs,v=.ref a/\ku K H a vs/\aw K H ds vs:=by unfold Hv at h;exact h
theorem mf{H:Hp}{i:Int}:Hv K H (.int i) (.int i):=by simp[Hv]
theorem oH{H:Hp}{i:Bool}:Hv K H (.bl i) (.bl i):=by simp[Hv]
theorem pk{H:Hp}{a:ε}:Hv K H (.obj a) (.ref a):=by simp[Hv]
theorem pj{H:Hp}{ds:List D}{a:ε}{vs:List V}(h:bZ K H a vs)(q:aw K H ds vs):Hv K H (.tup ds) (.ref a):=by
 unfold Hv;exact⟨a,vs,rfl,h,q⟩
theorem low_ints{f:Int->Int->D}{g:Int->Int->V}(hf:∀i j H,Hv K H (f i j) (g i j)):eG K (BX f) (nI g):=fun x y vx vy G H Q3 Q hx hy RG h k=>by
 cases x with
 |int i=>
  cases y with
  |int j=>
   rw[ir hx,ir hy];exact⟨i,j,rfl,rfl,k _ H _ G (hf i j H) (.refl H G) RG h⟩
  |_=>exact h.elim
 |_=>exact h.elim
abbrev yW:R3:=BX fun i j=>.int (i-j)
theorem JN:eG K yW (nI fun i j=>.int (i-j)):=low_ints fun _ _ _=>mf
abbrev wZ:R3:=BX fun i j=>.bl (decide (i≤j))
theorem Zn:eG K wZ (nI fun i j=>.bl (decide (i≤j))):=low_ints fun _ _ _=>oH
abbrev za:R3:=BX fun i j=>.bl (decide (j<i))
theorem Ap:eG K za (nI fun i j=>.bl (decide (j<i))):=low_ints fun _ _ _=>oH
abbrev Gd:R3:=BX fun i j=>.bl (decide (j≤i))
theorem Zp:eG K Gd (nI fun i j=>.bl (decide (j≤i))):=low_ints fun _ _ _=>oH
def jJ(i:Int):Prop:=i.natAbs<2^4000
theorem JM{i:Int}(h:jJ i):i.natAbs.log2<4000:=by
 by_cases h0:i.natAbs=0
 ·rw[h0];decide
 ·exact (Nat.log2_lt h0).mpr h
theorem JL{i:Int}(h:jJ i):iJ i≤4000:=by
 unfold iJ;split
 ·exact aY _
 ·exact JM h
theorem Tj{i j:Int}(h1:jJ i)(h2:jJ j):IntMulOk i j:=by
 unfold IntMulOk cM.Int.intTooBig;have b1:=JL h1;have b2:=JL h2;have:¬((iJ i:Int)+(iJ j:Int) > (bitsLine:Int)):=by
  have:(bitsLine:Int)=134217728:=by decide
  omega
 rw[decide_eq_false this];simp
theorem xI:ed X (binaryOp .FloorDiv) (rI (fun _ j=>0<j/\jJ j) fun i j=>.int (i / j)):=EI fun i j _ _ _ _ _ hc q=>by
 have h1:(0:Int)<j:=hc.1;exact floordiv_int (by omega) (by rw[Int.fdiv_eq_ediv_of_nonneg i (by omega)];exact q) (.inl (PyProof.noPylong_of_log2 (la (JM hc.2) (by decide))))
theorem Fy:ed X (binaryOp .Mult) (rI (fun i j=>jJ i/\jJ j) fun i j=>.int (i*j)):=EI fun _ _ _ _ _ _ _ hc q=>mul_int q (Tj hc.1 hc.2)
def y9(C:Int->Int->Prop)(f:Int->Int->D):R3:=fun x y G Q=>match x,y with
 |.int i,.int j=>C i j/\Q (f i j) G
 |_,_=>False
theorem DD{C:Int->Int->Prop}{f:Int->Int->D}{g:Int->Int->V}(hf:∀i j H,Hv K H (f i j) (g i j)):eG K (y9 C f) (rI C g):=fun x y vx vy G H Q3 Q hx hy RG h k=>by
 cases x with
 |int i=>
  cases y with
  |int j=>
   rw[ir hx,ir hy];exact⟨i,j,rfl,rfl,h.1,k _ H _ G (hf i j H) (.refl H G) RG h.2⟩
  |_=>exact h.elim
 |_=>exact h.elim
abbrev tM:R3:=y9 (fun _ j=>0<j/\jJ j) fun i j=>.int (i / j)
theorem xH:eG K tM (rI (fun _ j=>0<j/\jJ j) fun i j=>.int (i / j)):=DD fun _ _ _=>mf
abbrev mS:R3:=y9 (fun _ j=>0<j) fun i j=>.int (i%j)
theorem qK:eG K mS (rI (fun _ j=>0<j) fun i j=>.int (i%j)):=DD fun _ _ _=>mf
abbrev yY:R3:=y9 Ey fun i j=>.int (i^j.toNat)
theorem JK:eG K yY (rI Ey fun i j=>.int (i^j.toNat)):=DD fun _ _ _=>mf
theorem Th{prog:Ψ}{w:af}{A:aq}{E:Value->ζ->Prop}{s:ζ}{t b:ε}{ws:List Value}{Q:Value->ζ->Prop}(ht:iW s.heap t #[])(hb:iW s.heap b ws.toArray)(h1:Q (.ref b) s):
  μ (model prog w) A (binaryOp .Add (.ref t) (.ref b)) Q E s:=by
 obtain⟨⟨cls,dd,data,sl⟩,ho,hc,n,hd⟩:=id ht;obtain⟨⟨cls2,dd2,data2,sl2⟩,ho2,hc2,n2,hd2⟩:=id hb;simp only at hc hd hc2 hd2;subst hc hd hc2 hd2;exact concat_meets ⟨_,ho,rfl⟩ ⟨_,ho2,rfl⟩ nY rN PySem.F.slot_tuple_add PySem.F.entry_tuple_add (PySem.F.args_tuple_add_2 _ _)
   (tuple_addW0 t b #[] ws.toArray n n2 dd dd2 sl sl2 rfl) ⟨ho,ho2,h1⟩
def BY(K:PySem.W.Frag):R2:=fun x y H Q=>∃a b ys,x=.ref a/\y=.ref b/\bZ K H a []/\bZ K H b ys/\Q (.ref b) H
theorem Tg:ed X (binaryOp .Add) (BY X.K):=by
 intro pins s σ H x y v u Q I rx ry h;obtain⟨a,b,ys,rfl,rfl,ha,hb,q⟩:=h;cases rx;cases ry;obtain⟨its,r1,p1,_⟩:=I.tuple ha;obtain⟨its2,r2,p2,_⟩:=I.tuple hb;cases r1;exact Th p1 p2 ⟨.ref b,H,I,rfl,q⟩
def eQ:R3:=fun x y G Q=>match x,y with
 |.int i,.int j=>Q (.int (i+j)) G
 |.obj a,.obj b=>∃ds es,G a=some (.lst ds)/\G b=some (.lst es)/\ds.length+es.length≤ai/\∀p G',fc G p (.lst (ds++es)) G'->Q (.obj p) G'
 |.tup ds,.tup es=>ds.length+es.length≤ai/\Q (.tup (ds++es)) G
 |_,_=>False
abbrev EG(K:PySem.W.Frag):R2:=fun x y H Q=>nI (fun i j=>.int (i+j)) x y H Q∨(Ge x y H Q∨(EF K x y H Q∨BY K x y H Q))
theorem jI:ed X (binaryOp .Add) (EG X.K):=KP.or (KO.or (Fz.or Tg))
theorem jH:eG K eQ (EG K):=fun x y vx vy G H Q3 Q hx hy RG h k=>by
 cases x with
 |int i=>
  cases y with
  |int j=>
   rw[ir hx,ir hy];exact .inl ⟨i,j,rfl,rfl,k _ H _ G mf (.refl H G) RG h⟩
  |_=>exact h.elim
 |obj a=>
  cases y with
  |obj b=>
   rw[hJ hx,hJ hy];obtain⟨ds,es,e1,e2,hz,q⟩:=h;obtain⟨vs,z1,z2⟩:=RG a _ e1;obtain⟨us,y1,y2⟩:=RG b _ e2;refine .inr (.inl ⟨a,b,vs,us,rfl,rfl,z1,y1,by rw[←z2.length,←y2.length];exact hz,fun p hp=>?_⟩);exact k _ _ (.obj p) _ pk (.gr hp) (RG.sD hp (z2.append y2)) (q p _ (.mk' (RG.free hp)))
  |_=>exact h.elim
 |tup ds=>
  cases y with
  |tup es=>
   obtain⟨a,vs,rfl,e1,e2⟩:=mG hx;obtain⟨b,us,rfl,y1,y2⟩:=mG hy;by_cases h0:vs=[]
   ·subst h0;have:ds=[]:=by
     have:=e2.length;exact lp (by simpa using this)
    subst this;exact .inr (.inr (.inr ⟨a,b,us,rfl,rfl,e1,y1,k _ H (.tup es) G (pj y1 y2) (.refl H G) RG h.2⟩))
   ·refine .inr (.inr (.inl ⟨a,b,vs,us,rfl,rfl,e1,y1,h0,by rw[←e2.length,←y2.length];exact h.1,fun z=>?_,fun z p hp=>?_⟩))
    ·subst z;have:es=[]:=lp (by simpa using y2.length);subst this;refine k _ H (.tup ds) G (pj e1 e2) (.refl H G) RG ?_;have:=h.2;rwa [bw] at this
    ·exact k _ _ (.tup (ds++es)) G (pj (.of gh) ((e2.append y2).ext (.laid hp))) (.laid hp) (RG.laid hp) h.2
  |_=>exact h.elim
 |_=>exact h.elim
def kF:R3:=fun x y G Q=>match x,y with
 |.int i,.int j=>(jJ i/\jJ j)/\Q (.int (i*j)) G
 |.obj a,.int k=>∃ds,G a=some (.lst ds)/\(-(2^63)≤k/\k<2^63)/\ds.length*k.toNat≤ai/\∀p G',fc G p (.lst (bj k.toNat ds).flatten) G'->Q (.obj p) G'
 |_,_=>False
abbrev EE:R2:=fun x y H Q=>rI (fun i j=>jJ i/\jJ j) (fun i j=>.int (i*j)) x y H Q∨FW x y H Q
theorem qJ:ed X (binaryOp .Mult) EE:=Fy.or UE
theorem qI:eG K kF EE:=fun x y vx vy G H Q3 Q hx hy RG h k=>by
 cases x with
 |int i=>
  cases y with
  |int j=>
   rw[ir hx,ir hy];exact .inl ⟨i,j,rfl,rfl,h.1,k _ H _ G mf (.refl H G) RG h.2⟩
  |_=>exact h.elim
 |obj a=>
  cases y with
  |int j=>
   rw[hJ hx,ir hy];obtain⟨ds,e1,hk,hz,q⟩:=h;obtain⟨vs,z1,z2⟩:=RG a _ e1;refine .inr ⟨a,j,vs,rfl,rfl,z1,hk.1,hk.2,by rw[←z2.length];exact hz,fun p hp=>?_⟩;exact k _ _ (.obj p) _ pk (.gr hp) (RG.sD hp (z2.rep _)) (q p _ (.mk' (RG.free hp)))
  |_=>exact h.elim
 |_=>exact h.elim
def u6:D->Bool
 |.az=>true
 |_=>false
def Cq(neg:Bool):R3:=fun x y G Q=>match y with
 |.az=>Q (.bl (if neg then !u6 x else u6 x)) G
 |_=>False
theorem Tf{H:Hp}{x:D}{v:V}(h:Hv K H x v):decide (v=.az)=u6 x:=by
 cases x with
 |az=>unfold Hv at h;subst h;rfl
 |bl b=>rw[qL h];rfl
 |int b=>rw[ir h];rfl
 |str b=>unfold Hv at h;subst h;rfl
 |obj b=>rw[hJ h];rfl
 |tup ds=>obtain⟨a,vs,rfl,_⟩:=mG h;rfl
 |eN ds=>obtain⟨a,vs,rfl,_⟩:=sx h;rfl
 |dc a=>unfold Hv at h;rw[h.1];rfl
theorem La:eG K (Cq false) (fun x y H Q=>y=.az/\Q (.bl (decide (x=.az))) H):=fun x y vx vy G H Q3 Q hx hy RG h k=>by
 cases y with
 |az=>
  refine⟨by unfold Hv at hy;exact hy,?_⟩;rw[Tf hx];exact k _ H _ G oH (.refl H G) RG h
 |_=>exact h.elim
def intsOf:List D->Option (List Int)
 |[]=>some []
 |.int i::r=>(intsOf r).map (i::·)
 |_::_=>none
theorem sv{H:Hp}:∀{ds:List D} {vs:List V} {ns:List Int},aw K H ds vs->intsOf ds=some ns->vs=ns.map V.int
 |[],vs,ns,h,e=>by
  cases e;exact h.gi
 |d::ds,vs,ns,h,e=>by
  cases d with
  |int i=>
   obtain⟨v,r,rfl,z1,z2⟩:=h.inv;unfold intsOf at e;cases hm:intsOf ds with
   |none=>rw[hm] at e;cases e
   |some ms=>
    rw[hm] at e;cases e;rw[ir z1,sv z2 hm];rfl
  |_=>cases e
def qA:R3:=fun x y G Q=>match x,y with
 |.int i,.int j=>Q (.bl (decide (i<j))) G
 |.tup ds,.tup es=>∃ns ms,intsOf ds=some ns/\intsOf es=some ms/\Q (.bl (HT.lexLt ns ms)) G
 |_,_=>False
abbrev FY(K:PySem.W.Frag):R2:=fun x y H Q=>nI (fun i j=>.bl (decide (i<j))) x y H Q∨FX K x y H Q
theorem xG(hu:X.A.units<cLine):ed X (compareOp .Lt) (FY X.K):=LY.or (UQ hu)
theorem xF:eG K qA (FY K):=fun x y vx vy G H Q3 Q hx hy RG h k=>by
 cases x with
 |int i=>
  cases y with
  |int j=>
   rw[ir hx,ir hy];exact .inl ⟨i,j,rfl,rfl,k _ H _ G oH (.refl H G) RG h⟩
  |_=>exact h.elim
 |tup ds=>
  cases y with
  |tup es=>
   obtain⟨a,vs,rfl,e1,e2⟩:=mG hx;obtain⟨b,us,rfl,y1,y2⟩:=mG hy;obtain⟨ns,ms,z1,z2,q⟩:=h;have q1:=sv e2 z1;have q2:=sv y2 z2;subst q1 q2;exact .inr ⟨a,b,ns,ms,rfl,rfl,e1,y1,k _ H _ G oH (.refl H G) RG q⟩
  |_=>exact h.elim
 |_=>exact h.elim
def fj:R3:=fun x y G Q=>match x,y with
 |.tup ds,.int i=>∃d,kr ds i=some d/\Q d G
 |.eN ds,.int i=>∃d,kr ds i=some d/\Q d G
 |.obj p,.int i=>∃ds d,G p=some (.lst ds)/\kr ds i=some d/\Q d G
 |_,_=>False
theorem xE{H:Hp}{ds:List D}{vs:List V}{i:Int}{d:D}(h:aw K H ds vs)(e:kr ds i=some d):∃v,kr vs i=some v/\Hv K H d v:=by
 unfold kr at e ⊢;rw[←h.length];cases hx:sL ds.length i with
 |none=>rw[hx] at e;cases e
 |some j=>
  rw[hx] at e;exact h.get e
theorem Zo:eG K fj (MR K):=fun x y vx vy G H Q3 Q hx hy RG h k=>by
 cases y with
 |int i=>
  rw[ir hy];cases x with
  |tup ds=>
   obtain⟨d,e,q⟩:=h;obtain⟨a,vs,rfl,e1,e2⟩:=mG hx;obtain⟨v,z1,z2⟩:=xE e2 e;exact .inr (.inl ⟨a,vs,i,v,rfl,rfl,e1,z1,k _ H d G z2 (.refl H G) RG q⟩)
  |eN ds=>
   obtain⟨d,e,q⟩:=h;obtain⟨a,vs,rfl,e1,e2⟩:=sx hx;obtain⟨v,z1,z2⟩:=xE e2 e;exact .inl ⟨a,vs,i,v,rfl,rfl,e1.l,z1,k _ H d G z2 (.refl H G) RG q⟩
  |obj p=>
   obtain⟨ds,d,e0,e,q⟩:=h;rw[hJ hx];obtain⟨vs,e1,e2⟩:=RG p _ e0;obtain⟨v,z1,z2⟩:=xE e2 e;exact .inl ⟨p,vs,i,v,rfl,rfl,.of e1,z1,k _ H d G z2 (.refl H G) RG q⟩
  |_=>exact h.elim
 |_=>cases x<;>exact h.elim
theorem ZC{a b:ο}{ta tb:ax}{pos:ay}(ha:bE X a ta)(hb:bE X b tb)(hs:qg b:=by intro _ _;rfl):bE X (.Subscript a b pos) (bc fj ta tb):=gP (KC KA ha hb hs) fun _ _ _ h=>zQ Zo h
def sQ(ta:b9)(tb:ax):ax:=fun τ G Q=>ta τ G fun ds G1=>sf (tb τ G1 fun y G2=>match y with
 |.int i=>∃d,kr ds i=some d/\Q d G2
 | _=>False) ds 64
theorem Te{es:List ο}{b:ο}{ta:b9}{tb:ax}{pos pos':ay}(ha:gS X es ta)(hb:bE X b tb)(hs:qg b:=by intro _ _;rfl):bE X (.Subscript (.List es pos') b pos) (sQ ta tb):=
 gP (KC KA (Kl ha) hb hs) fun σ H Q ⟨τ,G,Q3,RS,RG,h,k⟩=>by
  refine⟨τ,G,_,RS,RG,h,fun vs H1 ds G1 h1 S1 R1 q1=>?_⟩;obtain⟨z,q1⟩:=zP q1;refine⟨by rw[←h1.length];exact ya z,fun p hp=>?_⟩;refine⟨τ,G1,_,(RS.ext (S1.ext RG)).ext (.laid hp),R1.laid hp,q1,fun v2 H2 d2 G2 h2 S2 R2 q2=>?_⟩;have e2:H2 p=some (.lst vs):=S2.fr p _ gh (R1.free hp);cases d2 with
  |int i=>
   obtain⟨d,e,q⟩:=q2;obtain⟨v,z1,z2⟩:=xE ((h1.ext (.laid hp)).ext (S2.ext (R1.laid hp))) e;rw[ir h2];exact .inl ⟨p,vs,i,v,rfl,rfl,.of e2,z1,k _ H2 d G2 z2 ((S1.trans (.laid hp)).trans S2) R2 q⟩
  |_=>exact q2.elim
end
end L3
namespace L3
open PySem PySem.Spec PyProof.Rows L2
mutual
def kD:D->Option Dat.D
 |.az=>some .az
 |.bl b=>some (.bl b)
 |.int i=>some (.int i)
 |.str x=>some (.str x)
 |.tup ds=>match dW ds with
  |some xs=>some (.tup xs)
  |none=>none
 |.eN ds=>match dW ds with
  |some xs=>some (.lst xs)
  |none=>none
 |.obj _=>none
 |.dc _=>none
def dW:List D->Option (List Dat.D)
 |[]=>some []
 |d::ds=>match kD d with
  |some x=>match dW ds with
   |some xs=>some (x::xs)
   |none=>none
  |none=>none
end
def qx(G:Gp):D->Option Dat.D
 |.obj a=>match G a with
  |some (.lst ds)=>match dW ds with
   |some xs=>some (.lst xs)
   |none=>none
  |_=>none
 |d=>kD d
section
variable {X:Cx} {pins:List (ε×aA)} {σ:L2.St} {H:Hp} {s:ζ}
mutual
theorem su(I:Inv X pins σ H s):∀{d:D} {v:V} {u:Value} {x:Dat.D},Hv X.K H d v->RelV v u->kD d=some x->Dat.Hv s.heap x u
 |.az,v,u,x,h,r,e=>by
  unfold Hv at h;subst h;cases e;unfold Dat.Hv;exact r
 |.bl b,v,u,x,h,r,e=>by
  unfold Hv at h;subst h;cases e;unfold Dat.Hv;exact r
 |.int b,v,u,x,h,r,e=>by
  unfold Hv at h;subst h;cases e;unfold Dat.Hv;exact r
 |.str b,v,u,x,h,r,e=>by
  unfold Hv at h;subst h;cases e;unfold Dat.Hv;exact r
 |.obj a,v,u,x,h,r,e=>by cases e
 |.dc a,v,u,x,h,r,e=>by cases e
 |.tup ds,v,u,x,h,r,e=>by
  obtain⟨a,vs,rfl,q1,q2⟩:=mG h;cases r;unfold kD at e;cases hd:dW ds with
  |none=>rw[hd] at e;cases e
  |some xs=>
   rw[hd] at e;cases e;obtain⟨its,rv,p,_⟩:=I.tuple q1;unfold Dat.Hv;exact⟨a,its,rfl,p,Ac I q2 rv hd⟩
 |.eN ds,v,u,x,h,r,e=>by
  obtain⟨a,vs,rfl,q1,q2⟩:=sx h;cases r;unfold kD at e;cases hd:dW ds with
  |none=>rw[hd] at e;cases e
  |some xs=>
   rw[hd] at e;cases e;obtain⟨its,rv,p,_⟩:=I.list q1.l;unfold Dat.Hv;exact⟨a,its,rfl,p.isList,Ac I q2 rv hd⟩
theorem Ac(I:Inv X pins σ H s):∀{ds:List D} {vs:List V} {us:List Value} {xs:List Dat.D},aw X.K H ds vs->aS vs us->dW ds=some xs->Dat.aw s.heap xs us
 |[],vs,us,xs,h,r,e=>by
  cases h.gi;cases r;cases e;unfold Dat.aw;rfl
 |d::ds,vs,us,xs,h,r,e=>by
  obtain⟨v,vr,rfl,q1,q2⟩:=h.inv;unfold dW at e;cases hd:kD d with
  |none=>rw[hd] at e;cases e
  |some x=>
   rw[hd] at e;cases hr:dW ds with
   |none=>rw[hr] at e;cases e
   |some xr=>
    rw[hr] at e;cases e;cases r with
    |cons r1 r2=>
     unfold Dat.aw;exact⟨_,_,rfl,su I q1 r1 hd,Ac I q2 r2 hr⟩
end
theorem Ab{G:Gp}(I:Inv X pins σ H s)(RG:aD X.K G H){d:D}{v:V}{u:Value}{x:Dat.D}(h:Hv X.K H d v)(r:RelV v u)(e:qx G d=some x):Dat.Hv s.heap x u:=by
 cases d with
 |obj a=>
  rw[hJ h] at r;cases r;unfold qx at e;cases hG:G a with
  |none=>simp[hG] at e
  |some o=>
   cases o with
   |lst ds=>
    simp only[hG] at e;cases hr:dW ds with
    |none=>rw[hr] at e;cases e
    |some xs=>
     rw[hr] at e;cases e;obtain⟨vs,e1,e2⟩:=RG a _ hG;obtain⟨its,rv,p,_⟩:=I.list (ff.of e1);unfold Dat.Hv;exact⟨a,its,rfl,p.isList,Ac I e2 rv hr⟩
   |kL=>simp[hG] at e
   |eD=>simp[hG] at e
   |gen R=>simp[hG] at e
 |az=>exact su I h r e
 |bl _=>exact su I h r e
 |int _=>exact su I h r e
 |str _=>exact su I h r e
 |tup _=>exact su I h r e
 |eN _=>exact su I h r e
 |dc _=>exact su I h r e
end
section
variable {X:Cx} {a b e:ο} {ta tb:ax} {pos:ay}
def fv(neg:Bool):R3:=fun x y G Q=>∃u v,qx G x=some u/\qx G y=some v/\u.iP≤50/\Q (.bl (if neg then !u.dZ v else u.dZ v)) G
def BF(X:Cx)(f:Value->Value->hX Value)(r:R3):Prop:=
 ∀(pins:List (ε×aA)) (s:ζ) (σ:L2.St) (H:Hp) (G:Gp) (x y:D) (vx vy:V) (u v:Value) (Q3:V3),Inv X pins σ H s->aD X.K G H->Hv X.K H x vx->Hv X.K H y vy->RelV vx u->RelV vy v->r x y G Q3 ->
  μ (model X.prog X.w) X.A (f u v) (EP X pins σ fun w H'=>∃d G',Hv X.K H' d w/\Step H G H' G'/\aD X.K G' H'/\Q3 d G') X.xe s
theorem eqR(hu:X.A.units+64<cLine):BF X (compareOp .Eq) (fv false):=by
 intro pins s σ H G x y vx vy u v Q3 I RG hx hy rx ry ⟨p,q,e1,e2,hd,h⟩;have:=Dat.Nk p q u v X.A (Ab I RG hx rx e1) (Ab I RG hy ry e2) (by omega);exact this _ _ _ _ ⟨.bl (p.dZ q),H,I,rfl,.bl (p.dZ q),G,oH,.refl H G,RG,h⟩
theorem ZV(hu:X.A.units+64<cLine):BF X (compareOp .NotEq) (fv true):=by
 intro pins s σ H G x y vx vy u v Q3 I RG hx hy rx ry ⟨p,q,e1,e2,hd,h⟩;have:=Dat.Nj p q u v X.A (Ab I RG hx rx e1) (Ab I RG hy ry e2) (by omega);exact this _ _ _ _ ⟨.bl (!p.dZ q),H,I,rfl,.bl (!p.dZ q),G,oH,.refl H G,RG,h⟩
def tR(K:PySem.W.Frag)(r:R3):R2:=fun vx vy H Q=>∃x y G Q3,aD K G H/\Hv K H x vx/\Hv K H y vy/\r x y G Q3/\∀v H' d G',Hv K H' d v->Step H G H' G'->aD K G' H'->Q3 d G'->Q v H'
theorem BF.op{f:Value->Value->hX Value}{r:R3}(h:BF X f r):ed X f (tR X.K r):=by
 intro pins s σ H vx vy u v Q I rx ry ⟨x,y,G,Q3,RG,hx,hy,q,k⟩;refine br (h pins s σ H G x y vx vy u v Q3 I RG hx hy rx ry q) fun w s' ⟨v',H',I',r',d,G',z1,z2,z3,z4⟩=>⟨v',H',I',r',k v' H' d G' z1 z2 z3 z4⟩
theorem JJ{K:PySem.W.Frag}{r:R3}:eG K r (tR K r):=fun x y vx vy G H Q3 Q hx hy RG h k=>⟨x,y,G,Q3,RG,hx,hy,h,k⟩
theorem sr(hu:X.A.units+64<cLine):ed X (compareOp .Eq) (tR X.K (fv false)):=(eqR hu).op
theorem qH(hu:X.A.units+64<cLine):ed X (compareOp .NotEq) (tR X.K (fv true)):=(ZV hu).op
theorem sI{K:PySem.W.Frag}:eG K (fv false) (tR K (fv false)):=JJ
theorem qQ{K:PySem.W.Frag}:eG K (fv true) (tR K (fv true)):=JJ
abbrev wc:=S3->Gp->(Option Int->Gp->Prop)->Prop
def Zm(K:PySem.W.Frag)(t:wc):TO:=fun σ H Q=>∃τ G Q3,dI K τ σ H/\aD K G H/\t τ G Q3/\∀o H' G',Step H G H' G'->aD K G' H'->Q3 o G'->Q o H'
abbrev Ce(X:Cx)(e:Option ο)(t:wc):Prop:=PO X e (Zm X.K t)
theorem JI{o:Option ο}{t t':TO}(h:PO X o t)(f:∀σ H Q,t' σ H Q->t σ H Q):PO X o t':=fun pins s σ H Q I q=>h pins s σ H Q I (f σ H Q q)
def kM:wc:=fun _ G Q=>Q none G
def jy(t:ax):wc:=fun τ G Q=>t τ G fun x G1=>match x with
 |.int i=>Q (some i) G1
 |_=>False
theorem Td:Ce X none kM:=JI UT fun σ H Q ⟨τ,G,Q3,RS,RG,h,k⟩=>k none H G (.refl H G) RG h
theorem Tc(h:bE X e ta):Ce X (some e) (jy ta):=JI (US h) fun σ H Q ⟨τ,G,Q3,RS,RG,h,k⟩=>
 ⟨τ,G,_,RS,RG,h,fun v H1 d G1 h1 S1 R1 q1=>by
  cases d with
  |int i=>exact⟨i,ir h1,k (some i) H1 G1 S1 R1 q1⟩
  |_=>exact q1.elim⟩
def fS(ds:List D)(lo hi:Option Int):List D:=(ds.drop (HT.bV ds.length 0 lo)).take (HT.bV ds.length ds.length hi-HT.bV ds.length 0 lo)
def rJ(ta:ax)(tl th:wc):ax:=fun τ G Q=>ta τ G fun x G1=>tl τ G1 fun lo G2=>th τ G2 fun hi G3=>match x with
 |.tup ds=>Q (.tup (fS ds lo hi)) G3
 |.eN ds=>∀p G4,fc G3 p (.lst (fS ds lo hi)) G4->Q (.obj p) G4
 |.obj a=>∃ds,G3 a=some (.lst ds)/\∀p G4,fc G3 p (.lst (fS ds lo hi)) G4->Q (.obj p) G4
 |_=>False
theorem DC{K:PySem.W.Frag}{H:Hp}{ds:List D}{vs:List V}(h:aw K H ds vs)(lo hi:Option Int):aw K H (fS ds lo hi) (sT vs lo hi):=by
 unfold fS sT;rw[h.length];exact (h.drop _).take _
theorem Tb{prog:Ψ}{w:af}{A:aq}{E:Value->ζ->Prop}{s:ζ}{t sl:ε}{items:Array Value}{vl vu:Value}{lo hi:Option Int}{Q:Value->ζ->Prop}(ht:iW s.heap t items)(hs:s.heap.IsSliceOf sl vl vu .none)(pl:lh vl lo)(pu:lh vu hi)
  (hw:HT.bV items.size 0 lo=0/\HT.bV items.size items.size hi=items.size) (h:Q (.ref t) s):μ (model prog w) A (getItem (.ref t) (.ref sl)) Q E s:=by
 obtain⟨os,hos,hcs,hds⟩:=id hs;have hTs:s.TypeIs (.ref sl) "slice":=⟨os,hos,hcs⟩;unfold getItem
 try with_reducible refine aZ ?_
 first|refine δ (θ ?_)|skip
 refine δ (mO ht.typeIs (by decide) ?_);refine δ (bC (name:=dm "__getitem__") ht.typeIs bB
  (bL bB ht.typeIs lB ?_ (mi _ _)))
 show μ _ _ (ix (.ref t) >>= _) _ _ s;refine δ (tupleItemsOf_ ht ?_);refine δ (gj hTs ?_);rw[if_pos (by decide)];refine δ (HT.nH hs pl pu ?_);have hyes:(((HT.bV items.size 0 lo:Nat):Int)==0&&(1:Int)==1&&(HT.bV items.size items.size hi-HT.bV items.size 0 lo)==items.size)=true:=by
  rw[hw.1,hw.2];simp
 show μ _ _ (if (((HT.bV items.size 0 lo:Nat):Int)==0&&(1:Int)==1&&(HT.bV items.size items.size hi-HT.bV items.size 0 lo)==items.size)=true then _ else _) _ _ s;rw[if_pos hyes];unfold cM.Tuple.tupleIsExact;refine δ (δ (gj ht.typeIs (θ ?_)));rw[if_pos (by decide)];exact δ (fU (θ ⟨_,rfl,θ h⟩))
def LV(K:PySem.W.Frag):V->Option Int->Option Int->Hp->VK->Prop:=fun x lo hi H Q=>∃a xs,x=.ref a/\bZ K H a xs ∧
 (HT.bV xs.length 0 lo=0/\HT.bV xs.length xs.length hi=xs.length)/\Q (.ref a) H
theorem Fw:wd X (LV X.K):=by
 intro pins s σ H x v vl vu lo hi sl Q I rx hs pl pu h;obtain⟨a,xs,rfl,hx,hw,q⟩:=h;cases rx;obtain⟨its,r,ht,hz⟩:=I.tuple hx;have hlen:its.toArray.size=xs.length:=by rw[υ];exact r.length.symm
 refine⟨"tuple",_,bB.lookup,ht.typeIs,?_⟩;exact Tb ht hs pl pu (by rw[hlen];exact hw) ⟨.ref a,H,I,rfl,q⟩
theorem Zz{lo hi:Option ο}{tl th:wc}{p2:ay}(ha:bE X a ta)(hl:Ce X lo tl)(hh:Ce X hi th):bE X (.Subscript a (.Slice lo hi none p2) pos) (rJ ta tl th):=
 gP (UR (FV.or (Fw.or UL)) ha hl hh) fun σ H Q ⟨τ,G,Q3,RS,RG,h,k⟩=>by
  refine⟨τ,G,_,RS,RG,h,fun v1 H1 d1 G1 h1 S1 R1 q1=>?_⟩;have RS1:=RS.ext (S1.ext RG);refine⟨τ,G1,_,RS1,R1,q1,fun l H2 G2 S2 R2 q2=>?_⟩;have RS2:=RS1.ext (S2.ext R1);refine⟨τ,G2,_,RS2,R2,q2,fun u H3 G3 S3 R3 q3=>?_⟩;have S13:Step H G H3 G3:=(S1.trans S2).trans S3;have hv:=(h1.ext (S2.ext R1)).ext (S3.ext R2);cases d1 with
  |tup ds=>
   obtain⟨a',vs,rfl,e1,e2⟩:=mG hv;by_cases hw:HT.bV vs.length 0 l=0/\HT.bV vs.length vs.length u=vs.length
   ·refine .inr (.inl ⟨a',vs,rfl,e1,hw,k _ H3 (.tup (fS ds l u)) G3 (pj e1 ?_) S13 R3 q3⟩);have:fS ds l u=ds:=by
     unfold fS;rw[e2.length,hw.1,hw.2];simp[←e2.length]
    rw[this];exact e2
   ·refine .inl ⟨a',vs,rfl,e1,hw,fun p hp=>?_⟩;exact k _ _ (.tup (fS ds l u)) G3 (pj (.of gh) ((DC e2 l u).ext (.laid hp))) (S13.trans (.laid hp)) (R3.laid hp) q3
  |eN ds=>
   obtain⟨a',vs,rfl,e1,e2⟩:=sx hv;refine .inr (.inr ⟨a',vs,rfl,e1.l,fun p hp=>?_⟩);exact k _ _ (.obj p) _ pk (S13.trans (.gr hp)) (R3.sD hp (DC e2 l u)) (q3 p _ (.mk' (R3.free hp)))
  |obj a'=>
   rw[hJ hv];obtain⟨ds,e0,q3⟩:=q3;obtain⟨vs,e1,e2⟩:=R3 a' _ e0;refine .inr (.inr ⟨a',vs,rfl,.of e1,fun p hp=>?_⟩);exact k _ _ (.obj p) _ pk (S13.trans (.gr hp)) (R3.sD hp (DC e2 l u)) (q3 p _ (.mk' (R3.free hp)))
  |_=>exact q3.elim
end
end L3
namespace L3
open PySem PySem.Spec PyProof.Rows L2
abbrev C3:=List D->Gp->V3->Prop
def dS(r:C3)(t:b9):ax:=fun τ G Q=>t τ G fun ds G1=>r ds G1 Q
def rh(K:PySem.W.Frag)(r:C3)(r2:List V->Hp->VK->Prop):Prop:=∀ds vs G H Q3 Q,aw K H ds vs->aD K G H->r ds G Q3->(∀v H' d G',Hv K H' d v->Step H G H' G'->aD K G' H'->Q3 d G'->Q v H')->r2 vs H Q
section
variable {X:Cx} {K:PySem.W.Frag} {e:ο} {es:List ο} {t:b9} {ta:ax} {pos p:ay}
theorem Ta{r:C3}{r2:List V->Hp->VK->Prop}(L:rh K r r2){σ:L2.St}{H:Hp}{Q:VK}(h:low K (dS r t) σ H Q):BL r2 (sH K t) σ H Q:=by
 obtain⟨τ,G,Q3,RS,RG,h,k⟩:=h;refine⟨τ,G,_,RS,RG,h,fun vs H1 ds G1 h1 S1 R1 q1=>?_⟩;exact L _ _ _ _ _ _ h1 R1 q1 fun v H' d G' z1 z2 z3 z4=>k v H' d G' z1 (S1.trans z2) z3 z4
theorem uI{r:C3}{r2:List V->Hp->VK->Prop}(L:rh X.K r r2)(h:PE X e (BL r2 (sH X.K t))):bE X e (dS r t):=gP h fun _ _ _ h=>Ta L h
theorem sM{H:Hp}{d:D}{vs:List V}(h:aw K H [d] vs):∃v,vs=[v]/\Hv K H d v:=by
 obtain⟨v,r,rfl,z1,z2⟩:=h.inv;cases z2.gi;exact⟨v,rfl,z1⟩
theorem Zt{H:Hp}{d d':D}{vs:List V}(h:aw K H [d,d'] vs):∃v v',vs=[v,v']/\Hv K H d v/\Hv K H d' v':=by
 obtain⟨v,r,rfl,z1,z2⟩:=h.inv;obtain⟨v',rfl,z3⟩:=sM z2;exact⟨v,v',rfl,z1,z3⟩
def lq:C3:=fun ds G Q=>match ds with
 |[.obj a]=>∃xs,G a=some (.lst xs)/\Q (.int xs.length) G
 |[.tup xs]=>Q (.int xs.length) G
 |[.eN xs]=>Q (.int xs.length) G
 |_=>False
theorem S9:rh K lq (fun xs H Q=>∃p ys,xs=[.ref p]/\(ff K H p ys∨bZ K H p ys)/\Q (.int ys.length) H):=fun ds vs G H Q3 Q h RG q k=>by
 rcases ds with _|⟨d,_|⟨d2,ds⟩⟩
 ·exact q.elim
 ·obtain⟨v,rfl,hv⟩:=sM h;cases d with
  |obj a=>
   obtain⟨xs,e,q⟩:=q;obtain⟨us,e1,e2⟩:=RG a _ e;rw[hJ hv];exact⟨a,us,rfl,.inl (.of e1),by rw[←e2.length];exact k _ H _ G mf (.refl H G) RG q⟩
  |tup xs=>
   obtain⟨a,us,rfl,e1,e2⟩:=mG hv;exact⟨a,us,rfl,.inr e1,by rw[←e2.length];exact k _ H _ G mf (.refl H G) RG q⟩
  |eN xs=>
   obtain⟨a,us,rfl,e1,e2⟩:=sx hv;exact⟨a,us,rfl,.inl e1.l,by rw[←e2.length];exact k _ H _ G mf (.refl H G) RG q⟩
  |_=>exact q.elim
 ·cases d<;>exact q.elim
theorem S8(hu:X.A.units+64<cLine)(hm:X.mg "len" = none)(ha:gS X (e::es) t)(hg:Gl X "len":=by rfl)(he:notStar e=true:=by rfl)(hpl:es.all notStar=true:=by rfl):
  bE X (.Call (.Name "len" p) (e::es) [] pos) (dS lq t):=uI S9 (pq UK hg hm PySem.boot_len ha (he:=dB he) (hpl:=iM hpl))
def Aa:C3:=fun ds G Q=>match ds with
 |[.bl b]=>Q (.int (if b then 1 else 0)) G
 |[.int i]=>Q (.int i) G
 |_=>False
theorem S7:rh K Aa (fun xs H Q=>(∃i,xs=[.int i]/\Q (.int i) H)∨∃k,xs=[.bl k]/\Q (.int (if k then 1 else 0)) H):=fun ds vs G H Q3 Q h RG q k=>by
 rcases ds with _|⟨d,_|⟨d2,ds⟩⟩
 ·exact q.elim
 ·obtain⟨v,rfl,hv⟩:=sM h;cases d with
  |bl b=>
   rw[qL hv];exact .inr ⟨b,rfl,k _ H _ G mf (.refl H G) RG q⟩
  |int b=>
   rw[ir hv];exact .inl ⟨b,rfl,k _ H _ G mf (.refl H G) RG q⟩
  |_=>exact q.elim
 ·cases d<;>exact q.elim
theorem S6(hu:X.A.units+64<cLine)(hm:X.mg "int" = none)(ha:gS X (e::es) t)(hg:Gl X "int":=by rfl)(he:notStar e=true:=by rfl)(hpl:es.all notStar=true:=by rfl):
  bE X (.Call (.Name "int" p) (e::es) [] pos) (dS Aa t):=uI S7 (vO Vd hg hm rfl ha (he:=dB he) (hpl:=iM hpl))
def DB:C3:=fun ds G Q=>match ds with
 |[.int i,.int j]=>Q (.int (if j > i then j else i)) G
 |_=>False
theorem S0{f:Int->Int->Int}:rh K (fun ds G Q=>match ds with
 |[.int i,.int j]=>Q (.int (f i j)) G
 | _=>False) (fun xs H Q=>∃i j,xs=[.int i,.int j]/\Q (.int (f i j)) H):=fun ds vs G H Q3 Q h RG q k=>by
 rcases ds with _|⟨d,_|⟨d2,_|⟨d3,ds⟩⟩⟩
 ·exact q.elim
 ·cases d<;>exact q.elim
 ·obtain⟨v,v',rfl,h1,h2⟩:=Zt h;cases d with
  |int i=>
   cases d2 with
   |int j=>
    rw[ir h1,ir h2];exact⟨i,j,rfl,k _ H _ G mf (.refl H G) RG q⟩
   |_=>exact q.elim
  |_=>exact q.elim
 ·cases d with
  |int i=>cases d2<;>exact q.elim
  |_=>exact q.elim
theorem SY(hu:X.A.units+64<cLine)(hm:X.mg "max" = none)(ha:gS X (e::es) t)(hc:X.calm=true:=by rfl)(hg:Gl X "max":=by rfl)(he:notStar e=true:=by rfl)(hpl:es.all notStar=true:=by rfl):
  bE X (.Call (.Name "max" p) (e::es) [] pos) (dS DB t):=uI (S0 (f:=fun i j=>if j > i then j else i)) (pq (Ve hc) hg hm rfl ha (he:=dB he) (hpl:=iM hpl))
def uq:C3:=fun ds G Q=>match ds with
 |[.obj a]=>∃xs,G a=some (.lst xs)/\Q (.tup xs) G
 |[.tup xs]=>Q (.tup xs) G
 |[.eN xs]=>Q (.tup xs) G
 |_=>False
theorem SX:rh K uq (fun xs H Q=>∃p ys,xs=[.ref p]/\((ff K H p ys/\∀l,H l=none->Q (.ref l) (upd H l (.tup ys)))∨(bZ K H p ys/\Q (.ref p) H))):=fun ds vs G H Q3 Q h RG q k=>by
 rcases ds with _|⟨d,_|⟨d2,ds⟩⟩
 ·exact q.elim
 ·obtain⟨v,rfl,hv⟩:=sM h;cases d with
  |obj a=>
   obtain⟨xs,e,q⟩:=q;obtain⟨us,e1,e2⟩:=RG a _ e;rw[hJ hv];exact⟨a,us,rfl,.inl ⟨.of e1,fun l hl=>k _ _ (.tup xs) G (pj (.of gh) (e2.ext (.laid hl))) (.laid hl) (RG.laid hl) q⟩⟩
  |tup xs=>
   obtain⟨a,us,rfl,e1,e2⟩:=mG hv;exact⟨a,us,rfl,.inr ⟨e1,k _ H _ G (pj e1 e2) (.refl H G) RG q⟩⟩
  |eN xs=>
   obtain⟨a,us,rfl,e1,e2⟩:=sx hv;exact⟨a,us,rfl,.inl ⟨e1.l,fun l hl=>k _ _ (.tup xs) G (pj (.of gh) (e2.ext (.laid hl))) (.laid hl) (RG.laid hl) q⟩⟩
  |_=>exact q.elim
 ·cases d<;>exact q.elim
theorem SW(hu:X.A.units+64<cLine)(hm:X.mg "tuple" = none)(ha:gS X (e::es) t)(hg:Gl X "tuple":=by rfl)(he:notStar e=true:=by rfl)(hpl:es.all notStar=true:=by rfl):
  bE X (.Call (.Name "tuple" p) (e::es) [] pos) (dS uq t):=uI SX (vO UI hg hm rfl ha (he:=dB he) (hpl:=iM hpl))
def xD:C3:=fun ds G Q=>match ds with
 |[.obj a]=>∃xs,G a=some (.lst xs)/\∀p G',fc G p (.lst xs) G'->Q (.obj p) G'
 |[.tup xs]=>∀p G',fc G p (.lst xs) G'->Q (.obj p) G'
 |[.eN xs]=>∀p G',fc G p (.lst xs) G'->Q (.obj p) G'
 |_=>False
theorem TM:rh K xD (fun xs H Q=>∃p ys,xs=[.ref p]/\(ff K H p ys∨bZ K H p ys)/\∀l,H l=none->Q (.ref l) (upd H l (.lst ys))):=fun ds vs G H Q3 Q h RG q k=>by
 have fin:∀(xs:List D) (us:List V),aw K H xs us->(∀p G',fc G p (.lst xs) G'->Q3 (.obj p) G')->∀l,H l=none->Q (.ref l) (upd H l (.lst us)):=fun xs us e2 q l hl=>
  k _ _ (.obj l) _ pk (.gr hl) (RG.sD hl e2) (q l _ (.mk' (RG.free hl)))
 rcases ds with _|⟨d,_|⟨d2,ds⟩⟩
 ·exact q.elim
 ·obtain⟨v,rfl,hv⟩:=sM h;cases d with
  |obj a=>
   obtain⟨xs,e,q⟩:=q;obtain⟨us,e1,e2⟩:=RG a _ e;rw[hJ hv];exact⟨a,us,rfl,.inl (.of e1),fin xs us e2 q⟩
  |tup xs=>
   obtain⟨a,us,rfl,e1,e2⟩:=mG hv;exact⟨a,us,rfl,.inr e1,fin xs us e2 q⟩
  |eN xs=>
   obtain⟨a,us,rfl,e1,e2⟩:=sx hv;exact⟨a,us,rfl,.inl e1.l,fin xs us e2 q⟩
  |_=>exact q.elim
 ·cases d<;>exact q.elim
theorem TL(hu:X.A.units+64<cLine)(hm:X.mg "list" = none)(ha:gS X (e::es) t)(hg:Gl X "list":=by rfl)(he:notStar e=true:=by rfl)(hpl:es.all notStar=true:=by rfl):
  bE X (.Call (.Name "list" p) (e::es) [] pos) (dS xD t):=uI TM (vO UJ hg hm rfl ha (he:=dB he) (hpl:=iM hpl))
def eM(r:D->List D->Gp->V3->Prop)(to:ax)(t:b9):ax:=fun τ G Q=>to τ G fun x G1=>(∃a xs,x=.obj a/\G1 a=some (.lst xs))/\t τ G1 fun ds G2=>r x ds G2 Q
def v8(K:PySem.W.Frag)(r:D->List D->Gp->V3->Prop)(r2:V->List V->Hp->VK->Prop):Prop:=∀x vx ds vs G H Q3 Q,Hv K H x vx->aw K H ds vs->aD K G H->r x ds G Q3->(∀v H' d G',Hv K H' d v->Step H G H' G'->aD K G' H'->Q3 d G'->Q v H')->r2 vx vs H Q
theorem TK{r:D->List D->Gp->V3->Prop}{r2:V->List V->Hp->VK->Prop}{to:ax}(L:v8 K r r2){σ:L2.St}{H:Hp}{Q:VK}(h:low K (eM r to t) σ H Q):FU K "list" r2 (low K to) (sH K t) σ H Q:=by
 obtain⟨τ,G,Q3,RS,RG,h,k⟩:=h;refine⟨τ,G,_,RS,RG,h,fun v1 H1 d1 G1 h1 S1 R1 q1=>?_⟩;obtain⟨⟨a,xs,rfl,e1⟩,q1⟩:=q1;obtain⟨us,e2,e3⟩:=R1 a _ e1;refine⟨?_,τ,G1,_,RS.ext (S1.ext RG),R1,q1,fun vs H2 ds G2 h2 S2 R2 q2=>?_⟩
 ·rw[hJ h1];exact .inl ⟨rfl,us,.of e2⟩
 ·exact L _ _ _ _ _ _ _ _ (h1.ext (S2.ext R1)) h2 R2 q2 fun v H' d G' z1 z2 z3 z4=>k v H' d G' z1 ((S1.trans S2).trans z2) z3 z4
def JH:D->List D->Gp->V3->Prop:=fun x ds G Q=>match x,ds with
 |.obj a,[d]=>∃xs,G a=some (.lst xs)/\xs.length<ai/\Q .az (dX G a (.lst (xs++[d])))
 |_,_=>False
theorem TJ:v8 K JH yF:=fun x vx ds vs G H Q3 Q hx hs RG q k=>by
 rcases ds with _|⟨d,_|⟨d2,ds⟩⟩
 ·cases x<;>exact q.elim
 ·cases x with
  |obj a=>
   obtain⟨xs,e1,hz,q⟩:=q;obtain⟨us,e2,e3⟩:=RG a _ e1;obtain⟨v,rfl,hv⟩:=sM hs;rw[hJ hx];refine⟨a,us,v,rfl,rfl,e2,by rw[←e3.length];exact hz,?_⟩;exact k _ _ .az _ (by simp[Hv]) (.wrote e1) (RG.FO e2 (e3.append (.cons hv .nil))) q
  |_=>exact q.elim
 ·cases x<;>exact q.elim
theorem TH{r:D->List D->Gp->V3->Prop}{r2:V->List V->Hp->VK->Prop}{to:ax}(L:v8 X.K r r2)(h:PE X e (FU X.K "list" r2 (low X.K to) (sH X.K t))):bE X e (eM r to t):=gP h fun _ _ _ z=>TK L z
def Eg:ax:=fun _ G Q=>∀p G',fc G p .eD G'->Q (.obj p) G'
theorem TF:bE X (.Dict [] [] pos) Eg:=fun pins s σ H Q I ⟨τ,G,Q3,RS,RG,h,k⟩=>by
 have hf:H s.heap.objs.size=none:=I.bf.fresh (Ω _);refine wpAny_Dict_empty ⟨.ref s.heap.objs.size,_,I.laid (a:=s.heap.objs.size) (o:=.ext fun h=>∃o,h.get? s.heap.objs.size=some o/\o.cls=.type "dict") (t':=s.toks) (fun _ _ q=>η _ q) (Ω _) ?_,rfl,?_⟩
 ·refine⟨⟨_,ψ _ rfl,rfl⟩,⟨_,ψ _ rfl⟩,fun h1 h2 ⟨o,e1,e2⟩ kk=>⟨o,kk o e1,e2⟩⟩
 ·exact k _ _ (.obj s.heap.objs.size) (dX G s.heap.objs.size .eD) pk (.gr hf) (RG.gr (g:=.eD) hf gh) (h _ _ (.mk' (RG.free hf)))
def jz(T:String)(G:Gp):D->Option Bool
 |.az=>some false
 |.bl _=>some (T=="bool" || T=="int")
 |.int _=>some (T=="int")
 |.str _=>some (T=="str")
 |.tup _=>some (T=="tuple")
 |.eN _=>some (T=="list")
 |.dc _=>some (T=="dict")
 |.obj a=>match G a with
  |some (.lst _)=>some (T=="list")
  |some .kL=>some (T=="list")
  |some .eD=>some (T=="dict")
  |some (.gen _)=>none
  |none=>none
def oK(T:String)(ta:ax):ax:=fun τ G Q=>ta τ G fun x G1=>match jz T G1 x with
 |some b=>Q (.bl b) G1
 |none=>False
end
end L3
namespace Et
open PySem PySem.W PyProof.Rows
structure Ord(n:Nat)(lt:Nat->Nat->Bool):Prop where
 yK:∀a b,a<n->b<n->lt a b=true->lt b a=false
 t9:∀a b c,a<n->b<n->c<n->lt b a=false->lt c b=false->lt c a=false
abbrev g(p:Array Nat)(i:Nat):Nat:=p.getD i 0
structure Va(n:Nat)(p:Array Nat):Prop where
 perm:p.toList.Perm (ag n)
section
variable {n:Nat} {lt:Nat->Nat->Bool} {cmp:Nat->Nat->(Bool->ζ->Prop)->ζ->Prop} {s:ζ}
theorem Va.size{p:Array Nat}(v:Va n p):p.size=n:=by
 have:=v.perm.length_eq;simpa using this
theorem Va.get{p:Array Nat}(v:Va n p){i:Nat}(hi:i<n):p[i]?=some (g p i):=by
 have h:=v.size;simp[g,ll,h,hi]
theorem Va.inr{p:Array Nat}(v:Va n p){i:Nat}(hi:i<n):g p i<n:=by
 have h:=v.get hi;have hm:g p i∈p.toList:=bM (by rw[aW];exact h);have:=v.perm.mem_iff.mp hm;simpa using this
theorem Ord.refl(O:Ord n lt){a:Nat}(ha:a<n):lt a a=false:=by
 cases h:lt a a with
 |false=>rfl
 |true=>
  have:=O.yK a a ha ha h;rw[h] at this;exact this
def So(lt:Nat->Nat->Bool)(p:Array Nat)(k:Nat):Prop:=∀i j,i≤j->j<k->lt (g p j) (g p i)=false
def Ni(lt:Nat->Nat->Bool)(p:Array Nat)(k:Nat):Prop:=∀i j,i≤j->j<k->lt (g p i) (g p j)=false
def Cj(lt:Nat->Nat->Bool)(p:Array Nat)(lo hi:Nat):Prop:=∀i j,lo≤i->i<hi->lo≤j->j<hi->lt (g p i) (g p j)=false
theorem So.one(O:Ord n lt){p:Array Nat}(v:Va n p)(hn:1≤n):So lt p 1:=fun i j h1 h2=>by
 have e1:i=0:=by lia
 have e2:j=0:=by lia
 rw[e1,e2];exact O.refl (v.inr (by lia))
theorem So.next(O:Ord n lt){p:Array Nat}(v:Va n p){a:Nat}(h1:1≤a)(ha:a<n)(S:So lt p a)(h:lt (g p a) (g p (a-1))=false):So lt p (a+1):=fun i j hij hj=>by
 by_cases hja:j<a
 ·exact S i j hij hja
 ·have e:j=a:=by lia
  subst e;by_cases hij':i=j
  ·rw[hij'];exact O.refl (v.inr ha)
  ·exact O.t9 (g p i) (g p (j-1)) (g p j) (v.inr (by lia)) (v.inr (by lia)) (v.inr ha) (S i (j-1) (by lia) (by lia)) h
theorem Ni.next(O:Ord n lt){p:Array Nat}(v:Va n p){a:Nat}(h1:1≤a)(ha:a<n)(S:Ni lt p a)(h:lt (g p (a-1)) (g p a)=false):Ni lt p (a+1):=fun i j hij hj=>by
 by_cases hja:j<a
 ·exact S i j hij hja
 ·have e:j=a:=by lia
  subst e;by_cases hij':i=j
  ·rw[hij'];exact O.refl (v.inr ha)
  ·exact O.t9 (g p j) (g p (j-1)) (g p i) (v.inr ha) (v.inr (by lia)) (v.inr (by lia)) h (S i (j-1) (by lia) (by lia))
theorem uo{p:Array Nat}(v:Va n p)(i j:Nat):Va n (kas_rev p i j):=⟨(mirror_perm p i j _).toList.trans v.perm⟩
theorem zZ{p:Array Nat}(v:Va n p){lo hi k:Nat}(hh:hi≤n)(hk:k<n):g (kas_rev p lo hi) k=if lo≤k/\k<hi then g p (lo+hi-1-k) else g p k:=by
 have h1:=getElem?_mirror_all (xs:=p) (i:=lo) (j:=hi) (by rw[v.size];exact hh) k;have h2:=(uo v lo hi).get hk;have h3:(kas_rev p lo hi)[k]?=_:=h1;rw[h2] at h3;by_cases hc:lo≤k/\k<hi
 ·rw[if_pos hc] at h3 ⊢;rw[v.get (by lia)] at h3;exact ao h3
 ·rw[if_neg hc] at h3 ⊢;rw[v.get hk] at h3;exact ao h3
theorem DA{p:Array Nat}(v:Va n p){lo hi k:Nat}(hh:hi≤k)(hk:k≤n)(S:Ni lt p k)(e:Cj lt p lo hi):Ni lt (kas_rev p lo hi) k:=fun i j hij hj=>by
 rw[zZ v (by lia) (show i<n by lia),zZ v (by lia) (show j<n by lia)];by_cases hi':lo≤i/\i<hi
 ·rw[if_pos hi'];by_cases hj':lo≤j/\j<hi
  ·rw[if_pos hj'];exact e _ _ (by lia) (by lia) (by lia) (by lia)
  ·rw[if_neg hj'];exact S _ _ (by lia) hj
 ·rw[if_neg hi'];by_cases hj':lo≤j/\j<hi
  ·rw[if_pos hj'];exact S _ _ (by lia) (by lia)
  ·rw[if_neg hj'];exact S _ _ hij hj
theorem TC{p:Array Nat}(v:Va n p){k:Nat}(hk:k≤n)(S:Ni lt p k):So lt (kas_rev p 0 k) k:=fun i j hij hj=>by
 rw[zZ v hk (show i<n by lia),zZ v hk (show j<n by lia),if_pos (by lia),if_pos (by lia)];exact S _ _ (by lia) (by lia)
variable (O:Ord n lt) (hc:∀i j,i<n->j<n->∀(C:Bool->ζ->Prop) (s:ζ),C (lt i j) s->cmp i j C s)
include O hc
theorem Dz{p:Array Nat}(v:Va n p){G:Nat->ζ->Prop}:∀(f a:Nat),1≤a->a+f≤n->So lt p a->(∀m,a≤m->m≤a+f->So lt p m->(m=a+f∨lt (g p m) (g p (m-1))=true)->G m s)->(kas_asc p f a).kasWp cmp G s
 |0,a,_,_,S,h=>h a (Ω _) (by lia) S (.inl (by lia))
 |f+1,a,h1,h2,S,h=>by
  show cmp _ _ _ s;refine hc _ _ (v.inr (by lia)) (v.inr (by lia)) _ s ?_;cases hb:lt (g p a) (g p (a-1)) with
  |true=>
   ((try dsimp only);rw[if_pos rfl])
   exact h a (Ω _) (by lia) S (.inr hb)
  |false=>
   ((try dsimp only);rw[if_neg ak])
   exact Dz v f (a+1) (by lia) (by lia) (S.next O v h1 (by lia) hb) fun m q1 q2 q3 q4=>h m (by lia) (by lia) q3 (by
    rcases q4 with q4|q4
    ·exact .inl (by lia)
    ·exact .inr q4)
theorem zY{G:Array Nat×Nat×Nat->ζ->Prop}:∀(f:Nat) (p:Array Nat) (a q:Nat),Va n p->q+1≤a->a+f≤n->Ni lt p a->Cj lt p (a-(q+1)) a ->
  (∀p' m q',Va n p'->a≤m->m≤a+f->q'+1≤m->Ni lt p' m->Cj lt p' (m-(q'+1)) m->G (p',m,q') s)->(kas_desc f p a q).kasWp cmp G s
 |0,p,a,q,v,h1,h2,S,e,h=>h p a q v (Ω _) (by lia) h1 S e
 |f+1,p,a,q,v,h1,h2,S,e,h=>by
  show cmp _ _ _ s;refine hc _ _ (v.inr (by lia)) (v.inr (by lia)) _ s ?_;have one:∀{p':Array Nat},Va n p'->Cj lt p' (a+1-(0+1)) (a+1):=fun {p'} v' i j i1 i2 j1 j2=>by
   have e1:i=a:=by lia
   have e2:j=a:=by lia
   rw[e1,e2];exact O.refl (v'.inr (by lia))
  cases hb:lt (g p a) (g p (a-1)) with
  |true=>
   ((try dsimp only);rw[if_pos rfl])
   have S':=S.next O v (by lia) (by lia) (O.yK _ _ (v.inr (by lia)) (v.inr (by lia)) hb)
   by_cases hq:q > 0
   ·rw[if_pos hq];exact zY f _ (a+1) 0 (uo v _ _) (by lia) (by lia) (DA v (by lia) (by lia) S' e) (one (uo v _ _)) fun p' m q' r1 r2 r3 r4 r5 r6=>h p' m q' r1 (by lia) (by lia) r4 r5 r6
   ·rw[if_neg hq];exact zY f _ (a+1) 0 v (by lia) (by lia) S' (one v) fun p' m q' r1 r2 r3 r4 r5 r6=>h p' m q' r1 (by lia) (by lia) r4 r5 r6
  |false=>
   ((try dsimp only);rw[if_neg ak])
   show cmp _ _ _ s;refine hc _ _ (v.inr (by lia)) (v.inr (by lia)) _ s ?_;cases hd:lt (g p (a-1)) (g p a) with
   |true=>
    ((try dsimp only);rw[if_pos rfl])
    exact h p a q v (Ω _) (by lia) h1 S e
   |false=>
    ((try dsimp only);rw[if_neg ak])
    refine zY f _ (a+1) (q+1) v (by lia) (by lia) (S.next O v (by lia) (by lia) hd) (fun i j i1 i2 j1 j2=>?_) fun p' m q' r1 r2 r3 r4 r5 r6=>h p' m q' r1 (by lia) (by lia) r4 r5 r6
    have L:∀k,k<n->g p k<n:=fun k hk=>v.inr hk;by_cases hi:i=a
    ·by_cases hj:j=a
     ·rw[hi,hj];exact O.refl (L _ (by lia))
     ·rw[hi];exact O.t9 (g p j) (g p (a-1)) (g p a) (L _ (by lia)) (L _ (by lia)) (L _ (by lia)) (e (a-1) j (by lia) (by lia) (by lia) (by lia)) hb
    ·by_cases hj:j=a
     ·rw[hj];exact O.t9 (g p a) (g p (a-1)) (g p i) (L _ (by lia)) (L _ (by lia)) (L _ (by lia)) hd (e i (a-1) (by lia) (by lia) (by lia) (by lia))
     ·exact e i j (by lia) (by lia) (by lia) (by lia)
theorem JG{p:Array Nat}(v:Va n p){a:Nat}{G:Nat×Array Nat->ζ->Prop}(h1:1≤a)(h2:a≤n)(S:Ni lt p a)(h:∀m p',Va n p'->1≤m->m≤n->So lt p' m->G (m,p') s):(kas_tail3 a n p).kasWp cmp G s:=by
 unfold kas_tail3;rw[iV];exact Dz O hc (uo v 0 a) (n-a) a h1 (by lia) (TC v h2 S) fun m q1 q2 q3 _=>h m _ (uo v 0 a) (by lia) (by lia) q3
theorem Kh{p:Array Nat}(v:Va n p){a:Nat}{G:Nat×Array Nat->ζ->Prop}(h1:1≤a)(h2:a+1≤n)(S:Ni lt p (a+1))(h:∀m p',Va n p'->1≤m->m≤n->So lt p' m->G (m,p') s):(kas_descPart a n p).kasWp cmp G s:=by
 unfold kas_descPart;rw[iV];refine zY O hc (n-(a+1)) p (a+1) 0 v (by lia) (by lia) S (fun i j i1 i2 j1 j2=>?_) fun p' m q' r1 r2 r3 r4 r5 r6=>?_
 ·have e1:i=a:=by lia
  have e2:j=a:=by lia
  rw[e1,e2];exact O.refl (v.inr (by lia))
 ·dsimp only;by_cases hq:q' > 0
  ·rw[if_pos hq];exact JG O hc (uo r1 _ _) (by lia) (by lia) (DA r1 (Ω _) (by lia) r5 r6) h
  ·rw[if_neg hq];exact JG O hc r1 (by lia) (by lia) r5 h
theorem TB{p:Array Nat}(v:Va n p){G:Nat×Array Nat->ζ->Prop}(hn:1≤n)(h:∀m p',Va n p'->1≤m->m≤n->So lt p' m->G (m,p') s):(kas_count n p).kasWp cmp G s:=by
 unfold kas_count;rw[iV];refine Dz O hc v (n-1) 1 (Ω _) (by lia) (So.one O v hn) fun a q1 q2 q3 q4=>?_;have L:∀k,k<n->g p k<n:=fun k hk=>v.inr hk;by_cases e1:(a==n)=true
 ·rw[if_pos e1];exact h a p v q1 (by lia) q3
 ·rw[if_neg e1];have cy:a≠n:=fun z=>e1 (by rw[z];exact beq_self_eq_true _);have hlt:lt (g p a) (g p (a-1))=true:=by
   rcases q4 with q4|q4
   ·lia
   ·exact q4
  have hle:=O.yK _ _ (L a (by lia)) (L (a-1) (by lia)) hlt;by_cases e2:a > 1
  ·rw[if_pos e2];show cmp _ _ _ s;refine hc _ _ (v.inr (by lia)) (v.inr (by lia)) _ s ?_;cases hb:lt (g p 0) (g p (a-1)) with
   |true=>
    ((try dsimp only);rw[if_pos rfl])
    exact h a p v q1 (by lia) q3
   |false=>
    ((try dsimp only);rw[if_neg ak])
    -- all of the run are alike
    have eqv:Cj lt p 0 a:=fun i j i1 i2 j1 j2=>by
     have h1:lt (g p i) (g p 0)=false:=q3 0 i (by lia) i2;have h2:lt (g p (a-1)) (g p j)=false:=q3 j (a-1) (by lia) (by lia);have h3:lt (g p 0) (g p j)=false:=O.t9 _ _ _ (L j (by lia)) (L (a-1) (by lia)) (L 0 (by lia)) h2 hb;have h4:lt (g p (a-1)) (g p i)=false:=q3 i (a-1) (by lia) (by lia);exact O.t9 _ _ _ (L j (by lia)) (L 0 (by lia)) (L i (by lia)) h3 h1
    have ni:Ni lt p (a+1):=Ni.next O v (by lia) (by lia) (fun i j hij hj=>eqv i j (by lia) (by lia) (by lia) hj) hle
    exact Kh O hc (uo v _ _) (by lia) (by lia) (DA v (by lia) (by lia) ni eqv) h
  ·rw[if_neg e2];have ea:a=1:=by lia
   subst ea;refine Kh O hc v (Ω _) (by lia) (Ni.next O v (by lia) (by lia) (fun i j hij hj=>?_) hle) h
   have e3:i=0:=by lia
   have e4:j=0:=by lia
   rw[e3,e4];exact O.refl (L 0 (by lia))
theorem Dy{p:Array Nat}(v:Va n p){k:Nat}(hk:k<n)(S:So lt p k){G:Nat->ζ->Prop}:∀(f l r:Nat),l≤r->r≤k->r-l≤f->(∀i,i<l->lt (g p k) (g p i)=false)->(∀i,r≤i->i<k->lt (g p k) (g p i)=true) ->
  (∀l,l≤k->(∀i,i<l->lt (g p k) (g p i)=false)->(∀i,l≤i->i<k->lt (g p k) (g p i)=true)->G l s)->(kas_place p k f l r).kasWp cmp G s
 |0,l,r,h1,h2,h3,h4,h5,h=>by
  have e:l=r:=by lia
  subst e;exact h l h2 h4 h5
 |f+1,l,r,h1,h2,h3,h4,h5,h=>by
  unfold kas_place;by_cases hlr:l≥r
  ·rw[if_pos hlr];have e:l=r:=by lia
   subst e;exact h l h2 h4 h5
  ·rw[if_neg hlr];show cmp _ _ _ s;refine hc _ _ (v.inr hk) (v.inr (by lia)) _ s ?_;have L:∀k,k<n->g p k<n:=fun k hk=>v.inr hk;cases hb:lt (g p k) (g p ((l+r) / 2)) with
   |true=>
    ((try dsimp only);rw[if_pos rfl])
    refine Dy v hk S f l ((l+r) / 2) (by lia) (by lia) (by lia) h4 (fun i i1 i2=>?_) h;by_cases hri:r≤i
    ·exact h5 i hri i2
    ·cases hx:lt (g p k) (g p i) with
     |true=>rfl
     |false=>
      have h6:lt (g p i) (g p ((l+r) / 2))=false:=S _ _ i1 i2;have:=O.t9 _ _ _ (L ((l+r) / 2) (by lia)) (L i (by lia)) (L k hk) h6 hx;rw[hb] at this;exact this.symm
   |false=>
    ((try dsimp only);rw[if_neg ak])
    refine Dy v hk S f ((l+r) / 2+1) r (by lia) h2 (by lia) (fun i hi=>?_) h5 h;exact O.t9 _ _ _ (L i (by lia)) (L ((l+r) / 2) (by lia)) (L k hk) (S i ((l+r) / 2) (by lia) (by lia)) hb
theorem Kg{G:Array Nat->ζ->Prop}:∀(f:Nat) (p:Array Nat) (k:Nat),Va n p->k+f=n->So lt p k->(∀p',Va n p'->So lt p' n->G p' s)->(kas_bin f p k).kasWp cmp G s
 | 0,p,k,v,hk,S,h=>h p v (by
  have e:k=n:=by lia
  rw[←e];exact S)
 |f+1,p,k,v,hk,S,h=>by
  show ((kas_place p k k 0 k).bind fun l=>kas_bin f (bubble p k (k-l)) (k+1)).kasWp cmp G s;rw[iV];refine Dy O hc v (by lia) S k 0 k (by lia) (Ω _) (by lia) (fun i hi=>by lia) (fun i i1 i2=>by lia) fun l hl q1 q2=>?_;have v':Va n (bubble p k (k-l)):=⟨(bubble_perm p k (k-l)).toList.trans v.perm⟩;have L:∀k,k<n->g p k<n:=fun k hk=>v.inr hk;have bg:∀i,i<n->g (bubble p k (k-l)) i=if i=l then g p k else if l<i/\i≤k then g p (i-1) else g p i:=fun i hi=>by
   have h1:=getElem?_bubble (xs:=p) (src:=k) (by rw[v.size];lia) (k-l) (by lia) i;rw[v'.get hi,show k-(k-l)=l by lia] at h1;by_cases c1:i=l
   ·rw[if_pos c1] at h1 ⊢;rw[v.get (by lia)] at h1;exact ao h1
   ·rw[if_neg c1] at h1 ⊢;by_cases c2:l<i/\i≤k
    ·rw[if_pos c2] at h1 ⊢;rw[v.get (by lia)] at h1;exact ao h1
    ·rw[if_neg c2] at h1 ⊢;rw[v.get hi] at h1;exact ao h1
  refine Kg f _ (k+1) v' (by lia) (fun i j hij hj=>?_) h;rw[bg i (by lia),bg j (by lia)];by_cases ci:i=l
  ·rw[if_pos ci];by_cases cj:j=l
   ·rw[if_pos cj];exact O.refl (L k (by lia))
   ·rw[if_neg cj,if_pos (by lia)];exact O.yK _ _ (L k (by lia)) (L _ (by lia)) (q2 (j-1) (by lia) (by lia))
  ·rw[if_neg ci];by_cases cj:j=l
   ·rw[if_pos cj,if_neg (by lia)];exact q1 i (by lia)
   ·rw[if_neg cj];by_cases c3:l<i/\i≤k
    ·rw[if_pos c3,if_pos (by lia)];exact S (i-1) (j-1) (by lia) (by lia)
    ·rw[if_neg c3];by_cases c4:l<j/\j≤k
     ·rw[if_pos c4];exact S i (j-1) (by lia) (by lia)
     ·rw[if_neg c4];exact S i j hij (by lia)
theorem Tz{G:Array Nat->ζ->Prop}(hn:1≤n)(h:∀p,Va n p->So lt p n->G p s):(kas_sort n).kasWp cmp G s:=by
 unfold kas_sort;rw[iV];have v0:Va n (jr (ag n)):=⟨by simp⟩;refine TB O hc v0 hn fun m p' v m1 m2 S=>?_;dsimp only;by_cases hm:m<n
 ·rw[if_pos hm];have e:max m 1=m:=by lia
  rw[e];exact Kg O hc (n-m) p' m v (by lia) S h
 ·rw[if_neg hm];have e:m=n:=by lia
  subst e;exact h p' v S
end
end Et
namespace lL
open PySem PySem.SetTable
def jC(m:Nat):Prop:=m=7∨m=31∨m=127
def sU(m:Nat)(p:Probe):Probe:=
 if p.more > 0 then { p with j:=p.j+1,more:=p.more-1 } else
 { p with j:=(leap m p.i p.perturb).1,more:=runEnd m (leap m p.i p.perturb).1-(leap m p.i p.perturb).1,i:=(leap m p.i p.perturb).1,perturb:=(leap m p.i p.perturb).2 }
def rs(m:Nat)(q:Nat×Nat):Probe:={ j:=q.1,more:=runEnd m q.1-q.1,i:=q.1,perturb:=q.2,dummy:=none }
def ZT(m:Nat)(h:Int):Probe:=rs m (bits h%(m+1),bits h)
def sq(m:Nat)(h:Int):Nat->Probe
 |0=>ZT m h
 |k+1=>sU m (sq m h k)
def rn(m:Nat)(h:Int):Nat->Nat×Nat
 |0=>(bits h%(m+1),bits h)
 |r+1=>leap m (rn m h r).1 (rn m h r).2
theorem Kf(m:Nat)(h:Int):∀k,(sq m h k).dummy=none
 |0=>rfl
 |k+1=>by
  show (sU m (sq m h k)).dummy=none;have ih:=Kf m h k;unfold sU;split<;>simpa using ih
theorem Tx(m i:Nat):runEnd m i-i≤9:=by
 unfold runEnd;split<;>lia
theorem Dw(m:Nat)(h:Int)(n:Nat)(q:Nat×Nat)(e:sq m h n=rs m q):∀d,d≤runEnd m q.1-q.1->sq m h (n+d)={ j:=q.1+d,more:=runEnd m q.1-q.1-d,i:=q.1,perturb:=q.2,dummy:=none }
 |0,_=>by rw[Nat.add_zero,e];rfl
 |d+1,hd=>by
  have ih:=Dw m h n q e d (by lia);show sU m (sq m h (n+d))=_;rw[ih];unfold sU;rw[if_pos (show runEnd m q.1-q.1-d > 0 by lia)];simp only[Probe.mk.injEq,and_true,true_and];lia
theorem Ke(m:Nat)(h:Int)(n:Nat)(q:Nat×Nat)(e:sq m h n=rs m q):sq m h (n+(runEnd m q.1-q.1)+1)=rs m (leap m q.1 q.2):=by
 show sU m (sq m h (n+(runEnd m q.1-q.1)))=_;rw[Dw m h n q e _ (Ω _)];unfold sU;rw[if_neg (by simp)];rfl
theorem Kd(m:Nat)(h:Int):∀r,∃n,n≤10*r/\sq m h n=rs m (rn m h r)
 |0=>⟨0,by lia,rfl⟩
 |r+1=>by
  obtain⟨n,hn,e⟩:=Kd m h r;have:=Tx m (rn m h r).1;exact⟨n+(runEnd m (rn m h r).1-(rn m h r).1)+1,by lia,Ke m h n _ e⟩
theorem SH(h:Int):bits h<2^64:=by
 unfold bits;have h1:h%(2^64:Int)<2^64:=fA _ (by decide);have h2:0≤h%(2^64:Int):=gF _ (by decide);lia
theorem Kc(m:Nat)(h:Int):∀r,(rn m h r).2=bits h / 32^r
 |0=>by simp[rn]
 |r+1=>by
  show (rn m h r).2 / 32=_;rw[Kc m h r,Nat.div_div_eq_div_mul,tf]
theorem SG(m:Nat)(h:Int)(r:Nat)(hr:13≤r):(rn m h r).2=0:=by
 rw[Kc];have h1:=SH h;have h2:(32:Nat)^13≤32^r:=kZ (by decide) hr;have h3:(2:Nat)^64<32^13:=by decide
 exact Nat.div_eq_of_lt (by lia)
def fl(m x:Nat):Nat:=(x*5+1)%(m+1)
def it(m:Nat):Nat->Nat->Nat
 |0,x=>x
 |n+1,x=>fl m (it m n x)
theorem xC(m:Nat)(a:Nat):∀b x,it m (b+a) x=it m b (it m a x)
 |0,x=>by rw[Nat.zero_add];rfl
 |b+1,x=>by
  rw[show b+1+a=(b+a)+1 by lia];show fl m (it m (b+a) x)=fl m (it m b (it m a x));rw[xC m a b x]
theorem Dv(m:Nat)(h:Int):∀n,(rn m h (13+n)).1=it m n (rn m h 13).1
 |0=>rfl
 |n+1=>by
  show ((rn m h (13+n)).1*5+1+(rn m h (13+n)).2 / 32)%(m+1)=fl m (it m n (rn m h 13).1);rw[SG m h (13+n) (by lia),Dv m h n];rfl
theorem Du(m:Nat)(h:Int):∀r,(rn m h r).1<m+1
 |0=>gE _ (oh _)
 |r+1=>gE _ (oh _)
def B1(m:Nat):Nat->Nat->List Nat
 |0,_=>[]
 |n+1,x=>x::B1 m n (fl m x)
theorem zX(m:Nat):∀(n x y:Nat),y∈B1 m n x->∃k,k<n/\y=it m k x
 |0,_,_,h=>by cases h
 |n+1,x,y,h=>by
  rcases Φ.mp h with e|e
  ·exact⟨0,by lia,e⟩
  ·obtain⟨k,hk,e⟩:=zX m n (fl m x) y e;refine⟨k+1,by lia,?_⟩;rw[xC m 1 k x];exact e
theorem Zd:((ag 8).all fun x=>(B1 7 8 0).contains x)=true:=by decide +kernel
theorem LX:((ag 32).all fun x=>(B1 31 32 0).contains x)=true:=by decide +kernel
theorem KN:((ag 128).all fun x=>(B1 127 128 0).contains x)=true:=by decide +kernel
theorem Mv:it 7 8 0=0:=by decide +kernel
theorem Lp:it 31 32 0=0:=by decide +kernel
theorem FG:it 127 128 0=0:=by decide +kernel
theorem EH{m:Nat}(hm:jC m){x:Nat}(hx:x<m+1):∃k,k<m+1/\x=it m k 0:=by
 rcases hm with rfl|rfl|rfl
 ·have:=eI.mp Zd x (aE.mpr hx);exact zX 7 8 0 x (by simpa using this)
 ·have:=eI.mp LX x (aE.mpr hx);exact zX 31 32 0 x (by simpa using this)
 ·have:=eI.mp KN x (aE.mpr hx);exact zX 127 128 0 x (by simpa using this)
theorem back{m:Nat}(hm:jC m):it m (m+1) 0=0:=by
 rcases hm with rfl|rfl|rfl
 ·exact Mv
 ·exact Lp
 ·exact FG
theorem BZ{m:Nat}(hm:jC m){x y:Nat}(hx:x<m+1)(hy:y<m+1):∃n,n≤m/\it m n x=y:=by
 obtain⟨a,ha,ea⟩:=EH hm hx;obtain⟨b,hb,eb⟩:=EH hm hy;by_cases hab:a≤b
 ·refine⟨b-a,by lia,?_⟩;rw[ea,←xC,eb];congr 1;lia
 ·refine⟨m+1-a+b,by lia,?_⟩;rw[ea,←xC,eb,show m+1-a+b+a=b+(m+1) by lia,xC,back hm]
theorem comes{m:Nat}(hm:jC m)(h:Int){e:Nat}(he:e≤m):∃k,k≤10*m+130/\(sq m h k).j=e:=by
 obtain⟨n,hn,en⟩:=BZ hm (Du m h 13) (show e<m+1 by lia);obtain⟨k,hk,ek⟩:=Kd m h (13+n);refine⟨k,by lia,?_⟩;rw[ek];show (rn m h (13+n)).1=e;rw[Dv,en]
theorem Dt{xs:Array Nat}{j:Nat}(hr:xs.toList.Pairwise (· < ·)):∀(fuel lo hi:Nat),hi-lo≤fuel->lo≤hi->hi≤xs.size->(∀i x,i<lo->xs[i]?=some x->x<j)->(∀i x,hi≤i->xs[i]?=some x->j≤x) ->
  below.go xs j fuel lo hi≤xs.size/\(∀i x,i<below.go xs j fuel lo hi->xs[i]?=some x->x<j)/\(∀i x,below.go xs j fuel lo hi≤i->xs[i]?=some x->j≤x)
 |0,lo,hi,hf,hl,hs,h1,h2=>by
  have e:lo=hi:=by lia
  subst e;exact⟨hs,h1,h2⟩
 |fuel+1,lo,hi,hf,hl,hs,h1,h2=>by
  unfold below.go;by_cases hlt:lo<hi
  ·rw[if_pos hlt];dsimp only;have hmid:(lo+hi) / 2<xs.size:=by lia
   have hg:xs.getD ((lo+hi) / 2) j=xs[(lo+hi) / 2]:=by simp[ll,hmid]
   rw[hg];have pw:∀a b x y,a<b->xs[a]?=some x->xs[b]?=some y->x<y:=fun a b x y hab ea eb=>by
    have ha':a<xs.toList.length:=by
     have:=(aC.mp ea).1;simpa using this
    have hb':b<xs.toList.length:=by
     have:=(aC.mp eb).1;simpa using this
    have:=eK.mp hr a b ha' hb' hab;obtain⟨_,e1⟩:=aC.mp ea;obtain⟨_,e2⟩:=aC.mp eb;simpa [e1,e2] using this
   have em:xs[(lo+hi) / 2]?=some xs[(lo+hi) / 2]:=by simp[hmid]
   by_cases hc:xs[(lo+hi) / 2]<j
   ·rw[if_pos hc];refine Dt hr fuel _ hi (by lia) (by lia) hs (fun i x hi' e=>?_) h2;by_cases hi2:i=(lo+hi) / 2
    ·subst hi2;rw[em] at e;cases e;exact hc
    ·exact la (pw i _ x _ (by lia) e em) hc
   ·rw[if_neg hc];refine Dt hr fuel lo _ (by lia) (by lia) (by lia) h1 (fun i x hi' e=>?_);by_cases hi2:i=(lo+hi) / 2
    ·subst hi2;rw[em] at e;cases e;lia
    ·have:=pw _ i _ x (by lia) em e;lia
  ·rw[if_neg hlt];have e:lo=hi:=by lia
   subst e;exact⟨hs,h1,h2⟩
theorem zE{xs:Array Nat}{j:Nat}(hr:xs.toList.Pairwise (· < ·)):below xs j≤xs.size/\(∀i x,i<below xs j->xs[i]?=some x->x<j)/\(∀i x,below xs j≤i->xs[i]?=some x->j≤x):=
 Dt hr xs.size 0 xs.size (by lia) (by lia) (by lia) (fun i _ h=>by lia) fun i x h e=>by
  have:=(aC.mp e).1;lia
theorem below_at{xs:Array Nat}{j i:Nat}(hr:xs.toList.Pairwise (· < ·))(e:xs[i]?=some j):below xs j=i:=by
 obtain⟨h0,h1,h2⟩:=zE (j:=j) hr;have hi:=(aC.mp e).1;by_cases hlt:i<below xs j
 ·exact absurd (h1 i j hlt e) (cf _)
 ·by_cases hgt:below xs j<i
  ·have hb:below xs j<xs.size:=by lia
   have eb:xs[below xs j]?=some xs[below xs j]:=by simp[hb]
   have q1:=h2 _ _ (Ω _) eb;have pw:=eK.mp hr (below xs j) i (by simpa using hb) (by simpa using hi) hgt;obtain⟨_,e1⟩:=aC.mp e;simp[e1] at pw;lia
  ·lia
end lL
namespace lL
open PySem PySem.SetTable
structure Tab(t:bh)(hs:List Int):Prop where
 mask:jC t.mask
 size:t.place.size=hs.length
 rise:t.place.toList.Pairwise (· < ·)
 bound:∀j∈t.place.toList,j≤t.mask
 lR:t.dummies = #[]
 room:hs.length*5<t.mask*3
 reach:∀j h,(j,h)∈t.place.toList.zip hs->∃k,(sq t.mask h k).j=j/\∀k',k' < k->(sq t.mask h k').j∈t.place.toList
theorem Kb{t:bh}{j i:Nat}(hr:t.place.toList.Pairwise (· < ·))(e:t.place[i]?=some j):t.slot j=.live i:=by
 unfold slot;dsimp only;rw[below_at hr e,e];simp
theorem SE{t:bh}{j:Nat}(hd:t.dummies = #[])(e:j∉t.place.toList):t.slot j=.empty:=by
 unfold slot;dsimp only;have h1:¬(t.place[below t.place j]?==some j)=true:=by
  intro h;have h':t.place[below t.place j]?=some j:=by simpa using h
  exact e (by
   rw[←aW] at h';exact bM h')
 rw[if_neg h1];have h2:has t.dummies j=false:=by
  rw[hd];rfl
 rw[h2];rfl
theorem Ds:∀(n:Nat) (L:List Nat),(∀e,e<n->e∈L)->n≤L.length
 |0,_,_=>aY _
 |n+1,L,h=>by
  have h1:=h n (iq n);have h2:=Ds n (L.erase n) fun e he=>(List.mem_erase_of_ne (by lia)).mpr (h e (by lia));have h3:=List.length_erase_of_mem h1;have h4:=List.length_pos_of_mem h1;lia
theorem Ka{t:bh}{hs:List Int}(T:Tab t hs)(h:Int):∃ke,ke≤10*t.mask+130/\(sq t.mask h ke).j∉t.place.toList/\∀k,k<ke->(sq t.mask h k).j∈t.place.toList:=by
 -- some slot is empty
 have hex:∃e,e≤t.mask/\e∉t.place.toList:=by
  refine aQ fun hn=>?_;have hall:∀e,e≤t.mask->e∈t.place.toList:=fun e he=>aQ fun q=>hn ⟨e,he,q⟩;have hl:=Ds (t.mask+1) t.place.toList fun e he=>hall e (by lia);have e1:t.place.toList.length=t.place.size:=by simp
  have:=T.size;have:=T.room;lia
 obtain⟨e,he,ne⟩:=hex;obtain⟨k,hk,ek⟩:=comes T.mask h he;have hP:∃k,(sq t.mask h k).j∉t.place.toList:=⟨k,by rw[ek];exact ne⟩
 -- the least one
 have least:∀n,(∃k,k≤n/\(sq t.mask h k).j∉t.place.toList)->∃ke,ke≤n/\(sq t.mask h ke).j∉t.place.toList/\∀k,k<ke->(sq t.mask h k).j∈t.place.toList:=by
  intro n
  induction n with
  |zero=>
   rintro⟨k,hk,q⟩;have:k=0:=by lia
   subst this;exact⟨0,Ω _,q,fun k hk=>by lia⟩
  |succ n ih=>
   rintro⟨k,hk,q⟩;by_cases hp:∃k,k≤n/\(sq t.mask h k).j∉t.place.toList
   ·obtain⟨ke,h1,h2,h3⟩:=ih hp;exact⟨ke,by lia,h2,h3⟩
   ·have hk':k=n+1:=by
     refine aQ fun z=>hp ⟨k,by lia,q⟩
    subst hk';exact⟨n+1,Ω _,q,fun k' hk'=>aQ fun z=>hp ⟨k',by lia,z⟩⟩
 obtain⟨ke,h1,h2,h3⟩:=least k ⟨k,Ω _,by rw[ek];exact ne⟩;exact⟨ke,by lia,h2,h3⟩
inductive Meets(t:bh)(hashAt:Nat->Int)(h:Int)(n ke:Nat):Met->Prop where
 |yk {k i:Nat} (h1:n≤k) (h2:k<ke) (h3:t.place[i]?=some (sq t.mask h k).j) (h4:hashAt i=h) (h5:∀k' i',n≤k'->k' < k->t.place[i']?=some (sq t.mask h k').j->hashAt i'≠h):
   Meets t hashAt h n ke (.candidate (sq t.mask h k).j i (sq t.mask h (k+1)))
 |free (h1:n≤ke) (h5:∀k' i',n≤k'->k' < ke->t.place[i']?=some (sq t.mask h k').j->hashAt i'≠h):Meets t hashAt h n ke (.empty (sq t.mask h ke).j none)
theorem J9{t:bh}{hashAt:Nat->Int}{h:Int}{ke:Nat}(hr:t.place.toList.Pairwise (· < ·))(hd:t.dummies = #[])(he:(sq t.mask h ke).j∉t.place.toList)(hl:∀k,k<ke->(sq t.mask h k).j∈t.place.toList):
  ∀(fuel n:Nat),n≤ke->ke-n<fuel->∃met,probe.go t hashAt h fuel (sq t.mask h n)=some met/\Meets t hashAt h n ke met
 |0,n,_,hf=>by lia
 |fuel+1,n,hn,hf=>by
  unfold probe.go;by_cases hlast:n=ke
  ·subst hlast;rw[SE hd he,Kf];exact⟨_,rfl,.free (Ω _) fun k' i' h1 h2=>by lia⟩
  ·have hmem:=hl n (by lia);obtain⟨i,hi⟩:=fX hmem;have hi':t.place[i]?=some (sq t.mask h n).j:=by rw[←aW];exact hi
   rw[Kb hr hi'];dsimp only;by_cases hh:hashAt i=h
   ·rw[if_pos (by simpa using hh)];exact⟨_,rfl,.yk (Ω _) (by lia) hi' hh fun k' i' h1 h2=>by lia⟩
   ·rw[if_neg (by simpa using hh)];obtain⟨met,e,m⟩:=J9 (hashAt:=hashAt) hr hd he hl fuel (n+1) (by lia) (by lia);refine⟨met,e,?_⟩;have one:∀i',t.place[i']?=some (sq t.mask h n).j->hashAt i'≠h:=fun i' e'=>by
     have e1:=below_at hr hi';have e2:=below_at hr e';have:i'=i:=by lia
     rw[this];exact hh
    cases m with
    |yk h1 h2 h3 h4 h5=>
     refine .yk (by lia) h2 h3 h4 fun k' i' q1 q2 q3=>?_;by_cases hk:k'=n
     ·subst hk;exact one i' q3
     ·exact h5 k' i' (by lia) q2 q3
    |free h1 h5=>
     refine .free (by lia) fun k' i' q1 q2 q3=>?_;by_cases hk:k'=n
     ·subst hk;exact one i' q3
     ·exact h5 k' i' (by lia) q2 q3
theorem J8{t:bh}{hs:List Int}(T:Tab t hs){hashAt:Nat->Int}{h:Int}{ke n:Nat}(hk:ke≤10*t.mask+130)(he:(sq t.mask h ke).j∉t.place.toList)(hl:∀k,k<ke->(sq t.mask h k).j∈t.place.toList)(hn:n≤ke):
  ∃met,t.probe hashAt h (sq t.mask h n)=some met/\Meets t hashAt h n ke met:=by
 unfold probe;exact J9 T.rise T.lR he hl _ n hn (by unfold turns;lia)
theorem pg{α:Type}(xs:Array α)(p:Nat)(x:α):(insertAt xs p x).toList=xs.toList.take p++x::xs.toList.drop p:=by
 unfold insertAt;have e:(xs.extract p xs.size).toList=xs.toList.drop p:=by
  rw[rG];simp[List.extract];exact fu (by simp)
 simp[rG,List.extract];exact fu (by simp)
theorem Jv{α β:Type}:∀(p:Nat) (xs:List α) (ys:List β) (x:α) (y:β),xs.length=ys.length->((xs.take p++x::xs.drop p).zip (ys.take p++y::ys.drop p)).Perm ((x,y)::xs.zip ys)
 |0,xs,ys,x,y,_=>by simp
 |p+1,[],ys,x,y,h=>by
  have:ys=[]:=jL.mp (by simpa using h.symm);subst this;simp
 |p+1,a::xs,[],x,y,h=>by simp at h
 |p+1,a::xs,b::ys,x,y,h=>by
  have ih:=Jv p xs ys x y (by simpa using h);simp only[List.take_succ_cons,List.drop_succ_cons,List.cons_append,jq];exact (List.Perm.cons (a,b) ih).trans (List.Perm.swap _ _ _)
theorem sk{α:Type}(p:Nat)(xs:List α)(x:α):(xs.take p++x::xs.drop p).Perm (x::xs):=by
 have:=List.perm_middle (a:=x) (l₁:=xs.take p) (l₂:=xs.drop p);rw[qr] at this;exact this
theorem Ju{t:bh}{j:Nat}(hd:t.dummies = #[]):t.put j=({ t with place:=insertAt t.place (below t.place j) j,dummies:=#[]},below t.place j):=by
 unfold put;dsimp only;have h2:has t.dummies j=false:=by
  rw[hd];rfl
 rw[h2];simp[hd]
structure pU(t:bh)(hs:List Int):Prop where
 mask:jC t.mask
 size:t.place.size=hs.length
 rise:t.place.toList.Pairwise (· < ·)
 bound:∀j∈t.place.toList,j≤t.mask
 lR:t.dummies = #[]
 Lk:hs.length≤t.mask
 reach:∀j h,(j,h)∈t.place.toList.zip hs->∃k,(sq t.mask h k).j=j/\∀k',k' < k->(sq t.mask h k').j∈t.place.toList
theorem Jt{m:Nat}(hm:jC m)(h:Int):∀k,(sq m h k).j≤m/\(sq m h k).j+(sq m h k).more≤m:=by
 have hrun:∀i,i≤m->runEnd m i≤m:=fun i hi=>by
  unfold runEnd;split<;>lia
 have hrs:∀q:Nat×Nat,q.1≤m->(rs m q).j≤m/\(rs m q).j+(rs m q).more≤m:=fun q hq=>by
  have:=hrun q.1 hq;have h2:q.1≤runEnd m q.1:=by unfold runEnd;split<;>lia
  show q.1≤m/\q.1+(runEnd m q.1-q.1)≤m;lia
 intro k
 induction k with
 |zero=>exact hrs _ (by show bits h%(m+1)≤m;have:bits h%(m+1)<m+1:=gE (bits h) (oh m);lia)
 |succ k ih=>
  show (sU m (sq m h k)).j≤m/\(sU m (sq m h k)).j+(sU m (sq m h k)).more≤m;unfold sU;by_cases hc:(sq m h k).more > 0
  ·rw[if_pos hc];show (sq m h k).j+1≤m/\(sq m h k).j+1+((sq m h k).more-1)≤m;lia
  ·rw[if_neg hc];have hlt:(leap m (sq m h k).i (sq m h k).perturb).1≤m:=by
    show ((sq m h k).i*5+1+(sq m h k).perturb / 32)%(m+1)≤m;have:((sq m h k).i*5+1+(sq m h k).perturb / 32)%(m+1)<m+1:=gE _ (oh m);lia
   exact hrs (leap m (sq m h k).i (sq m h k).perturb) hlt
theorem Tab.put{t:bh}{hs:List Int}(T:Tab t hs){h:Int}{ke:Nat}(he:(sq t.mask h ke).j∉t.place.toList)(hl:∀k,k<ke->(sq t.mask h k).j∈t.place.toList):
  pU { t with place:=insertAt t.place (below t.place (sq t.mask h ke).j) (sq t.mask h ke).j,dummies:=#[]} (hs.take (below t.place (sq t.mask h ke).j)++h::hs.drop (below t.place (sq t.mask h ke).j)):=by
 obtain⟨b0,b1,b2⟩:=zE (j:=(sq t.mask h ke).j) T.rise;have hlen:t.place.toList.length=hs.length:=by simpa using T.size
 have hmem:∀x,x∈(insertAt t.place (below t.place (sq t.mask h ke).j) (sq t.mask h ke).j).toList↔x=(sq t.mask h ke).j∨x∈t.place.toList:=fun x=>by
  rw[pg,(sk _ t.place.toList _).mem_iff,Φ]
 refine⟨T.mask,?_,?_,fun j hj=>?_,rfl,?_,fun j h' hj=>?_⟩
 ·show (insertAt t.place (below t.place (sq t.mask h ke).j) (sq t.mask h ke).j).size=_;have e1:(insertAt t.place (below t.place (sq t.mask h ke).j) (sq t.mask h ke).j).size=(insertAt t.place (below t.place (sq t.mask h ke).j) (sq t.mask h ke).j).toList.length:=by simp
  rw[e1,pg,(sk _ t.place.toList _).length_eq,(sk _ hs _).length_eq];simp only[aj];lia
 ·show (insertAt t.place (below t.place (sq t.mask h ke).j) (sq t.mask h ke).j).toList.Pairwise (· < ·);rw[pg];refine rD.mpr ⟨T.rise.sublist (jQ _ _),fy.mpr ⟨fun x hx=>?_,T.rise.sublist (List.drop_sublist _ _)⟩,fun a ha b hb=>?_⟩
  ·obtain⟨i,hi⟩:=fX hx;rw[tm] at hi;have q:=b2 (below t.place (sq t.mask h ke).j+i) x (by lia) (by rw[←aW];exact hi);have ne:x≠(sq t.mask h ke).j:=fun e=>he (e▸bM hi);lia
  ·obtain⟨i,hi⟩:=fX ha;have hil:i<below t.place (sq t.mask h ke).j:=by
    have:=(aN.mp hi).1;rw[ck] at this;lia
   rw[om hil] at hi;have qa:=b1 i a hil (by rw[←aW];exact hi);rcases Φ.mp hb with e|hb
   ·rw[e];exact qa
   ·obtain⟨i2,hi2⟩:=fX hb;rw[tm] at hi2;have q:=b2 (below t.place (sq t.mask h ke).j+i2) b (by lia) (by rw[←aW];exact hi2);lia
 ·rcases (hmem j).mp hj with e|e
  ·rw[e];exact (Jt T.mask h ke).1
  ·exact T.bound j e
 ·rw[(sk _ hs _).length_eq];have:=T.room;rcases T.mask with e|e|e<;>(simp only[aj];show _≤t.mask;lia)
 ·have hp:(j,h')∈(t.place.toList.take (below t.place (sq t.mask h ke).j)++(sq t.mask h ke).j::t.place.toList.drop (below t.place (sq t.mask h ke).j)).zip
    (hs.take (below t.place (sq t.mask h ke).j)++h::hs.drop (below t.place (sq t.mask h ke).j)):=by
   rw[←pg];exact hj
  rw[(Jv _ _ _ _ _ hlen).mem_iff] at hp;rcases Φ.mp hp with e|e
  ·cases e;exact⟨ke,rfl,fun k' hk'=>(hmem _).mpr (.inr (hl k' hk'))⟩
  ·obtain⟨k,e1,e2⟩:=T.reach j h' e;exact⟨k,e1,fun k' hk'=>(hmem _).mpr (.inr (e2 k' hk'))⟩
theorem pU.tab{t:bh}{hs:List Int}(T:pU t hs)(h:t.tooFull=false):Tab t hs:=by
 refine⟨T.mask,T.size,T.rise,T.bound,T.lR,?_,T.reach⟩;have h':¬(t.fill*5≥t.mask*3):=by simpa [tooFull] using h
 have e:t.fill=hs.length:=by
  unfold fill;rw[T.size,T.lR];rfl
 rw[e] at h';lia
end lL
namespace lL
open PySem PySem.SetTable
def Taken(ow:Array (Option Nat))(j:Nat):Prop:=∃k,ow[j]?=some (some k)
theorem Dr{ow:Array (Option Nat)}{j:Nat}(hj:j<ow.size):(ow.getD j (some 0)).isNone=true↔¬Taken ow j:=by
 have e:ow.getD j (some 0)=ow[j]:=by simp[ll,hj]
 rw[e];unfold Taken;rw[nq hj];cases ow[j] with
 |none=>simp
 |some k=>simp
theorem Js{m:Nat}(hm:jC m){h:Int}{ow:Array (Option Nat)}(hs:ow.size=m+1):∀(fuel r n:Nat),sq m h n=rs m (rn m h r)->(∀k,k<n->Taken ow (sq m h k).j) ->
  (∃r',r≤r'/\r' < r+fuel/\¬Taken ow (rn m h r').1)->∃ke,layClean.free m ow fuel (rn m h r).1 (rn m h r).2=some (sq m h ke).j/\¬Taken ow (sq m h ke).j/\∀k,k<ke->Taken ow (sq m h k).j
 |0,r,n,_,_,hx=>by
  obtain⟨r',h1,h2,_⟩:=hx;lia
 |fuel+1,r,n,hn,hk,hx=>by
  have hi:=Du m h r;have hre:runEnd m (rn m h r).1≤m:=by unfold runEnd;split<;>lia
  have hre2:(rn m h r).1≤runEnd m (rn m h r).1:=by unfold runEnd;split<;>lia
  have at_d:∀d,d≤runEnd m (rn m h r).1-(rn m h r).1->(sq m h (n+d)).j=(rn m h r).1+d:=fun d hd=>by
   rw[Dw m h n _ hn d hd]
  unfold layClean.free;cases hf:(ag (runEnd m (rn m h r).1+1-(rn m h r).1)).find? (fun k=>(ow.getD ((rn m h r).1+k) (some 0)).isNone) with
  |some k=>
   obtain⟨p1,p2,p3⟩:=oo.mp hf;have hkr:=aE.mp p2;refine⟨n+k,?_,?_,fun k' hk'=>?_⟩
   ·rw[at_d k (by lia)]
   ·rw[at_d k (by lia)];exact (Dr (by lia)).mp p1
   ·by_cases hlt:k' < n
    ·exact hk k' hlt
    ·obtain⟨d,rfl⟩:∃d,k'=n+d:=⟨k' - n,by lia⟩;rw[at_d d (by lia)];have q:=p3 d (by lia);refine aQ fun z=>?_;rw[(Dr (by lia)).mpr z] at q;cases q
  |none=>
   have hnone:=ju.mp hf;have occ:∀d,d≤runEnd m (rn m h r).1-(rn m h r).1->Taken ow ((rn m h r).1+d):=fun d hd=>
    aQ fun z=>hnone d (aE.mpr (by lia)) ((Dr (by lia)).mpr z)
   refine Js hm hs fuel (r+1) (n+(runEnd m (rn m h r).1-(rn m h r).1)+1) (Ke m h n _ hn) (fun k hk'=>?_) ?_
   ·by_cases hlt:k<n
    ·exact hk k hlt
    ·obtain⟨d,rfl⟩:∃d,k=n+d:=⟨k-n,by lia⟩;rw[at_d d (by lia)];exact occ d (by lia)
   ·obtain⟨r',h1,h2,h3⟩:=hx;refine⟨r',?_,by lia,h3⟩;have:r'≠r:=fun e=>h3 (by
     rw[e];have:=occ 0 (aY _);simpa using this)
    lia
structure ue(m:Nat)(ow:Array (Option Nat))(l:List Int):Prop where
 size:ow.size=m+1
 all:∀(k:Nat),k<l.length->∃j:Nat,ow[j]?=some (some k)
 one:∀(j j' k:Nat),ow[j]?=some (some k)->ow[j']?=some (some k)->j=j'
 reach:∀(j k:Nat),ow[j]?=some (some k)->∃h,l[k]?=some h/\∃n,(sq m h n).j=j/\∀n',n' < n->Taken ow (sq m h n').j
theorem ue.nil(m:Nat):ue m (Array.replicate (m+1) none) []:=by
 have hno:∀(j k:Nat),¬(Array.replicate (m+1) (none:Option Nat))[j]?=some (some k):=fun j k e=>by
  rw[Array.getElem?_replicate] at e;split at e<;>simp at e
 exact⟨by simp,fun k hk=>by simp at hk,fun j j' k e=>absurd e (hno j k),fun j k e=>absurd e (hno j k)⟩
theorem ue.room{m:Nat}{ow:Array (Option Nat)}{l:List Int}(O:ue m ow l)(hl:l.length≤m):∃e,e≤m/\¬Taken ow e:=by
 refine aQ fun hn=>?_;have hall:∀e,e≤m->Taken ow e:=fun e he=>aQ fun q=>hn ⟨e,he,q⟩;obtain⟨g,hg⟩:∃g:Nat->Nat,∀k,k<l.length->ow[g k]?=some (some k):=by
  refine⟨fun k=>if q:k<l.length then (O.all k q).choose else 0,fun k hk=>?_⟩;dsimp only;rw[dif_pos hk];exact (O.all k hk).choose_spec
 have hlen:=Ds (m+1) ((ag l.length).map g) fun e he=>by
  obtain⟨k,hk⟩:=hall e (by lia);obtain⟨h,e1,_⟩:=O.reach e k hk;have hkl:=(aN.mp e1).1;exact ah.mpr ⟨k,aE.mpr hkl,O.one _ _ k (hg k hkl) hk⟩
 simp at hlen;lia
theorem ue.add{m:Nat}(hm:jC m){ow:Array (Option Nat)}{l:List Int}{h:Int}(O:ue m ow l)(hl:l.length≤m):
  ∃j,layClean.free m ow (turns m) (bits h%(m+1)) (bits h)=some j/\ue m (ow.setIfInBounds j (some l.length)) (l++[h]):=by
 obtain⟨e,he,ne⟩:=O.room hl;obtain⟨n0,hn0,en0⟩:=BZ hm (Du m h 13) (show e<m+1 by lia);obtain⟨ke,h1,h2,h3⟩:=Js hm (h:=h) O.size (turns m) 0 0 rfl (fun k hk=>by lia) ⟨13+n0,by lia,by unfold turns;lia,by rw[Dv,en0];exact ne⟩;refine⟨(sq m h ke).j,h1,?_⟩;have hj:(sq m h ke).j<ow.size:=by
  have:=(Jt hm h ke).1;rw[O.size];lia
 have hget:∀j:Nat,(ow.setIfInBounds (sq m h ke).j (some l.length))[j]?=if (sq m h ke).j=j then some (some l.length) else ow[j]?:=fun j=>by
  rw[Array.getElem?_setIfInBounds];by_cases e:(sq m h ke).j=j
  ·rw[if_pos e,if_pos e,if_pos (by lia)]
  ·rw[if_neg e,if_neg e]
 have tk:∀j,Taken ow j->Taken (ow.setIfInBounds (sq m h ke).j (some l.length)) j:=fun j ⟨k,hk⟩=>by
  unfold Taken;rw[hget];by_cases e:(sq m h ke).j=j
  ·exact⟨_,if_pos e⟩
  ·exact⟨k,by rw[if_neg e];exact hk⟩
 have lt_of:∀j k:Nat,ow[j]?=some (some k)->k<l.length:=fun j k e=>by
  obtain⟨h',e1,_⟩:=O.reach j k e;exact (aN.mp e1).1
 refine⟨by rw[Array.size_setIfInBounds];exact O.size,fun k hk=>?_,fun j j' k q q'=>?_,fun j k q=>?_⟩
 ·rw[aF,g9] at hk;by_cases hkl:k<l.length
  ·obtain⟨j,hj'⟩:=O.all k hkl;refine⟨j,?_⟩;rw[hget,if_neg (fun e=>h2 ⟨k,by rw[e];exact hj'⟩)];exact hj'
  ·have:k=l.length:=by lia
   exact⟨(sq m h ke).j,by rw[hget,if_pos rfl,this]⟩
 ·rw[hget] at q q';by_cases e:(sq m h ke).j=j
  ·rw[if_pos e] at q;by_cases e':(sq m h ke).j=j'
   ·lia
   ·rw[if_neg e'] at q';cases q;exact absurd (lt_of _ _ q') (cf _)
  ·rw[if_neg e] at q;by_cases e':(sq m h ke).j=j'
   ·rw[if_pos e'] at q';cases q';exact absurd (lt_of _ _ q) (cf _)
   ·rw[if_neg e'] at q';exact O.one j j' k q q'
 ·rw[hget] at q;by_cases e:(sq m h ke).j=j
  ·rw[if_pos e] at q;cases q;exact⟨h,by simp,ke,e,fun n' hn'=>tk _ (h3 n' hn')⟩
  ·rw[if_neg e] at q;obtain⟨h',e1,n,e2,e3⟩:=O.reach j k q;exact⟨h',by rw[eL (lt_of j k q)];exact e1,n,e2,fun n' hn'=>tk _ (e3 n' hn')⟩
theorem Jr{m:Nat}(hm:jC m):∀(l' l:List Int) (ow:Array (Option Nat)),ue m ow l->l.length+l'.length≤m+1 ->
  ∃ow',(l'.foldl (fun (acc:Option (Array (Option Nat)×Nat)) h=>do
   let (owner,k) ←acc
   let j ←layClean.free m owner (turns m) (bits h%(m+1)) (bits h)
   pure (owner.setIfInBounds j (some k),k+1)) (some (ow,l.length)))=some (ow',(l++l').length)/\ue m ow' (l++l')
 |[],l,ow,O,_=>⟨ow,by simp,by simpa using O⟩
 |h::l',l,ow,O,hl=>by
  rw[aj] at hl
  obtain⟨j,e,O'⟩:=O.add hm (h:=h) (by lia)
  obtain⟨ow',e2,O2⟩:=Jr hm l' (l++[h]) _ O' (by simp;lia)
  refine⟨ow',?_,by simpa using O2⟩
  rw[List.foldl_cons]
  have hs:(do
   let (owner,k) ←(some (ow,l.length):Option (Array (Option Nat)×Nat))
   let j ←layClean.free m owner (turns m) (bits h%(m+1)) (bits h)
   pure (owner.setIfInBounds j (some k),k+1))=some (ow.setIfInBounds j (some l.length),(l++[h]).length):=by
   show (do
    let j ←layClean.free m ow (turns m) (bits h%(m+1)) (bits h)
    pure (ow.setIfInBounds j (some l.length),l.length+1))=_
   rw[e]
   simp
  rw[hs,e2]
  simp
theorem zD{α:Type}:∀l:List α,((ag l.length).filterMap fun k=>l[k]?)=l
 |[]=>rfl
 |a::l=>by
  rw[aj,gJ,jv (b:=a) (by simp),mo];have ih:=zD l;congr 1
theorem SD{α:Type}(xs:Array α):((ag xs.size).filterMap fun k=>xs[k]?)=xs.toList:=by
 have:=zD xs.toList;simpa using this
theorem Jq{m finger moves:Nat}{led plain:Bool}(hm:jC m)(hs:Array Int)(hl:hs.size*5<m*3):
  ∃t order,laid m finger moves led plain hs=some (t,order)/\t.mask=m/\t.led=led/\t.plain=plain/\t.finger=finger/\order.toList.Perm (ag hs.size)/\Tab t (order.toList.filterMap fun k=>hs[k]?):=by
 obtain⟨ow,e,O⟩:=Jr hm hs.toList [] _ (ue.nil m) (by simp;lia);rw[dU] at e O;have hlc:layClean m hs=some ow:=by
  unfold layClean;rw[←Array.foldl_toList];have e':=congrArg (rA fun x:Array (Option Nat)×Nat=>x.1) e;exact e'
 have hmem:∀j k,(j,k)∈((ag (m+1)).filterMap fun j=>(ow.getD j none).map (j,·))↔ow[j]?=some (some k):=fun j k=>by
  rw[ml];constructor
  ·rintro⟨a,ha,q⟩;have ha':=aE.mp ha;cases ho:ow.getD a none with
   |none=>rw[ho] at q;cases q
   |some k'=>
    rw[ho] at q;cases q;have:ow.getD j none=ow[j]'(by rw[O.size];exact ha'):=by simp[ll,O.size,ha']
    rw[this] at ho;rw[nq (by rw[O.size];exact ha'),ho]
  ·intro q;have hj:=(aC.mp q).1;rw[O.size] at hj;refine⟨j,aE.mpr hj,?_⟩;have:ow.getD j none=some k:=by
    rw[Array.getD_eq_getD_getElem?,q];rfl
   rw[this];rfl
 generalize hL:((ag (m+1)).filterMap fun j=>(ow.getD j none).map (j,·))=L at hmem;have rise:L.Pairwise fun a b=>a.1<b.1:=by
  rw[←hL];refine List.Pairwise.filterMap _ (fun a a' hlt b hb b' hb'=>?_) (jX (n:=m+1));cases ho:ow.getD a none with
  |none=>rw[ho] at hb;cases hb
  |some k=>
   rw[ho] at hb;cases hb;cases ho':ow.getD a' none with
   |none=>rw[ho'] at hb';cases hb'
   |some k'=>
    rw[ho'] at hb';cases hb';exact hlt
 have nd:(L.map (·.2)).Nodup:=by
  refine t6 _ (R:=fun a b=>a.2≠b.2) (fun _ _ z=>z) ?_;refine oq (fun {a b} ha hb hab=>?_) rise;intro q;obtain⟨j,k⟩:=a;obtain⟨j',k'⟩:=b;have ea:=(hmem j k).mp ha;have eb:=(hmem j' k').mp hb;have hab':j<j':=hab;have q':k=k':=q;subst q';have:=O.one j j' k ea eb;lia
 have hperm:(L.map (·.2)).Perm (ag hs.size):=by
  refine (List.perm_ext_iff_of_nodup nd List.nodup_range).mpr fun k=>?_;rw[ah,aE];constructor
  ·rintro⟨⟨j,k'⟩,hjk,rfl⟩;obtain⟨h,e1,_⟩:=O.reach j k' ((hmem j k').mp hjk);have:=(aN.mp e1).1;simpa using this
  ·intro hk;obtain⟨j,ej⟩:=O.all k (by simpa using hk);exact⟨(j,k),(hmem j k).mpr ej,rfl⟩
 -- the hashes in the slots' order
 have hzip:∀j h,(j,h)∈(L.map (·.1)).zip ((L.map (·.2)).filterMap fun k=>hs[k]?)->∃k,(j,k)∈L/\hs[k]?=some h:=by
  have hall:∀p∈L,∃h,hs[p.2]?=some h:=fun p hp=>by
   obtain⟨h,e1,_⟩:=O.reach p.1 p.2 ((hmem p.1 p.2).mp hp);exact⟨h,by rw[←aW];exact e1⟩
  clear hmem rise nd hperm hL
  induction L with
  |nil=>intro j h q;cases q
  |cons p L ih=>
   intro j h q;obtain⟨h0,e0⟩:=hall p Δ;rw[bP,bP,jv e0,jq] at q;rcases Φ.mp q with q|q
   ·cases q;exact⟨p.2,Δ,e0⟩
   ·obtain⟨k,q1,q2⟩:=ih (fun p hp=>hall p (ω _ hp)) j h q;exact⟨k,ω _ q1,q2⟩
 have hlenL:((L.map (·.2)).filterMap fun k=>hs[k]?).length=L.length:=by
  have h1:=(hperm.filterMap fun k=>hs[k]?).length_eq;rw[SD] at h1;have h3:=hperm.length_eq;rw[ν,e8] at h3;rw[h1,h3];simp
 refine⟨_,_,by unfold laid;rw[hlc];rfl,rfl,rfl,rfl,rfl,?_,?_⟩
 ·rw[hL];exact hperm
 ·rw[hL];have hlen:L.length=hs.size:=by
   have:=hperm.length_eq;simpa using this
  refine⟨hm,?_,?_,fun j hj=>?_,rfl,?_,fun j h hj=>?_⟩
  ·rw[hlenL];simp
  ·exact t6 _ (fun _ _ z=>z) rise
  ·obtain⟨⟨j',k⟩,hp,rfl⟩:=ah.mp hj;have:=(aC.mp ((hmem j' k).mp hp)).1;rw[O.size] at this;show j'≤m;lia
  ·rw[hlenL,hlen];exact hl
  ·obtain⟨k,q1,q2⟩:=hzip j h hj;obtain⟨h',e1,n,e2,e3⟩:=O.reach j k ((hmem j k).mp q1);have eh:h'=h:=by
    rw[aW,q2] at e1;exact (ao e1).symm
   subst eh;refine⟨n,e2,fun n' hn'=>?_⟩;obtain⟨k',hk'⟩:=e3 n' hn';exact ah.mpr ⟨(_,k'),(hmem _ k').mpr hk',rfl⟩
end lL
namespace fk
open PySem lL
section
variable {prog:Ψ} {w:af} {A:aq} {E:Value->ζ->Prop} {s:ζ}
abbrev hk(prog:Ψ)(w:af)(ks:List Int):Int:=tupleKeyHash (intKind prog w) ks
abbrev iw(prog:Ψ)(w:af)(h:Ξ)(ks:List Int)(a:ε):Prop:=IsTupleKey (intKind prog w) h ks a
def ent(prog:Ψ)(w:af)(p:List Int×ε):Int×Value:=(hk prog w p.1,.ref p.2)
structure lU(prog:Ψ)(w:af)(h:Ξ)(a:ε)(o:aA)(es:Array (Int×Value))(ep:Nat)(t:bh)(xs:List (List Int×ε)):Prop where
 at_:h.get? a=some o
 ex:o.ExactSet
 dat:o.data=.set es ep t
 ents:es.toList=xs.map (ent prog w)
 keys:∀p∈xs,iw prog w h p.1 p.2
 nd:(xs.map (·.1)).Nodup
 plain:t.plain=true
 led:t.led = !(w.params.followText "set-order")
structure ki(w:af)(h:Ξ)(a:ε)(o:aA)(es:Array (Int×Value))(ep:Nat)(t:bh):Prop where
 at_:h.get? a=some o
 ex:o.ExactSet
 dat:o.data=.set es ep t
 plain:t.plain=true
 led:t.led = !(w.params.followText "set-order")
theorem lU.wk{prog:Ψ}{w:af}{h:Ξ}{a:ε}{o:aA}{es:Array (Int×Value)}{ep:Nat}{t:bh}{xs:List (List Int×ε)}(S:lU prog w h a o es ep t xs):ki w h a o es ep t:=⟨S.at_,S.ex,S.dat,S.plain,S.led⟩
theorem vN{es:Array (Int×Value)}:(es.toList.map (·.1)).length=es.size:=by simp
theorem pf{es:Array (Int×Value)}{t:bh}(T:pU t (es.toList.map (·.1))):t.fits es.size=true:=by
 unfold bh.fits;have h1:=T.size;rw[vN] at h1;have h2:=T.Lk;rw[vN] at h2;have h3:t.fill=es.size:=by
  unfold bh.fill;rw[h1,T.lR];rfl
 rw[h3,h1];simp;exact h2
theorem Tab.r{t:bh}{hs:List Int}(T:Tab t hs):pU t hs:=by
 refine⟨T.mask,T.size,T.rise,T.bound,T.lR,?_,T.reach⟩;have:=T.room;lia
theorem SA{t:bh}(h:jC t.mask):t.gaveWay=false:=by
 unfold bh.gaveWay;rcases h with e|e|e<;>rw[e]<;>rfl
theorem Sz(n:Nat){v:Value}(h:carriedByValue v=true):ofAClassStatement n v=pure false:=by
 cases v with
 |ref a=>simp[carriedByValue] at h
 |_=>first|rfl|(cases n<;>rfl)
theorem Jp{ks:List Int}{a:ε}{Q:Bool->ζ->Prop}(hx:iw prog w s.heap ks a)(h:Q false s):μ (model prog w) A (ofAClassStatement 8 (.ref a)) Q E s:=by
 have hT:=hx.typeIs;obtain⟨o,items,n,ho,hc,hd,hi⟩:=hx;unfold ofAClassStatement;refine δ (gj hT ?_);dsimp only;rw[if_pos (by decide)];refine δ (θ ?_);rw[if_neg (by decide)];refine δ (dq ho hd ?_);dsimp only;refine δ ?_;rw[←tF];refine kj _ (fun rest r s'=>r.1=none/\s'=s/\∀v∈rest,carriedByValue v=true) _ ?_ ?_ _ _ ⟨rfl,rfl,hi.byValue⟩
 ·rintro v rest r s' ⟨hr,rfl,hall⟩;rw[Sz _ (hall v Δ)];refine δ (θ ?_);rw[if_neg ak];exact θ ⟨rfl,rfl,fun u hu'=>hall u (ω _ hu')⟩
 ·rintro⟨r1,r2⟩ s' ⟨hr,rfl,_⟩;simp only at hr;subst hr;exact θ h
theorem Sy{ks:List Int}{a:ε}{Q:Bool->ζ->Prop}(hx:iw prog w s.heap ks a)(l:List Value)(hl:∀v∈l,∃k y,v=.ref y/\iw prog w s.heap k y)(h:Q false s):
  μ (model prog w) A (searchCouldBeSeen (.ref a) l) Q E s:=by
 unfold searchCouldBeSeen;refine δ ?_;refine kj _ (fun rest r s'=>r.1=none/\s'=s/\∀v∈rest,∃k y,v=.ref y/\iw prog w s.heap k y) _ ?_ ?_ _ _ ⟨rfl,rfl,hl⟩
 ·rintro v rest r s' ⟨hr,rfl,hall⟩;obtain⟨k,y,rfl,hy⟩:=hall v Δ;have hrest:∀v∈rest,∃k y,v=Value.ref y/\iw prog w s'.heap k y:=fun v hv=>hall v (ω _ hv);dsimp only;by_cases hc:((a==y)||(carriedByValue (.ref a)&&carriedByValue (.ref y)))=true
  ·rw[if_pos hc];exact θ ⟨rfl,rfl,hrest⟩
  ·rw[if_neg hc];refine δ (wpAny_eqIsQuiet_tuple hx ?_);rw[if_neg (by decide)];refine δ (wpAny_eqIsQuiet_tuple hy ?_);rw[if_neg (by decide)];refine δ (Jp hx ?_);rw[if_neg ak];refine δ (Jp hy ?_);rw[if_neg ak];exact θ ⟨rfl,rfl,hrest⟩
 ·rintro⟨r1,r2⟩ s' ⟨hr,rfl,_⟩;simp only at hr;subst hr;exact θ h
theorem Sx{ks:List Int}{a:ε}{Q:Bool->ζ->Prop}(hx:iw prog w s.heap ks a)(h:Q true s):μ (model prog w) A (hashByValue 8 (.ref a)) Q E s:=by
 have hT:=hx.typeIs;obtain⟨o,items,n,ho,hc,hd,hi⟩:=hx;unfold hashByValue;refine δ (oV hT F.slot_tuple_hash.lookup ?_);dsimp only;refine δ (dq ho hd ?_);refine δ ?_;show μ _ _ (forIn items _ _) _ _ s;rw[←tF];refine kj _ (fun rest r s'=>r.1=none/\s'=s/\∃l,ItemsAre (intKind prog w) l rest) _ ?_ ?_ _ _ ⟨rfl,rfl,ks,hi⟩
 ·rintro v rest r s' ⟨hr,rfl,l,hl⟩;cases hl with
  |@cons k v' _ _ h1 h2=>
   obtain⟨tk,rfl⟩:=Value.isInt_shape (k:=k) h1;have e:hashByValue 7 (.int k tk)=pure true:=by rfl
   rw[e];refine δ (θ ?_);rw[if_neg (by decide)];exact θ ⟨rfl,rfl,_,h2⟩
 ·rintro⟨r1,r2⟩ s' ⟨hr,rfl,_⟩;simp only at hr;subst hr;exact θ h
theorem Sw{es:Array (Int×Value)}{xs:List (List Int×ε)}(he:es.toList=xs.map (ent prog w)){i:Nat}(hi:i<es.size):∃p,xs[i]?=some p/\es[i]?=some (ent prog w p):=by
 have hl:xs.length=es.size:=by
  have:=congrArg gK he;simpa using this.symm
 obtain⟨p,hp⟩:∃p,xs[i]?=some p:=⟨xs[i]'(by lia),aK (by lia)⟩;refine⟨p,hp,?_⟩;rw[←aW,he,aJ,hp];rfl
theorem Jo{a:ε}{o:aA}{es:Array (Int×Value)}{ep:Nat}{t:bh}{xs:List (List Int×ε)}(S:lU prog w s.heap a o es ep t xs)(T:Tab t (es.toList.map (·.1)))(hu:A.units<cLine)
  {ks:List Int} {x:ε} (hx:iw prog w s.heap ks x) {ke:Nat} (hke:ke≤10*t.mask+130) (hemp:(sq t.mask (hk prog w ks) ke).j∉t.place.toList) (hliv:∀k,k<ke->(sq t.mask (hk prog w ks) k).j∈t.place.toList)
  {Q:SetFound->ζ->Prop} (hin:ks∈xs.map (·.1)->Q (.there none) s) (hout:ks∉xs.map (·.1)->Q (.free (sq t.mask (hk prog w ks) ke).j false) s):
  ∀(fuel n:Nat) (stand:Option bh.Probe),stand.getD (t.probeStart (hk prog w ks))=sq t.mask (hk prog w ks) n->n≤ke->ke-n<fuel ->
   (∀(k' i':Nat) p,k' < n->t.place[i']?=some (sq t.mask (hk prog w ks) k').j->xs[i']?=some p->p.1≠ks) ->
   μ (model prog w) A (setSearchFrom a (.ref x) (hk prog w ks) true fuel stand) Q E s
 |0,n,stand,_,_,hf,_=>by lia
 |fuel+1,n,stand,hst,hn,hf,hprev=>by
  have hsz:t.place.size=es.size:=by
   have:=T.size
   rw[vN] at this
   exact this
  have hfit:=pf (Tab.r T)
  have hal:∀(i:Nat) (p:List Int×ε),xs[i]?=some p->((es[i]?).map fun z:Int×Value=>z.1).getD 0=hk prog w p.1:=fun i p hp=>by
   rw[←aW,S.ents,aJ,hp]
   rfl
  unfold setSearchFrom
  refine δ (cI S.at_ S.dat hfit ?_)
  dsimp only
  rw[SA T.mask,if_neg ak,hst]
  obtain⟨met,e,m⟩:=J8 T (hashAt:=fun i=>((es[i]?).map fun z:Int×Value=>z.1).getD 0) hke hemp hliv hn
  erw [e]
  dsimp only
  cases m with
  |free h1 h5=>
   dsimp only
   refine θ (hout fun hmem=>?_)
   obtain⟨p,hp,rfl⟩:=ah.mp hmem
   obtain⟨i,hi⟩:=fX hp
   have hil:i<es.size:=by
    have h1:=(aN.mp hi).1
    have h2:=congrArg gK S.ents
    simp at h2
    lia
   have hj:∃j,t.place[i]?=some j:=⟨t.place[i]'(by lia),by simp⟩
   obtain⟨j,hj⟩:=hj
   have hz:(j,hk prog w p.1)∈t.place.toList.zip (es.toList.map (·.1)):=by
    refine bM (i:=i) ?_
    rw[List.getElem?_zip_eq_some]
    refine⟨by rw[aW];exact hj,?_⟩
    rw[S.ents,cE,aJ,hi]
    rfl
   obtain⟨k,hk1,hk2⟩:=T.reach _ _ hz
   have hkke:k<ke:=by
    refine aQ fun z=>hemp ?_
    by_cases q:k=ke
    ·rw[←q,hk1]
     exact bM (by rw[aW];exact hj)
    ·exact hk2 ke (by lia)
   rw[←hk1] at hj
   by_cases hkn:k<n
   ·exact hprev k i p hkn hj hi rfl
   ·exact h5 k i (by lia) hkke hj (hal i p hi)
  |@yk k i h1 h2 h3 h4 h5=>
   dsimp only
   have hil:i<es.size:=by
    have:=(aC.mp h3).1
    lia
   obtain⟨p,hp,hesi⟩:=Sw S.ents hil
   have hyk:=S.keys p (bM hp)
   have hpk:p∈xs:=bM hp
   have go:μ (model prog w) A (do
     let some (_,y):=es[i]? | unsupported "internal:set-entry"
     let equal ←holding [y] (eqBool y (.ref x))
     let (es',_,t') ←setState a
     if true&&equal then return .there none
     let some same:=t'.sameMemory t.moves t.mask|unsupported "set.changed-during-lookup:is-the-new-block-at-the-old-address"
     let still ←match (if same then t'.slot (sq t.mask (hk prog w ks) k).j else .empty) with
      |.live i'=>match es'[i']? with
       |some (_,y')=>do pure (if ←isSame y' y then some i' else none)
       |none=>pure none
      |_=>pure none
     match still with
     |none=>rule "set.search.anew";setSearchFrom a (.ref x) (hk prog w ks) true fuel none
     | some i'=>if equal then return .there (some i') else setSearchFrom a (.ref x) (hk prog w ks) true fuel (some (sq t.mask (hk prog w ks) (k+1)))) Q E s:=by
    rw[hesi]
    dsimp only[ent]
    refine δ (aZ (wpAny_eqBool_tuple hu hyk hx ?_))
    refine δ (cI S.at_ S.dat hfit ?_)
    dsimp only
    by_cases heq:p.1=ks
    ·rw[decide_eq_true heq,if_pos (by decide)]
     exact θ (hin (ah.mpr ⟨p,hpk,heq⟩))
    ·rw[decide_eq_false heq,if_neg (by decide)]
     have hsm:t.sameMemory t.moves t.mask=some true:=by unfold bh.sameMemory;simp
     rw[hsm]
     dsimp only
     rw[if_pos rfl,Kb T.rise h3]
     dsimp only
     rw[hesi]
     dsimp only[ent]
     refine δ (wpAny_isSame_ref_self ?_)
     rw[if_pos rfl]
     refine δ (θ ?_)
     dsimp only
     rw[if_neg ak]
     refine Jo S T hu hx hke hemp hliv hin hout fuel (k+1) _ rfl (by lia) (by lia) fun k' i' p' hk' hpl hp'=>?_
     by_cases hkn:k' < n
     ·exact hprev k' i' p' hkn hpl hp'
     ·by_cases hkk:k'=k
      ·subst hkk
       have e1:=below_at T.rise h3
       have e2:=below_at T.rise hpl
       have:i'=i:=by lia
       subst this
       rw[hp] at hp'
       cases hp'
       exact heq
      ·intro he
       exact h5 k' i' (by lia) (by lia) hpl (by rw[hal i' p' hp',he])
   by_cases hled:t.led=true
   ·rw[hled]
    rw[if_neg (by decide)]
    exact go
   ·have hled':t.led=false:=by simpa using hled
    rw[hled']
    rw[if_pos (by decide)]
    refine δ (Sy hx _ (fun v hv=>?_) ?_)
    ·obtain⟨e0,he0,rfl⟩:=ah.mp hv
     have he1:e0∈es.toList:=by
      have:=fY.mp he0
      exact fY.mpr (Array.mem_filter.mp this).1
     rw[S.ents] at he1
     obtain⟨p0,hp0,rfl⟩:=ah.mp he1
     exact⟨p0.1,p0.2,rfl,S.keys p0 hp0⟩
    ·rw[if_neg ak]
     exact go
end
end fk
namespace fk
open PySem lL
section
variable {prog:Ψ} {w:af} {A:aq} {E:Value->ζ->Prop} {s:ζ}
def lT(prog:Ψ)(w:af)(h:Ξ)(a:ε)(xs:List (List Int×ε)):Prop:=
 ∃o es ep t,lU prog w h a o es ep t xs/\Tab t (es.toList.map (·.1))
theorem zC{h h':Ξ}{a y:ε}{ks:List Int}{o:aA}{es:Array (Int×Value)}{ep:Nat}{t:bh}(ho:h.get? a=some o)(hd:o.data=.set es ep t)(sb:dn a h h')(hy:iw prog w h ks y):iw prog w h' ks y:=by
 obtain⟨oy,items,n,hoy,hc,hdy,hi⟩:=hy;have ne:y≠a:=by
  intro e;subst e;rw[ho] at hoy;cases hoy;rw[hd] at hdy;cases hdy
 exact⟨oy,items,n,(sb.2 y ne).trans hoy,hc,hdy,hi⟩
theorem zB{h:Ξ}{a:ε}{o:aA}{es es':Array (Int×Value)}{ep:Nat}{t t':bh}(ho:h.get? a=some o)(hd:o.data=.set es ep t):
  (h.update a (fV es' t')).get? a=some { o with data:=.set es' (ep+1) t' }:=by
 have q:=bJ (fV es' t') ho (by rw[putSet_of es' t' hd];rfl);rw[putSet_of es' t' hd] at q;exact q
theorem Sv:∀n,n<8->5≤n->mj (fm n)=32:=by decide +kernel
theorem Su:∀n,n<32->19≤n->mj (fm n)=128:=by decide +kernel
theorem Jn{t:bh}{hs:List Int}(T:pU t hs)(hf:t.tooFull=true)(h64:hs.length≤64):∃m,mj (fm hs.length)=m+1/\jC m/\hs.length*5<m*3/\m+1≤128:=by
 have hfill:t.fill=hs.length:=by
  unfold bh.fill;rw[T.size,T.lR];rfl
 have h':hs.length*5≥t.mask*3:=by
  unfold bh.tooFull at hf;rw[hfill] at hf;simpa using hf
 have hfit:=T.Lk;rcases T.mask with e|e|e
 ·rw[e] at h' hfit;exact⟨31,Sv _ (by lia) (by lia),.inr (.inl rfl),by lia,by lia⟩
 ·rw[e] at h' hfit;exact⟨127,Su _ (by lia) (by lia),.inr (.inr rfl),by lia,by lia⟩
 ·rw[e] at h';lia
theorem Ss{α β:Type}(f:α->β)(l:List α)(o:List Nat):(o.filterMap fun k=>(l.map f)[k]?)=(o.filterMap fun k=>l[k]?).map f:=by
 rw[mm];congr 1;funext k;rw[aJ]
theorem Sr{a:ε}{o:aA}{es:Array (Int×Value)}{ep:Nat}{t:bh}{xs:List (List Int×ε)}(S:lU prog w s.heap a o es ep t xs)(T:pU t (es.toList.map (·.1)))(hf:t.tooFull=true)(h64:es.size≤64)
  {Q:Unit->ζ->Prop} (h:∀h' xs',dn a s.heap h'->lT prog w h' a xs'->xs'.Perm xs->Q () { s with heap:=h' }):
  μ (model prog w) A (setRelay a (fm es.size)) Q E s:=by
 have hsz:(es.toList.map (·.1)).length=es.size:=vN
 obtain⟨m,hm1,hm2,hm3,hm4⟩:=Jn T hf (by rw[hsz];exact h64)
 rw[hsz] at hm1 hm3
 unfold setRelay
 refine δ (cI S.at_ S.dat (pf T) ?_)
 dsimp only
 rw[hm1,if_neg (by rw[bI];lia)]
 obtain⟨t2,order,e2,em,el,ep2,ef,hperm,T2⟩:=Jq (finger:=t.finger) (moves:=t.movedTo m) (led:=t.led) (plain:=t.plain) hm2 (es.map (·.1)) (by simpa using hm3)
 have erel:t.relaid (es.map (·.1)) (fm es.size)=some (t2,order):=by
  unfold vt
  rw[hm1,Nat.add_sub_cancel]
  exact e2
 have hosz:(es.map (·.1)).size=es.size:=by simp
 rw[hosz] at hperm
 have hes2:(order.filterMap (es[·]?)).toList=(order.toList.filterMap fun k=>xs[k]?).map (ent prog w):=by
  rw[gM,←Ss,←S.ents]
  congr 1
  funext k
  rw[aW]
 have hxl:xs.length=es.size:=by
  have:=congrArg gK S.ents
  simpa using this.symm
 have hxp:(order.toList.filterMap fun k=>xs[k]?).Perm xs:=by
  have:=hperm.filterMap fun k=>xs[k]?
  rw[←hxl,zD] at this
  exact this
 have hsz2:(order.filterMap (es[·]?)).size=es.size:=by
  have:=congrArg gK hes2
  simp only[ν] at this
  rw[hxp.length_eq,hxl] at this
  rw[←bG]
  exact this
 refine δ ?_
 show μ _ _ (do
  let some (t,order):=t.relaid (es.map (·.1)) (fm es.size)|unsupported "internal:set-table-without-room"
  let es':=order.filterMap (es[·]?)
  if es'.size != es.size then unsupported "internal:set-table-lost-an-element"
  pure (es',t)) _ _ _
 rw[erel]
 dsimp only
 rw[hsz2,if_neg (by simp)]
 refine θ ?_
 dsimp only
 refine jP S.at_ S.dat ?_ (by rw[hsz2,bI];lia)
 have sb:=bK s.heap a (fV (order.filterMap (es[·]?)) t2)
 refine h _ _ sb ⟨_,_,_,_,⟨zB S.at_ S.dat,⟨S.ex.1,S.ex.2.1,S.ex.2.2⟩,rfl,hes2,fun p hp=>zC S.at_ S.dat sb (S.keys p (hxp.mem_iff.mp hp)),?_,ep2.trans S.plain,el.trans S.led⟩,?_⟩ hxp
 ·exact (hxp.map _).nodup_iff.mpr S.nd
 ·have eT:(order.filterMap (es[·]?)).toList.map (·.1)=order.toList.filterMap fun k=>(es.map (·.1))[k]?:=by
   rw[gM,mm]
   congr 1
   funext k
   simp
  rw[eT]
  exact T2
theorem Sq{a:ε}{xs:List (List Int×ε)}(S:lT prog w s.heap a xs)(h64:xs.length<64)(hu:A.units<cLine){ks:List Int}{x:ε}(hx:iw prog w s.heap ks x)
  {Q:Bool->ζ->Prop} (h:∀b h' tk xs',s.toks≤tk->dn a s.heap h'->lT prog w h' a xs'->(ks∈xs.map (·.1)->xs'.Perm xs)->(ks∉xs.map (·.1)->xs'.Perm ((ks,x)::xs))->Q b { s with heap:=h',toks:=tk }):
  μ (model prog w) A (setAdd a (.ref x)) Q E s:=by
 obtain⟨o,es,ep,t,S,T⟩:=S;have hxl:xs.length=es.size:=by
  have:=congrArg gK S.ents;simpa using this.symm
 unfold setAdd;refine aZ (δ (wpAny_pyHash_tuple hu hx ?_));unfold setAddHashed;refine aZ ?_;have lI:∀b h' xs',dn a s.heap h'->lT prog w h' a xs'->(ks∈xs.map (·.1)->xs'.Perm xs)->(ks∉xs.map (·.1)->xs'.Perm ((ks,x)::xs))->Q b { s with heap:=h',toks:=s.toks+(ks.length+1)}:=
  fun b h' xs' q1 q2 q3 q4=>h b h' _ xs' (gm _ _) q1 q2 q3 q4
 obtain⟨ke,hke,hemp,hliv⟩:=Ka T (hk prog w ks);unfold setAddHashedIn;refine δ (cI (s:={ s with toks:=s.toks+(ks.length+1)}) S.at_ S.dat (pf (Tab.r T)) ?_);dsimp only;rw[show byScan (.ref x) es=false from rfl,if_neg ak];refine δ ?_;unfold setSearch;refine Jo (s:={ s with toks:=s.toks+(ks.length+1)}) S T hu hx hke hemp hliv (fun hin=>?_) (fun hout=>?_) 100000 0 none rfl (aY _) (by rcases T.mask with e|e|e<;>rw[e] at hke<;>lia) fun k' i' p hk'=>absurd hk' (Nat.not_lt_zero _)
 ·dsimp only;exact θ (lI false s.heap xs (.refl _ _) ⟨o,es,ep,t,S,T⟩ (fun _=>.refl _) fun z=>absurd hin z)
 ·dsimp only;refine δ (cI (s:={ s with toks:=s.toks+(ks.length+1)}) S.at_ S.dat (pf (Tab.r T)) ?_);dsimp only;rw[Ju T.lR];dsimp only;rw[S.plain,if_pos rfl];refine δ (Sx (s:={ s with toks:=s.toks+(ks.length+1)}) hx ?_);rw[if_pos rfl];have TR:=T.put hemp hliv;generalize hp:cu t.place (sq t.mask (hk prog w ks) ke).j=p at TR ⊢;have hes1:(aI es p (hk prog w ks,Value.ref x)).toList=(xs.take p++(ks,x)::xs.drop p).map (ent prog w):=by
   rw[pg,S.ents,dg,bP,j7,j8];rfl
  have hhs:(aI es p (hk prog w ks,Value.ref x)).toList.map (·.1)=(es.toList.map (·.1)).take p++hk prog w ks::(es.toList.map (·.1)).drop p:=by
   rw[pg,dg,bP,j7,j8]
  have hsz1:(aI es p (hk prog w ks,Value.ref x)).size=es.size+1:=by
   rw[←bG,pg,(sk p es.toList _).length_eq,aj,bG]
  rw[←hhs] at TR;refine δ (jP (s:={ s with toks:=s.toks+(ks.length+1)}) S.at_ S.dat ?_ (by rw[hsz1,bI];lia));have sb:=bK s.heap a (fV (aI es p (hk prog w ks,Value.ref x)) { t with place:=aI t.place p (sq t.mask (hk prog w ks) ke).j,dummies:=#[],plain:=true });have hpx:(xs.take p++(ks,x)::xs.drop p).Perm ((ks,x)::xs):=sk p xs _;have S1:lU prog w (s.heap.update a (fV (aI es p (hk prog w ks,Value.ref x)) { t with place:=aI t.place p (sq t.mask (hk prog w ks) ke).j,dummies:=#[],plain:=true })) a { o with data:=.set (aI es p (hk prog w ks,Value.ref x)) (ep+1) { t with place:=aI t.place p (sq t.mask (hk prog w ks) ke).j,dummies:=#[],plain:=true }} (aI es p (hk prog w ks,Value.ref x)) (ep+1)
    { t with place:=aI t.place p (sq t.mask (hk prog w ks) ke).j,dummies:=#[],plain:=true } (xs.take p++(ks,x)::xs.drop p):=by
   refine⟨zB S.at_ S.dat,⟨S.ex.1,S.ex.2.1,S.ex.2.2⟩,rfl,hes1,fun q hq=>?_,?_,rfl,S.led⟩
   ·rcases Φ.mp (hpx.mem_iff.mp hq) with e|e
    ·rw[e];exact zC S.at_ S.dat sb hx
    ·exact zC S.at_ S.dat sb (S.keys q e)
   ·refine (hpx.map _).nodup_iff.mpr ?_;rw[bP,df];exact⟨hout,S.nd⟩
  have TR':pU { t with place:=aI t.place p (sq t.mask (hk prog w ks) ke).j,dummies:=#[],plain:=true } ((aI es p (hk prog w ks,Value.ref x)).toList.map (·.1)):=
   ⟨TR.mask,TR.size,TR.rise,TR.bound,TR.lR,TR.Lk,TR.reach⟩
  by_cases hfull:({ t with place:=aI t.place p (sq t.mask (hk prog w ks) ke).j,dummies:=#[],plain:=true }:bh).tooFull=true
  ·rw[hfull,if_pos (by decide)];refine δ ?_;rw[←hsz1];refine Sr (s:={ s with heap:=s.heap.update a _,toks:=s.toks+(ks.length+1)}) S1 TR' hfull (by rw[hsz1];lia) fun h' xs' sb' S2 pm=>?_;exact θ (lI true h' xs' (sb.trans sb') S2 (fun z=>absurd z hout) fun _=>pm.trans hpx)
  ·have hfull':({ t with place:=aI t.place p (sq t.mask (hk prog w ks) ke).j,dummies:=#[],plain:=true }:bh).tooFull=false:=by simpa using hfull
   rw[hfull',if_neg (by decide)];exact θ (lI true _ _ sb ⟨_,_,_,_,S1,TR'.tab hfull'⟩ (fun z=>absurd z hout) fun _=>hpx)
end
end fk
namespace fk
open PySem lL
theorem gw:Slot "set_iterator" "__next__" "set_iterator.__next__":=
 .of (owner:="set_iterator") (n:="__next__")
  (by rw[typeLookup_type,builtinLookup_eq_fast];kernel_rfl)
  (by decide +kernel) (by decide +kernel) (by decide +kernel)
  (by first|exact .inl (by decide +kernel)|exact .inr (by decide +kernel))
  (by rw[qo];kernel_rfl)
theorem Jm:Slot "set_iterator" "__iter__" "set_iterator.__iter__":=
 .of (owner:="set_iterator") (n:="__iter__")
  (by rw[typeLookup_type,builtinLookup_eq_fast];kernel_rfl)
  (by decide +kernel) (by decide +kernel) (by decide +kernel)
  (by first|exact .inl (by decide +kernel)|exact .inr (by decide +kernel))
  (by rw[qo];kernel_rfl)
theorem Jl:entryFor table "set_iterator.__next__" = some cM.«set_iterator.__next__»:=entryFor_of_tree (by kernel_rfl)
theorem Sn:entryFor table "set.__iter__" = some cM.«frozenset.__iter__»:=
 entryFor_alias (id':="frozenset.__iter__") (by rw[fastTable_eq_tree];kernel_rfl) (by decide +kernel) (by decide +kernel) (by rw[fastTable_eq_tree];kernel_rfl)
theorem Jk:Manifest.owners.lookup (String.ofList ['r','o','t','a','r','e','t','i','_','t','e','s'].reverse)=some Manifest.sig_set_iterator:=by kernel_rfl
theorem Jj(a:Value):argsOk "set_iterator.__next__" ⟨[a],[]⟩:=by
 unfold argsOk;rw[signature?_of (id:="set_iterator.__next__") (n:=['_','_','t','x','e','n','_','_']) (o:=['r','o','t','a','r','e','t','i','_','t','e','s']) (by kernel_rfl) Jk]
 kernel_rfl
theorem Ji{α:Type}(next:Nat->Nat):∀(fuel k:Nat) (left:List α) (out:Array α),left.length≤fuel->(pickOrder.go next fuel k left out).toList.Perm (out.toList++left)
 |0,k,left,out,h=>by
  have:left=[]:=jL.mp (by lia);subst this;show out.toList.Perm (out.toList++[]);rw[bw]
 |fuel+1,k,left,out,h=>by
  unfold pickOrder.go;cases hl:left[next k%left.length]? with
  |none=>
   have:left=[]:=by
    cases left with
    |nil=>rfl
    |cons a l=>
     have:=gE (next k) (show 0<(a::l).length by simp)
     rw[aK this] at hl;cases hl
   subst this;show out.toList.Perm (out.toList++[]);rw[bw]
  |some x=>
   have hlt:=(aN.mp hl).1;have ih:=Ji next fuel (k+1) (left.eraseIdx (next k%left.length)) (out.push x) (by rw[List.length_eraseIdx];split<;>lia)
   refine ih.trans ?_;rw[Array.toList_push,mR];refine List.Perm.append_left _ ?_;obtain⟨_,e⟩:=aN.mp hl;rw[←e,kA];have q:=List.perm_middle (a:=left[next k%left.length]) (l₁:=left.take (next k%left.length)) (l₂:=left.drop (next k%left.length+1))
   rw[List.getElem_cons_drop,qr] at q;exact q.symm
theorem Sm{α:Type}(next:Nat->Nat)(xs:Array α):(pickOrder next xs).toList.Perm xs.toList:=by
 have:=Ji next xs.size 0 xs.toList #[] (by simp)
 unfold pickOrder;simpa using this
def jd(w:af):Bool:=w.params.followText "set-order"
def ia(w:af)(a:ε)(ep:Nat)(es:Array (Int×Value)):List (Int×Value):=if jd w then (pickOrder (w.params.setOrder a ep) es).toList else es.toList
theorem kC(w:af)(a:ε)(ep:Nat)(es:Array (Int×Value)):(ia w a ep es).Perm es.toList:=by
 unfold ia;split
 ·exact Sm _ _
 ·exact .refl _
def lV(h:Ξ)(it a:ε)(slot i n ep:Nat):Prop:=h.get? it=some { cls:=.type "set_iterator",data:=.fields #[rawInt slot,rawInt i,.ref a,rawInt n,rawInt ep]}
def qf(w:af)(t:bh)(slot i:Nat):Prop:=jd w=true∨cu t.place slot=i
section
variable {prog:Ψ} {w:af} {A:aq} {E:Value->ζ->Prop} {s:ζ}
theorem Dq{Q:Bool->ζ->Prop}(h:Q (jd w) s):μ (model prog w) A setsByText Q E s:=by
 unfold setsByText;exact δ (nX (θ h))
theorem Sl{a:ε}{o:aA}{es:Array (Int×Value)}{ep:Nat}{t:bh}(S:ki w s.heap a o es ep t)(T:Tab t (es.toList.map (·.1)))
  {Q:Value->ζ->Prop} (h:Q (.ref s.heap.objs.size) { s with heap:=s.heap.push { cls:=.type "set_iterator",data:=.fields #[rawInt (0:Nat),rawInt (0:Nat),.ref a,rawInt es.size,rawInt ep]}}):
  μ (model prog w) A (pyIter (.ref a)) Q E s:=by
 have hT:s.TypeIs (.ref a) "set":=⟨o,S.at_,S.ex.1⟩;have hfit:=pf (Tab.r T);refine wpAny_pyIter_slot hT F.slot_set_iter (bL F.slot_set_iter hT Sn ?_ (F.args_set_iter_1 _));unfold cM.«frozenset.__iter__»;show μ _ _ (oF "__iter__" ⟨[.ref a],[]⟩ >>= _) _ _ s;refine δ (m:=oF "__iter__" ⟨[.ref a],[]⟩) (iz (a:=a) rfl ?_);unfold cM.Frozenset.sizeOf setEntries;refine δ (δ (δ (cI S.at_ S.dat hfit (θ (θ ?_)))));unfold setDrawn;refine δ (δ (cI S.at_ S.dat hfit ?_));refine δ (Dq (θ ?_));have hnd:(!jd w&&(!t.plain&&decide (es.size > 1)))=false:=by rw[S.plain];simp
 show μ _ _ (if (!jd w&&(!t.plain&&decide (es.size > 1)))=true then _ else _) _ _ s;rw[hnd,if_neg ak];refine δ (θ ?_);refine δ (wpAny_setEpoch_of S.at_ S.dat hfit ?_);refine δ ?_;unfold newFields;refine aR ?_;refine θ ⟨_,rfl,"set_iterator",_,⟨_,ψ _ rfl,rfl⟩,gw.lookup,h⟩
theorem Jh{a:ε}{o:aA}{es:Array (Int×Value)}{ep:Nat}{t:bh}(S:ki w s.heap a o es ep t)(T:Tab t (es.toList.map (·.1))){slot i:Nat}(hsl:qf w t slot i)
  {Q:Option (Value×Nat)->ζ->Prop} (h1:∀p slot',(ia w a ep es)[i]?=some p->qf w t slot' (i+1)->Q (some (p.2,slot')) s) (h2:(ia w a ep es)[i]?=none->Q none s):
  μ (model prog w) A (setNext a slot i ep) Q E s:=by
 have hfit:=pf (Tab.r T);have hsz:t.place.size=es.size:=by
  have:=T.size;rw[vN] at this;exact this
 unfold setNext;refine δ (cI S.at_ S.dat hfit ?_);dsimp only;refine δ (Dq ?_);unfold ia at h1 h2;cases hbt:jd w with
 |true=>
  rw[hbt] at h1 h2;rw[if_pos rfl];simp only[if_true,aW] at h1 h2;rw[if_neg (by simp)];unfold setWalk;refine δ (δ (cI S.at_ S.dat hfit ?_));dsimp only;refine δ (Dq ?_);rw[hbt,if_pos rfl];refine δ (nX (θ ?_));refine θ ?_;show Q (rA (fun e=>(e.snd,slot)) (pickOrder (w.params.setOrder a ep) es)[i]?) s;cases hp:(pickOrder (w.params.setOrder a ep) es)[i]? with
  |none=>exact h2 hp
  |some p=>exact h1 p slot hp (.inl hbt)
 |false=>
  rw[hbt] at h1 h2;rw[if_neg ak];simp only[fB,if_false,aW] at h1 h2;have hled:t.led=true:=by
   rw[S.led];show (!jd w)=true;rw[hbt];rfl
  have hb:cu t.place slot=i:=by
   rcases hsl with z|z
   ·rw[hbt] at z;cases z
   ·exact z
  have hnd:(!t.plain&&decide (es.size > 1))=false:=by rw[S.plain];simp
  show μ _ _ (if (!t.plain&&decide (es.size > 1))=true then _ else _) _ _ s;rw[hnd,if_neg ak];refine δ ?_;show μ _ _ (if (!t.led && !es.isEmpty)=true then _ else _) _ _ s;rw[hled,if_neg (by simp)];refine θ ?_;rw[hb];cases hp:es[i]? with
  |none=>
   refine θ ?_;have hpl:t.place[i]?=none:=by
    have:=iy.mp hp;exact iy.mpr (by lia)
   exact h2 hp
  |some p=>
   have hil:=(aC.mp hp).1;have hj:t.place[i]?=some (t.place[i]'(by lia)):=by simp[hsz,hil]
   rw[hj];obtain⟨ph,pv⟩:=p;refine θ (h1 (ph,pv) _ hp (.inr ?_))
   -- the next place
   obtain⟨b0,b1,b2⟩:=zE (j:=t.place[i]'(by lia)+1) T.rise;refine aQ fun cy=>?_;by_cases hlt:cu t.place (t.place[i]'(by lia)+1)≤i
   ·have:=b2 i _ hlt hj;lia
   ·have hgt:i+1<cu t.place (t.place[i]'(by lia)+1):=by lia
    have hi1:i+1<t.place.size:=by lia
    have e1:t.place[i+1]?=some (t.place[i+1]):=by simp[hi1]
    have q:=b1 (i+1) _ hgt e1;have pw:=eK.mp T.rise i (i+1) (by simp;lia) (by simpa using hi1) (iq i);simp at pw;lia
theorem Dp{it a:ε}{slot i n ep:Nat}(hit:lV s.heap it a slot i n ep):s.TypeIs (.ref it) "set_iterator":=⟨_,hit,rfl⟩
theorem Jg{a it:ε}{o:aA}{es:Array (Int×Value)}{ep:Nat}{t:bh}(S:ki w s.heap a o es ep t)(T:Tab t (es.toList.map (·.1))){slot i:Nat}(hit:lV s.heap it a slot i es.size ep)
  {P:PySem.Fin->ζ->Prop} (h:μ (model prog w) A (do
   match ←setNext a slot i ep with
   |some (x,next)=>
    setField (.ref it) 0 (rawInt next)
    setField (.ref it) 1 (rawInt ((i:Int)+1))
    ret x
   | none=>setField (.ref it) 2 .none;raiseNew (←newExc (.type "StopIteration") [])) P E s):
  μ (model prog w) A (cM.«set_iterator.__next__» ⟨[.ref it],[]⟩) P E s:=by
 have hfit:=pf (Tab.r T);unfold cM.«set_iterator.__next__»;refine δ (m:=slotArgs "__next__" 0 ⟨[.ref it],[]⟩) (iz (a:=(.ref it,[])) rfl ?_);refine δ (wpAny_fieldsOf hit rfl ?_);dsimp only[rawInt];unfold setEntries;refine δ (δ (cI S.at_ S.dat hfit (θ ?_)));rw[if_neg (by simp)];exact h
theorem Sj{a it:ε}{o:aA}{es:Array (Int×Value)}{ep:Nat}{t:bh}(S:ki w s.heap a o es ep t)(T:Tab t (es.toList.map (·.1))){slot i:Nat}(hsl:qf w t slot i)(hit:lV s.heap it a slot i es.size ep)
  {p:Int×Value} (hp:(ia w a ep es)[i]?=some p) {Q:Option Value->ζ->Prop}
  (h:∀h' slot',lV h' it a slot' (i+1) es.size ep->qf w t slot' (i+1)->dn it s.heap h'->Q (some p.2) { s with heap:=h' }):μ (model prog w) A (pyNext (.ref it)) Q E s:=by
 have hT:=Dp hit;unfold pyNext;refine δ (fJ (bC (name:=dm "__next__") hT gw
  (bL gw hT Jl (Jg S T hit (δ (Jh S T hsl (fun q slot' hq hs'=>?_) fun hn=>?_))) (Jj _))))
 ·rw[hp] at hq;cases hq;dsimp only;refine δ (dh hit (by simp) fun h1 e1 sb1=>?_);refine δ (dh (s:={ s with heap:=h1 }) e1 (by simp) fun h2 e2 sb2=>?_)
  refine θ ⟨_,rfl,θ (h h2 slot' ?_ hs' (sb1.trans sb2))⟩;unfold lV;rw[e2];rfl
 ·rw[hp] at hn;cases hn
theorem Si{a it:ε}{o:aA}{es:Array (Int×Value)}{ep:Nat}{t:bh}(hh:A.handled=none)(S:ki w s.heap a o es ep t)(T:Tab t (es.toList.map (·.1))){slot i:Nat}(hsl:qf w t slot i)(hit:lV s.heap it a slot i es.size ep)
  (hp:(ia w a ep es)[i]?=none) {Q:Option Value->ζ->Prop}
  (h:∀h',j4 it s.heap h'->Q none { s with heap:=h' }):μ (model prog w) A (pyNext (.ref it)) Q E s:=by
 have hT:=Dp hit;unfold pyNext;refine δ (fJ (bC (name:=dm "__next__") hT gw
  (bL gw hT Jl (Jg S T hit (δ (Jh S T hsl (fun q slot' hq hs'=>?_) fun hn=>?_))) (Jj _))))
 ·rw[hp] at hq;cases hq
 ·dsimp only;refine δ (dh hit (by simp) fun h1 e1 sb1=>?_);refine δ ?_;simp only[newExc,newTuple];refine δ (aR ?_ (by size_fits));refine δ (m:=firstArgMember _ _) (iz (a:=Value.none) (by first|rfl|(simp only[firstArgMember];rfl)) ?_)
  refine aR ?_ (by size_fits);simp only[raiseNew];refine δ (rM ?_);rw[show A.in1.handled=none from hh];refine δ (θ (pV ?_));refine δ (ij (T:="StopIteration") (b:=true) ⟨_,ψ _ rfl,rfl⟩ lO ?_);refine θ (h _ fun b ob hb e=>?_);exact η _ (η _ ((sb1.2 b hb).trans e))
end
end fk
namespace fk
open PySem lL
section
variable {prog:Ψ} {w:af} {A:aq} {E:Value->ζ->Prop} {s:ζ}
theorem lU.kept{h h':Ξ}{a:ε}{o:aA}{es:Array (Int×Value)}{ep:Nat}{t:bh}{xs:List (List Int×ε)}(S:lU prog w h a o es ep t xs)
  (k:∀b∈a::xs.map (·.2),∀ob,h.get? b=some ob->h'.get? b=some ob):lU prog w h' a o es ep t xs:=by
 refine⟨k a Δ _ S.at_,S.ex,S.dat,S.ents,fun p hp=>?_,S.nd,S.plain,S.led⟩;obtain⟨oy,items,n,ho,r⟩:=S.keys p hp;exact⟨oy,items,n,k _ (ω _ (ah.mpr ⟨p,hp,rfl⟩)) _ ho,r⟩
theorem ki.kept{h h':Ξ}{a:ε}{o:aA}{es:Array (Int×Value)}{ep:Nat}{t:bh}(S:ki w h a o es ep t)
  (k:∀b∈[a],∀ob,h.get? b=some ob->h'.get? b=some ob):ki w h' a o es ep t:=⟨k a Δ _ S.at_,S.ex,S.dat,S.plain,S.led⟩
theorem ki.KY{h:Ξ}{a it:ε}{o:aA}{es:Array (Int×Value)}{ep ep':Nat}{t:bh}{slot i n:Nat}{b:ε}(S:ki w h a o es ep t)(hit:lV h it b slot i n ep'):
  ∀c∈[a],c≠it:=fun c hc e=>by
 subst e;unfold lV at hit;rw[aP.mp hc,S.at_] at hit;cases hit;have:=S.dat;cases this
theorem Sh(hh:A.handled=none){a it:ε}{o:aA}{es:Array (Int×Value)}{ep:Nat}{t:bh}(T:Tab t (es.toList.map (·.1))):
  Walks prog w A it ([it,a]) [it] es.size (fun i v=>∃p,(ia w a ep es)[i]?=some p/\v=p.2)
   (fun i h=>∃slot,lV h it a slot i es.size ep/\qf w t slot i/\ki w h a o es ep t) where
 sub:=fun b hb=>by
  have:b=it:=by simpa using hb
  simp[this]
 frame:=fun i h h' ⟨slot,h1,h2,h3⟩ k=>⟨slot,k it Δ _ h1,h2,h3.kept fun b hb ob e=>k b (ω _ hb) ob e⟩
 item:=fun i s Q E hi ⟨slot,h1,h2,h3⟩ hQ=>by
  have hlen:(ia w a ep es).length=es.size:=by rw[(kC w a ep es).length_eq];simp
  have hp:(ia w a ep es)[i]?=some ((ia w a ep es)[i]'(by lia)):=aK (by lia);refine Sj h3 T h2 h1 hp fun h' slot' q1 q2 sb=>?_;refine hQ _ h' s.toks ⟨_,hp,rfl⟩ ⟨slot',q1,q2,h3.kept fun b hb ob e=>(sb.2 b (h3.KY h1 b hb)).trans e⟩ fun b ob hb e=>?_;exact (sb.2 b (by simpa using hb)).trans e
 done:=fun s Q E ⟨slot,h1,h2,h3⟩ hQ=>by
  have hlen:(ia w a ep es).length=es.size:=by rw[(kC w a ep es).length_eq];simp
  refine Si hh h3 T h2 h1 (cT.mpr (by lia)) fun h' q=>?_;exact hQ h' s.toks fun b ob hb e=>q b ob (by simpa using hb) e
 self:=fun i s Q E ⟨slot,h1,h2,h3⟩ h=>by
  have hT:=Dp h1;refine wpAny_pyIter_slot hT Jm (bL Jm hT (b:=cM.«dict_keyiterator.__iter__») ?_ ?_ ?_)
  ·exact entryFor_alias (id':="dict_keyiterator.__iter__") (by kernel_rfl) (by decide +kernel) (by decide +kernel) (by kernel_rfl)
  ·show μ _ _ (ret (.ref it)) _ _ s;exact θ ⟨_,rfl,"set_iterator",_,hT,gw.lookup,h⟩
  ·unfold argsOk;rw[signature?_of (id:="set_iterator.__iter__") (n:=['_','_','r','e','t','i','_','_']) (o:=['r','o','t','a','r','e','t','i','_','t','e','s']) (by kernel_rfl) Jk]
   kernel_rfl
theorem p8(hh:A.handled=none){a:ε}{o:aA}{es:Array (Int×Value)}{ep:Nat}{t:bh}(S:ki w s.heap a o es ep t)(T:Tab t (es.toList.map (·.1)))(h64:es.size≤64)
  {Q:List Value->ζ->Prop} (h:∀s',m8 [] (fun x y=>y=x) s s'->Q ((ia w a ep es).map (·.2)) s'):μ (model prog w) A (collect (.ref a)) Q E s:=by
 have hT:s.TypeIs (.ref a) "set":=⟨o,S.at_,S.ex.1⟩;have hal:a<s.heap.objs.size:=χ S.at_;unfold collect;refine δ (jD (cz F.entry_proto_collect ?_));rw[bU F.plain_proto_collect _];show μ _ A.in1 (newList [] >>= fun q=>again (.builtin "list.__iadd__" ⟨[q,.ref a],[]⟩)) _ _ s;refine δ (aR ?_);refine θ ⟨gy F.plain_list_iadd _,cz F.entry_list_iadd ?_⟩;rw[bU F.plain_list_iadd _];show μ _ A.in1 (hZ (.ref s.heap.objs.size) (.ref a) (.ref s.heap.objs.size)) _ _ _;unfold hZ;have S1:ki w (s.heap.push { cls:=.type "list",data:=.seq ([]:List Value).toArray }) a o es ep t:=S.kept fun b _ ob e=>η _ e;have hT1:mB { s with heap:=s.heap.push { cls:=.type "list",data:=.seq ([]:List Value).toArray }} (.ref a) "set":=⟨o,S1.at_,S.ex.1⟩;refine δ (gj hT1 ?_);have ne:s.heap.objs.size≠a:=fx hal;have e1:ou (.ref s.heap.objs.size) (.ref a)=false:=by simp[ou,ne]
 rw[if_neg (by rw[e1];decide)];refine δ (Sl (s:={ s with heap:=s.heap.push { cls:=.type "list",data:=.seq ([]:List Value).toArray }}) S1 T ?_);have S2:=S1.kept (h':=(s.heap.push { cls:=.type "list",data:=.seq ([]:List Value).toArray }).push { cls:=.type "set_iterator",data:=.fields #[rawInt (0:Nat),rawInt (0:Nat),.ref a,rawInt es.size,rawInt ep]}) fun b _ ob e=>η _ e;have hit:lV ((s.heap.push { cls:=.type "list",data:=.seq ([]:List Value).toArray }).push { cls:=.type "set_iterator",data:=.fields #[rawInt (0:Nat),rawInt (0:Nat),.ref a,rawInt es.size,rawInt ep]})
   (s.heap.push { cls:=.type "list",data:=.seq ([]:List Value).toArray }).objs.size a 0 0 es.size ep:=ψ _ rfl
 have hS0:((s.heap.push { cls:=.type "list",data:=.seq ([]:List Value).toArray }).push { cls:=.type "set_iterator",data:=.fields #[rawInt (0:Nat),rawInt (0:Nat),.ref a,rawInt es.size,rawInt ep]}).get? s.heap.objs.size
   = some { cls:=.type "list",data:=.seq ([]:List Value).toArray }:=η _ (ψ _ rfl)
 have keep0:∀b ob,s.heap.get? b=some ob->((s.heap.push { cls:=.type "list",data:=.seq ([]:List Value).toArray }).push { cls:=.type "set_iterator",data:=.fields #[rawInt (0:Nat),rawInt (0:Nat),.ref a,rawInt es.size,rawInt ep]}).get? b=some ob:=
  fun b ob e=>η _ (η _ e)
 have hI:(s.heap.push { cls:=.type "list",data:=.seq ([]:List Value).toArray }).objs.size=s.heap.objs.size+1:=de ..;generalize (s.heap.push { cls:=.type "list",data:=.seq ([]:List Value).toArray }).objs.size=it at hI hit ⊢;generalize ((s.heap.push { cls:=.type "list",data:=.seq ([]:List Value).toArray }).push { cls:=.type "set_iterator",data:=.fields #[rawInt (0:Nat),rawInt (0:Nat),.ref a,rawInt es.size,rawInt ep]})=hp at S2 hit hS0 keep0 ⊢;refine δ (aZ ?_);have hT2:mB { s with heap:=hp } (.ref a) "set":=⟨o,S2.at_,S.ex.1⟩;unfold cM.List.listLengthHint;refine δ (oV hT2 F.slot_set_len.lookup ?_);generalize mI:("set.__len__":String)=id0;dsimp only;rw[show splitId id0=some ("set","__len__") from by subst mI;decide +kernel];subst mI;dsimp only;refine δ (ij (b:=true) hT2 (by rw[qo];kernel_rfl) ?_)
 rw[if_neg (by decide)];show μ _ A.in1 (typeOf (.ref a) >>= _) _ _ _;refine δ (gj hT2 (θ ?_));show μ _ A.in1 (rule "list.extend.makes-room" >>= fun _=>cM.List.listTouch (.ref s.heap.objs.size) >>= fun _=>again (.builtin "list.extend.loop" ⟨[.ref s.heap.objs.size,.ref it,.ref s.heap.objs.size],[]⟩)) _ _ _;refine δ (fU (δ ?_));show μ _ A.in1 (updateSeq s.heap.objs.size (·.push .none) >>= fun _=>updateSeq s.heap.objs.size (·.pop)) _ _ _;refine δ (wpAny_updateSeq (s:={ s with heap:=hp }) hS0 rfl ?_);have q1:=bJ (bu (·.push Value.none)) hS0 rfl;refine wpAny_updateSeq (s:={ s with heap:=hp.update s.heap.objs.size (bu (·.push Value.none))}) q1 rfl ?_;have q2:=bJ (bu (·.pop)) q1 rfl;have oth:∀b ob,b≠s.heap.objs.size->hp.get? b=some ob->((hp.update s.heap.objs.size (bu (·.push Value.none))).update s.heap.objs.size (bu (·.pop))).get? b=some ob:=
  fun b ob hb e=>(bq _ _ (da hb)).trans ((bq _ _ (da hb)).trans e)
 have q3:∃c,((hp.update s.heap.objs.size (bu (·.push Value.none))).update s.heap.objs.size (bu (·.pop))).get? s.heap.objs.size=some { cls:=.type "list",dict:=none,data:=.seq #[] c,slots:=#[]}:=⟨_,q2⟩;clear q2;generalize (hp.update s.heap.objs.size (bu (·.push Value.none))).update s.heap.objs.size (bu (·.pop))=hp2 at q3 oth ⊢;obtain⟨c0,q2⟩:=q3;have hfp:∀b∈[it,a],b≠s.heap.objs.size:=fun b hb e=>by
  rcases Φ.mp hb with z|z
  ·lia
  ·have hlt:b<s.heap.objs.size:=by
    rw[aP.mp z];exact hal
   lia
 have W:=(Sh (prog:=prog) (w:=w) (A:=A.in1) (by simpa using hh) (it:=it) (a:=a) (o:=o) (ep:=ep) T).toS;refine θ ⟨gy F.plain_extend_loop _,codeAny_extend_loopS W (by rw[bI];lia) _ (fun hm=>hfp _ hm rfl) _ es.size 0 _ _ _ rfl (aY _) ?_ q2 (ItemsOf.nil _) fun s' acc' c' hm hS' hacc=>?_⟩
 ·refine⟨0,oth _ _ (hfp _ Δ) hit,?_,S2.kept fun b hb ob e=>oth b ob (hfp b (ω _ hb)) e⟩;by_cases hb:jd w=true
  ·exact .inl hb
  ·refine .inr ?_;obtain⟨b0,b1,b2⟩:=zE (j:=0) T.rise;refine aQ fun cy=>?_;have hpos:0<cu t.place 0:=by lia
   have h0:0<t.place.size:=by lia
   have:=b1 0 (t.place[0]) hpos (by simp[h0]);lia
 ·show μ _ A (load s.heap.objs.size >>= _) _ _ s';refine δ (wpAny_load hS' ?_);refine θ ?_;have hlen:(ia w a ep es).length=es.size:=by rw[(kC w a ep es).length_eq];simp
  have eacc:acc'.toList=(ia w a ep es).map (·.2):=by
   refine jS fun i=>?_;rw[aJ,aW];cases ha:acc'[i]? with
   |none=>
    have h1:=iy.mp ha;rw[hacc.1] at h1;rw[cT.mpr (by lia)];rfl
   |some v=>
    obtain⟨p,e1,e2⟩:=hacc.2 i v ha;rw[e1,e2];rfl
  show Q acc'.toList s';rw[eacc];refine h s' ⟨fun b ob _ e=>?_,hm.gens,hm.drawn,hm.os,?_⟩
  ·have hlt:=χ e;refine hm.heap b ob ?_ (oth b ob (av hlt) (keep0 b ob e));intro z;rcases Φ.mp z with z|z
   ·rw[z] at hlt;exact cf _ hlt
   ·have:b=it:=by simpa using z
    rw[this,hI] at hlt;exact cf _ (Nat.lt_of_succ_lt hlt)
  ·exact hm.toks
end
end fk
namespace fk
open PySem lL
section
variable {prog:Ψ} {w:af} {A:aq} {E:Value->ζ->Prop} {s:ζ}
def cS(w:af):aA:={ cls:=.type "set",dict:=none,data:=.set #[] 0 (.fresh 0 0 (!(jd w)))}
theorem Jf(a:Value){Q₁:Value->ζ->Prop}(h:Q₁ (.ref s.heap.objs.size) { s with heap:=s.heap.push (cS w)}):
  fF (model prog w) A (.call (.builtin "set.__new__") ⟨[.type "set",a],[]⟩) (wants Q₁ E) s:=by
 refine iR ?_;show μ _ A.in1 (checkBuiltinCall "set.__new__" ⟨[.type "set",a],[]⟩ >>= fun _=>again (.builtin "set.__new__" ⟨[.type "set",a],[]⟩)) _ _ s;refine δ (iz (F.newCall_set_1 a) (θ ⟨gy F.plain_set_new _,cz F.entry_set_new ?_⟩));rw[bU F.plain_set_new _];unfold cM.«set.__new__» cM.Frozenset.newClass;have hsub:=sub_set_self;obtain⟨hp,g,d,tk,os⟩:=s;dsimp only;wp_walk;refine nX (θ ?_);dsimp only;simp only[newObj];refine δ (wpAny_alloc (θ ?_));exact θ h
theorem Je(led:Bool):Tab (bh.fresh 0 0 led) []:=
 ⟨.inl rfl,rfl,t5,(fun j hj=>(nomatch hj)),rfl,(by show 0*5<7*3;decide),(fun j h hj=>(nomatch hj))⟩
structure vq(ps xs:List (List Int×ε)):Prop where
 sub:∀p∈xs,p∈ps
 all:∀p∈ps,p.1∈xs.map (·.1)
 len:xs.length≤ps.length
theorem vq.add{ps xs xs':List (List Int×ε)}{p:List Int×ε}(d:vq ps xs)(h1:p.1∈xs.map (·.1)->xs'.Perm xs)(h2:p.1∉xs.map (·.1)->xs'.Perm (p::xs)):vq (ps++[p]) xs':=by
 by_cases hm:p.1∈xs.map (·.1)
 ·have pm:=h1 hm;refine⟨fun q hq=>bT _ (d.sub q (pm.mem_iff.mp hq)),fun q hq=>?_,?_⟩
  ·rw[(pm.map _).mem_iff];rcases bp.mp hq with hq|hq
   ·exact d.all q hq
   ·have:q=p:=by simpa using hq
    rw[this];exact hm
  ·rw[pm.length_eq,aF];have:=d.len;lia
 ·have pm:=h2 hm;refine⟨fun q hq=>?_,fun q hq=>?_,?_⟩
  ·rcases Φ.mp (pm.mem_iff.mp hq) with e|e
   ·exact aV _ (by simp[e])
   ·exact bT _ (d.sub q e)
  ·rw[(pm.map _).mem_iff,bP];rcases bp.mp hq with hq|hq
   ·exact ω _ (d.all q hq)
   ·have:q=p:=by simpa using hq
    rw[this];exact Δ
  ·rw[pm.length_eq,aF,aj,g9];have:=d.len;lia
theorem Sg{I:ε}{fp:List ε}{n:Nat}{P:Nat->Value->Prop}{St:Nat->Ξ->Prop}(W:Walks prog w A.in1 I fp [I] n P St)(S:ε)(hSf:S∉fp)(ps:List (List Int×ε))(hps:ps.length=n)(hn:n≤60)
  (hu:A.in1.units<cLine) (D0:∀(i:Nat) v,P i v->∃p,ps[i]?=some p/\v=.ref p.2) (hpf:∀p∈ps,p.2≠I/\p.2≠S) {R:Result->ζ->Prop}:
  ∀(k i:Nat) (s:ζ) (xs:List (List Int×ε)),n-i=k->i≤n->St i s.heap->lT prog w s.heap S xs->vq (ps.take i) xs->(∀p∈ps,iw prog w s.heap p.1 p.2) ->
   (∀h' tk xs',(∀b ob,b≠S->b≠I->s.heap.get? b=some ob->h'.get? b=some ob)->lT prog w h' S xs'->vq ps xs'->R (.ok (.ret .none)) { s with heap:=h',toks:=tk }) ->
   fF (model prog w) A (.builtin "set.update.loop" ⟨[.ref S,.ref I],[]⟩) R s:=by
 have hSI:S≠I:=fun e=>hSf (W.sub _ (by rw[e];simp));have on_kept:∀{h h':Ξ} {xs:List (List Int×ε)},lT prog w h S xs->(∀p∈xs,p∈ps)->(∀b ob,b≠I->h.get? b=some ob->h'.get? b=some ob)->lT prog w h' S xs:=fun {h h' xs} ⟨o,es,ep,t,q,T⟩ sub kp=>
  ⟨o,es,ep,t,q.kept fun b hb ob e=>kp b ob (by
   rcases Φ.mp hb with z|z
   ·rw[z];exact hSI
   ·obtain⟨p,hp,rfl⟩:=ah.mp z;exact (hpf p (sub p hp)).1) e,T⟩
 intro k
 induction k with
 |zero=>
  intro i s xs hk hi hst hS hd hkeys hR;have hin:i=n:=by lia
  subst hin;refine cz dM ?_;rw[bU bX _];show μ _ A.in1 (pyNext (.ref I) >>= _) _ _ s;refine δ (W.done s _ _ hst fun h' tk kp=>?_);show μ _ A.in1 (ret Value.none) _ _ _;have hd':vq ps xs:=by
   rw[←hps,oj] at hd;exact hd
  exact θ (hR h' tk xs (fun b ob _ hb e=>kp b ob (by simpa using hb) e) (on_kept hS hd'.sub fun b ob hb e=>kp b ob (by simpa using hb) e) hd')
 |succ k ih=>
  intro i s xs hk hi hst hS hd hkeys hR;have hlt:i<n:=by lia
  refine cz dM ?_;rw[bU bX _];show μ _ A.in1 (pyNext (.ref I) >>= _) _ _ s;refine δ (W.item i s _ _ hlt hst fun v h1 tk1 hP hst1 kp1=>?_);obtain⟨p,hp,rfl⟩:=D0 i v hP;have hpm:p∈ps:=bM hp;have kp1':∀b ob,b≠I->s.heap.get? b=some ob->h1.get? b=some ob:=fun b ob hb e=>kp1 b ob (by simpa using hb) e;have key1:∀q∈ps,iw prog w h1 q.1 q.2:=fun q hq=>by
   obtain⟨oy,items,m,ho,r⟩:=hkeys q hq;exact⟨oy,items,m,kp1' _ _ (hpf q hq).1 ho,r⟩
  have sub0:∀q∈xs,q∈ps:=fun q hq=>fW (hd.sub q hq);have hS1:=on_kept hS sub0 kp1';show μ _ A.in1 (holding [Value.ref p.2] (setAdd S (.ref p.2)) >>= _) _ _ _;have hlen:xs.length<64:=by
   have h1:=hd.len;rw[ck] at h1;lia
  refine δ (aZ (Sq (s:={ s with heap:=h1,toks:=tk1 }) hS1 hlen hu (key1 p hpm) fun b h2 tk2 xs2 _ sb hS2 q1 q2=>?_));have hd2:vq (ps.take (i+1)) xs2:=by
   rw[List.take_add_one,hp];exact hd.add q1 q2
  obtain⟨oS,_,_,_,SS,_⟩:=hS1;refine θ ⟨gy bX _,ih (i+1) _ xs2 (by lia) hlt (W.frame _ _ _ hst1 fun c hc ob e=>(sb.2 c (fun z=>hSf (z▸hc))).trans e) hS2 hd2 (fun q hq=>zC SS.at_ SS.dat sb (key1 q hq)) fun h' tk xs' kp' a1 a2=>?_⟩;exact hR h' tk xs' (fun c ob c1 c2 e=>kp' c ob c1 c2 ((sb.2 c c1).trans (kp1' c ob c2 e))) a1 a2
set_option maxHeartbeats 6400000 in
theorem wm{l:ε}{vs:List Value}{ps:List (List Int×ε)}{Q:Value->ζ->Prop}(hh:A.handled=none)(hl:s.heap.IsList l vs.toArray)(hv:vs=ps.map fun p=>Value.ref p.2)(hk:∀p∈ps,iw prog w s.heap p.1 p.2)(hn:ps.length≤60)
  (hu:A.units+4<cLine)
  (h:∀h' tk xs,(∀b ob,s.heap.get? b=some ob->h'.get? b=some ob)->lT prog w h' s.heap.objs.size xs->vq ps xs->Q (.ref s.heap.objs.size) { s with heap:=h',toks:=tk }):
  μ (model prog w) A (call (.type "set") [.ref l]) Q E s:=by
 obtain⟨c,tl,hmro⟩:=F.called_set.mro;have hmade:=F.called_set.made;have hsub:=F.called_set.sub;refine eV (iR ?_);show μ _ _ (callAny (.type "set") _) _ _ _;refine θ ⟨jw _ (by decide +kernel),cz F.entry_type_call ?_⟩;rw[tH (weight_type_call_type "set" [.ref l] []) rfl];have h1:=F.called_set.notType;have h2:=F.called_set.canCreate;have hct:=F.typeCall_set_1 (.ref l)
 repeat (any_goals (first|assumption|wp_step))
 refine cZ (Jf (.ref l) (E:=E) (Q₁:=fun obj s₁=>obj=.ref s.heap.objs.size/\s₁={ s with heap:=s.heap.push (cS w)}) ⟨rfl,rfl⟩) fun r s₁ hr=>?_;cases r with
 |error e=>exact hr
 |ok fl=>
  cases fl with
  |ret obj=>
   obtain⟨rfl,rfl⟩:=hr;have hS:(s.heap.push (cS w)).get? s.heap.objs.size=some (cS w):=ψ _ rfl;have hT:mB { s with heap:=s.heap.push (cS w)} (.ref s.heap.objs.size) "set":=⟨_,hS,rfl⟩;have hli:=F.called_set.init.lookup;have hbi:=F.called_set.init.bind (.ref s.heap.objs.size)
   repeat (any_goals (first|assumption|wp_step))
   refine cZ (il (R:=wants (fun r s₂=>r=.none/\∃h' tk xs,s₂={ s with heap:=h',toks:=tk }/\(∀b ob,s.heap.get? b=some ob->h'.get? b=some ob)/\lT prog w h' s.heap.objs.size xs/\vq ps xs) E)
    F.called_set.init.plain F.entry_set_init (check_set_init_1 hT ?_)) fun r₂ s₂ hr₂=>?_
   ·obtain⟨ol,hol,hcl,nl,hdl⟩:=hl;obtain⟨ocls,odict,odata,oslots⟩:=ol;simp only at hcl hdl;subst hcl;subst hdl;have hol':(s.heap.push (cS w)).get? l=some { cls:=.type "list",dict:=odict,data:=.seq vs.toArray nl,slots:=oslots }:=η _ hol;have hsls:=F.sub_list_set;have hslf:=F.sub_list_frozenset;have cy:(Value.type "list" == Value.type "dict")=false:=by decide
    have hl1:(s.heap.push (cS w)).IsList l vs.toArray:=⟨_,hol',rfl,nl,rfl⟩;have hS2:(s.heap.push (cS w)).get? s.heap.objs.size=some { cls:=.type "set",dict:=none,data:=.set #[] 0 (.fresh 0 0 (!(jd w)))}:=hS;unfold cM.«set.__init__» noKeywords lP;generalize hPI:pyIter=PI;wp_walk;subst hPI;refine eZ hl1 ?_;refine δ (jD ?_);have hlS:l<s.heap.objs.size:=χ hol;have hh3:A.in1.in1.in1.handled=none:=by simp[hh]
    have hu3:A.in1.in1.in1.units<cLine:=by
     show A.units+1+1+1<cLine;lia
    have hsz:(s.heap.push (cS w)).objs.size=s.heap.objs.size+1:=de ..;have hneI:l≠(s.heap.push (cS w)).objs.size:=by
     rw[hsz];exact av (e7 hlS)
    have hSf:s.heap.objs.size∉[(s.heap.push (cS w)).objs.size,l]:=by
     rw[hsz];intro z;rcases Φ.mp z with z|z
     ·exact absurd z (av (iq _))
     ·have:s.heap.objs.size=l:=by simpa using z
      exact absurd this (fx hlS)
    have hlen:vs.toArray.size=ps.length:=by rw[hv];simp
    refine Sg (Walks.list hh3 _ l hneI vs.toArray) s.heap.objs.size hSf ps hlen.symm (by rw[hlen];exact hn) hu3 (fun i v e=>?_) (fun p hp=>?_) (vs.toArray.size-0) 0 _ [] rfl (aY _)
     ⟨⟨_,ψ _ rfl,rfl,rfl⟩,hl1.push _⟩ ?hS0 ⟨(fun p hp=>(nomatch hp)),(fun p hp=>by rw[List.take_zero] at hp;cases hp),aY _⟩ (fun p hp=>?_) ?hR
    case hS0=>
     refine⟨_,#[],0,_,⟨η _ hS2,⟨rfl,rfl,rfl⟩,rfl,rfl,(fun p hp=>(nomatch hp)),g8,rfl,rfl⟩,Je _⟩
    case hR=>
     intro h' tk xs q1 q2 q3;refine θ ?_;show μ _ _ (ret Value.none) _ _ _;refine θ ⟨rfl,h',tk,xs,rfl,fun b ob e=>?_,q2,q3⟩;have hb:=χ e;refine q1 b ob (av hb) ?_ (η _ (η _ e));rw[hsz];exact av (e7 hb)
    ·rw[hv,kz,aJ] at e;cases hp:ps[i]? with
     |none=>rw[hp] at e;cases e
     |some p=>rw[hp] at e;exact⟨p,rfl,(ao e).symm⟩
    ·obtain⟨oy,_,_,ho,_⟩:=hk p hp;have hb:=χ ho;rw[hsz];exact⟨av (e7 hb),av hb⟩
    ·obtain⟨oy,items,m,ho,r⟩:=hk p hp;exact⟨oy,items,m,η _ (η _ ho),r⟩
   ·cases r₂ with
    |error e=>exact hr₂
    |ok fl₂=>
     cases fl₂ with
     |ret r=>
      obtain⟨rfl,h',tk,xs,rfl,q1,q2,q3⟩:=hr₂
      repeat (any_goals (first|assumption|wp_step))
      exact h _ _ _ q1 q2 q3
     |_=>exact hr₂.elim
  |_=>exact hr.elim
end
end fk
namespace oQ
open PySem PySem.W PyProof.Rows fk Et
def lx:List Int->List Int->Bool
 |[],[]=>false
 |[],_::_=>true
 |_::_,[]=>false
 |x::xs,y::ys=>if x=y then lx xs ys else decide (x<y)
theorem Jd:∀{x y:List Int},lx x y=true->lx y x=false
 |[],[],h=>by cases h
 |[],_::_,_=>rfl
 |_::_,[],h=>by cases h
 |x::xs,y::ys,h=>by
  unfold lx at h ⊢;by_cases e:x=y
  ·rw[if_pos e] at h;rw[if_pos e.symm];exact Jd h
  ·rw[if_neg e] at h;rw[if_neg (da e)];have:=of_decide_eq_true h;exact decide_eq_false (by lia)
theorem Jc:∀{a b c:List Int},lx b a=false->lx c b=false->lx c a=false
 |[],b,[],_,_=>rfl
 |[],[],c::cs,_,h=>h
 |[],b::bs,c::cs,h,_=>rfl
 |a::as,[],c,h,_=>by cases h
 |a::as,b::bs,[],_,h=>by cases h
 |a::as,b::bs,c::cs,h1,h2=>by
  unfold lx at h1 h2 ⊢;by_cases e1:b=a
  ·rw[if_pos e1] at h1;by_cases e2:c=b
   ·rw[if_pos e2] at h2;rw[if_pos (e2.trans e1)];exact Jc h1 h2
   ·rw[if_neg e2] at h2;have:=of_decide_eq_false h2;by_cases e3:c=a
    ·lia
    ·rw[if_neg e3];exact decide_eq_false (by lia)
  ·rw[if_neg e1] at h1;have:=of_decide_eq_false h1;by_cases e2:c=b
   ·rw[if_neg (by lia)];exact decide_eq_false (by lia)
   ·rw[if_neg e2] at h2;have:=of_decide_eq_false h2;by_cases e3:c=a
    ·lia
    ·rw[if_neg e3];exact decide_eq_false (by lia)
section
variable {prog:Ψ} {w:af} {A:aq} {E:Value->ζ->Prop} {s:ζ}
theorem Sf{Q:Bool->ζ->Prop}:∀(xs ys:List Int) (us vs:List Value) (i:Nat) (fin:Bool),ItemsAre (intKind prog w) xs us->ItemsAre (intKind prog w) ys vs ->
  (fin=decide (us.length<vs.length)∨∃n m,fin=decide (n+us.length<n+vs.length)/\m=n)->Q (lx xs ys) s->KatLex prog w A true fin Q (us.zip vs) i s:=by
 intro xs
 induction xs with
 |nil=>
  intro ys us vs i fin h1 h2 hf h;cases h1;cases h2 with
  |nil=>
   have:fin=false:=by
    rcases hf with hf|⟨n,m,hf,_⟩<;>simp at hf<;>exact hf
   rw[this];exact kat_nil h
  |cons h3 h4=>
   have:fin=true:=by
    rcases hf with hf|⟨n,m,hf,_⟩<;>rw[hf]<;>simp
   rw[this];exact kat_nil h
 |cons x xs ih=>
  intro ys us vs i fin h1 h2 hf h;cases h1 with
  |cons h1 h1'=>
  cases h2 with
  |nil=>
   have:fin=false:=by
    rcases hf with hf|⟨n,m,hf,_⟩<;>rw[hf]<;>simp
   rw[this];exact kat_nil h
  |cons h3 h4=>
   obtain⟨t,rfl⟩:=Value.isInt_shape h1;obtain⟨t',rfl⟩:=Value.isInt_shape h3;refine kat_cons (wpAny_eqBool_int ?_);unfold lx at h;rename_i _ y ys _;by_cases e:x=y
   ·rw[if_pos e] at h;have:(x==y)=true:=by simpa using e
    rw[this];refine kat_yes (ih ys _ _ (i+1) fin h1' h4 (.inr ?_) h);rcases hf with hf|⟨n,m,hf,_⟩
    ·exact⟨1,1,by rw[hf];simp[Nat.add_comm],rfl⟩
    ·exact⟨n+1,n+1,by rw[hf];congr 1;simp only[aj];apply propext;lia,rfl⟩
   ·rw[if_neg e] at h;have:(x==y)=false:=by simpa using e
    rw[this];refine kat_no ?_;by_cases hi:i=0
    ·subst hi;exact oneLt_int h
    ·have hb:(true&&i==0)=false:=by simp[hi]
     rw[hb];exact kat_one _ _ (lt_int h)
theorem Se{Q:Bool->ζ->Prop}{x y:List Int}{a b:ε}(hx:iw prog w s.heap x a)(hy:iw prog w s.heap y b)(h:Q (lx x y) s):μ (model prog w) A (keyLt' (tuples' true) (.ref a) (.ref b)) Q E s:=by
 obtain⟨o,its,n,ho,_,hd,hi⟩:=hx;obtain⟨o',its',n',ho',_,hd',hi'⟩:=hy;exact kat_lt ho hd ho' hd' (Sf x y its.toList its'.toList 0 _ hi hi' (.inl (by simp)) h)
def uV{α:Type}(lt:α->α->Bool)(d:α)(ps:List α)(i j:Nat):Bool:=lt (ps.getD i d) (ps.getD j d)
structure yo{α:Type}(lt:α->α->Bool):Prop where
 yK:∀x y,lt x y=true->lt y x=false
 t9:∀x y z,lt y x=false->lt z y=false->lt z x=false
theorem Sd{α:Type}{lt:α->α->Bool}(O:yo lt)(d:α)(ps:List α)(n:Nat):Ord n (uV lt d ps):=⟨fun a b _ _ h=>O.yK _ _ h,fun a b c _ _ _ h1 h2=>O.t9 _ _ _ h1 h2⟩
abbrev K5(x y:List Int×ε):Bool:=lx x.1 y.1
abbrev fT(p:List Int×ε):Value:=.ref p.2
theorem Zb:yo K5:=⟨fun _ _ h=>Jd h,fun _ _ _ h1 h2=>Jc h1 h2⟩
def ZF(n:Nat)(lt:Nat->Nat->Bool)(i j:Nat)(C:Bool->ζ->Prop)(s:ζ):Prop:=i<n/\j<n/\C (lt i j) s
theorem conv{α:Type}{n:Nat}{lt:Nat->Nat->Bool}{κ:og}{vs:List Value}{Q:α->ζ->Prop}(ha:∀i j,i<n->j<n->∀C:Bool->ζ->Prop,C (lt i j) s->kx prog w A κ vs i j C s):
  ∀t:KasT α,t.kasWp (ZF n lt) Q s->t.kasWp (kx prog w A κ vs) Q s
 |.ret a,h=>h
 |.ask i j k,h=>by
  obtain⟨h1,h2,h3⟩:=h;exact ha i j h1 h2 _ (conv ha (k (lt i j)) h3)
theorem xB{α:Type}{f:α->Value}{d:α}{ps:List α}{i:Nat}(hi:i<ps.length):(ps.map f).getD i Value.none=f (ps.getD i d):=by
 simp[mn,hi]
theorem getD_mem{ps:List (List Int×ε)}{i:Nat}(hi:i<ps.length):ps.getD i ([],0)∈ps:=by
 simp[mn,hi]
theorem Sb{ps:List (List Int×ε)}(hk:∀p∈ps,iw prog w s.heap p.1 p.2):∀i j,i<ps.length->j<ps.length->∀C:Bool->ζ->Prop,C (uV K5 ([],0) ps i j) s->kx prog w A (tuples' true) (ps.map fT) i j C s:=fun i j hi hj C h=>by
 unfold kx;rw[xB (d:=([],0)) hi,xB (d:=([],0)) hj];exact Se (hk _ (getD_mem hi)) (hk _ (getD_mem hj)) h
theorem Jb{h:Ξ}:∀{ps:List (List Int×ε)},(∀p∈ps,iw prog w h p.1 p.2/\p.1≠[])->∃fs,KatTups h (ps.map fun p=>Value.ref p.2) fs/\fs.length=ps.length/\∀v∈fs,∃i t,v=.int i t
 |[],_=>⟨[],.nil,rfl,fun v hv=>nomatch hv⟩
 |p::ps,hk=>by
  obtain⟨fs,h1,h2,h3⟩:=Jb (ps:=ps) fun q hq=>hk q (ω _ hq);obtain⟨⟨o,its,n,ho,hc,hd,hi⟩,cy⟩:=hk p Δ;obtain⟨ks,a⟩:=p;cases ks with
  |nil=>exact absurd rfl cy
  |cons k ks=>
   obtain⟨its⟩:=its;cases hi with
   |cons h4 h5=>
    rename_i v vs;obtain⟨t,e⟩:=Value.isInt_shape h4;refine⟨v::fs,KatTups.cons ho hc hd (by simp) h1,by simp[h2],fun u hu=>?_⟩;rcases Φ.mp hu with q|q
    ·exact⟨k,t,q.trans e⟩
    ·exact h3 u q
theorem Sa{ps:List (List Int×ε)}(cy:ps≠[])(hk:∀p∈ps,iw prog w s.heap p.1 p.2/\p.1≠[]){Q:og->ζ->Prop}(h:Q (tuples' true) s):μ (model prog w) A (keyKind' (ps.map fT).toArray) Q E s:=by
 obtain⟨fs,h1,h2,h3⟩:=Jb hk;have hl:0<fs.length:=by
  rw[h2];exact rX.mpr cy
 refine kat_kind (T:=.type "int") h1 hl (fun v hv=>?_) rfl h;obtain⟨i,t,rfl⟩:=h3 v hv;exact .now
structure uK{α:Type}(lt:α->α->Bool)(ps qs:List α):Prop where
 perm:qs.Perm ps
 rise:qs.Pairwise fun x y=>lt y x=false
abbrev MY(ps qs:List (List Int×ε)):Prop:=uK K5 ps qs
theorem SV{α:Type}{lt:α->α->Bool}{d:α}{ps:List α}{p:Array Nat}(v:Va ps.length p)(S:So (uV lt d ps) p ps.length):uK lt ps (p.toList.map fun i=>ps.getD i d):=by
 refine⟨?_,?_⟩
 ·refine (v.perm.map _).trans ?_;have:(ag ps.length).map (fun i=>ps.getD i d)=ps:=by
   refine jS fun i=>?_;by_cases hi:i<ps.length
   ·simp[aJ,gs hi,mn,hi]
   ·rw[cT.mpr (by simpa using hi),cT.mpr (by lia)]
  rw[this]
 ·rw[cm,eK];intro i j hi hj hij;have hs:=v.size;have h1:i<ps.length:=by rw[←hs];simpa using hi
  have h2:j<ps.length:=by rw[←hs];simpa using hj
  have e1:p.toList[i]=g p i:=by
   have:=v.get h1;simp[g,ll,hs,h1]
  have e2:p.toList[j]=g p j:=by simp[g,ll,hs,h2]
  rw[e1,e2];exact S i j (lb hij) h2
theorem SU{α:Type}{f:α->Value}{d:α}{ps:List α}{p:Array Nat}(v:Va ps.length p):(p.toList.map fun i=>(ps.map f).getD i Value.none)=(p.toList.map fun i=>ps.getD i d).map f:=by
 rw[cE];refine fh fun i hi=>?_;have:i<ps.length:=by
  have:=v.perm.mem_iff.mp hi;simpa using this
 exact xB this
theorem SR{α:Type}{lt:α->α->Bool}{f:α->Value}{d:α}{κ:og}(O:yo lt){a:ε}{n:Nat}{ps:List α}{P:PySem.Fin->ζ->Prop}(ho:s.heap.get? a=some (seqObj "list" (ps.map f).toArray n))
  (hk:∀h',(∀b o,b≠a->s.heap.get? b=some o->h'.get? b=some o)->(∀(Q:og->ζ->Prop) (E':Value->ζ->Prop),Q κ { s with heap:=h' }->μ (model prog w) A (keyKind' (ps.map f).toArray) Q E' { s with heap:=h' }) ∧
   ∀i j,i<ps.length->j<ps.length->∀C:Bool->ζ->Prop,C (uV lt d ps i j) { s with heap:=h' }->kx prog w A κ (ps.map f) i j C { s with heap:=h' }) (h2:2≤ps.length) (h64:ps.length<64)
  (h:∀qs h' c,uK lt ps qs->h'.get? a=some (seqObj "list" (qs.map f).toArray c)->(∀b o,b≠a->s.heap.get? b=some o->h'.get? b=some o)->P (.done (.ret .none)) { s with heap:=h' }):
  μ (model prog w) A (cM.«list.sort» ⟨[.ref a],[]⟩) P E s:=by
 have ha:a<s.heap.objs.size:=χ ho;have s1:=bK s.heap a (bu fun _=>(#[]:Array Value));obtain⟨e1,ho1⟩:∃e1,(s.heap.update a (bu fun _=>(#[]:Array Value))).get? a=some (seqObj "list" #[] e1):=⟨_,kX ho fun _=>#[]⟩;generalize hvs:(ps.map f)=vs at ho;have hlen:vs.length=ps.length:=by rw[←hvs,ν]
 have hu3:∀b o,b≠a->s.heap.get? b=some o->(((s.heap.update a (bu fun _=>(#[]:Array Value))).push (seqObj "tuple" vs.toArray 0)).push (seqObj "list" #[] 0)).get? b=some o:=fun b o hb e=>
  η _ (η _ ((s1.2 b hb).trans e))
 have ho3:(((s.heap.update a (bu fun _=>(#[]:Array Value))).push (seqObj "tuple" vs.toArray 0)).push (seqObj "list" #[] 0)).get? a=some (seqObj "list" #[] e1):=η _ (η _ ho1);rw[list_sort_plain];refine δ (listItems_at ho rfl ?_);refine δ (mz ho rfl ?_ (by rw[υ,bI];lia) (aY _));refine δ (pY ho1 rfl ?_);refine δ (qm ?_ (by show vs.length≤_;rw[bI];lia));refine δ (rL ?_ (aY _));refine aZ ?_;show μ (model prog w) A _ P E { s with heap:=((s.heap.update a (bu fun _=>(#[]:Array Value))).push (seqObj "tuple" vs.toArray 0)).push (seqObj "list" #[] 0)};generalize ((s.heap.update a (bu fun _=>(#[]:Array Value))).push (seqObj "tuple" vs.toArray 0)).push (seqObj "list" #[] 0)=h3 at hu3 ho3 ⊢;obtain⟨hk1,hk2⟩:=hk h3 hu3;dsimp only;have hn2:¬vs.toArray.size<2:=by rw[υ];lia
 rw[if_neg hn2,if_neg hn2];refine δ ?_;rw[←hvs];refine hk1 _ _ ?_;have hsort:(kas_sort vs.length).kasWp (kx prog w A κ (ps.map f)) (fun p s'=>s'={ s with heap:=h3 }/\Va ps.length p/\So (uV lt d ps) p ps.length) { s with heap:=h3 }:=by
  refine conv (lt:=uV lt d ps) (n:=ps.length) hk2 _ ?_
  rw[hlen];exact Tz (Sd O d ps ps.length) (fun i j hi hj C s' hC=>⟨hi,hj,hC⟩) (by lia) fun p v S=>⟨rfl,v,S⟩
 have hsort:(kas_sort (ps.map f).length).kasWp (kx prog w A κ (ps.map f)) (fun p s'=>s'={ s with heap:=h3 }/\Va ps.length p/\So (uV lt d ps) p ps.length) { s with heap:=h3 }:=by
  rw[hlen] at hsort;rw[ν];exact hsort
 refine δ (cp (kat_run (Q:=fun st' s'=>∃p:Array Nat,p.size=(ps.map f).length/\arrOf st'=p.map (kas_item ((ps.map f).toArray.zip (ps.map f).toArray))/\failedOf st'=none/\s'={ s with heap:=h3 }/\Va ps.length p/\So (uV lt d ps) p ps.length)
  rfl (by rw[ν];exact h2) (by rw[ν];exact h64) (fun p' st' s' a1 a2 a3 a4=>⟨p',a1,a2,a3,a4⟩) hsort) ?_ fun _ _ e=>e)
 rintro⟨⟨⟩,st'⟩ s' ⟨p,hp,har,hf,rfl,va,so⟩;dsimp only;have hout:=kat_snds rfl har;rw[SU va] at hout;have hS:=SV va so;generalize (p.toList.map fun i=>ps.getD i d)=qs at hout hS;have hsz:(jr (qs.map f)).size=ps.length:=by rw[υ,ν,hS.perm.length_eq]
 rw[hout];have s2:=bK h3 a (bu fun _=>jr (qs.map f));obtain⟨c2,hc2⟩:∃c2,(h3.update a (bu fun _=>jr (qs.map f))).get? a=some (seqObj "list" (jr (qs.map f)) c2):=⟨_,kX ho3 fun _=>jr (qs.map f)⟩;refine δ (pY ho3 rfl ?_);refine δ (mz ho3 rfl ?_ (aY _) (aG (Nat.le_of_eq hsz) (by rw[bI];lia)));rw[hf];simp only[bne_self_eq_false,fB,if_false];exact θ (h qs _ c2 hS hc2 fun b o hb e=>(s2.2 b hb).trans (hu3 b o hb e))
theorem SQ{a:ε}{n:Nat}{vs:List Value}{P:PySem.Fin->ζ->Prop}(ho:s.heap.get? a=some (seqObj "list" vs.toArray n))(h2:vs.length<2)
  (h:∀h' c,h'.get? a=some (seqObj "list" vs.toArray c)->(∀b o,b≠a->s.heap.get? b=some o->h'.get? b=some o)->P (.done (.ret .none)) { s with heap:=h' }):
  μ (model prog w) A (cM.«list.sort» ⟨[.ref a],[]⟩) P E s:=by
 have s1:=bK s.heap a (bu fun _=>(#[]:Array Value));obtain⟨e1,ho1⟩:∃e1,(s.heap.update a (bu fun _=>(#[]:Array Value))).get? a=some (seqObj "list" #[] e1):=⟨_,kX ho fun _=>#[]⟩;have hu3:∀b o,b≠a->s.heap.get? b=some o->(((s.heap.update a (bu fun _=>(#[]:Array Value))).push (seqObj "tuple" vs.toArray 0)).push (seqObj "list" #[] 0)).get? b=some o:=fun b o hb e=>
  η _ (η _ ((s1.2 b hb).trans e))
 have ho3:(((s.heap.update a (bu fun _=>(#[]:Array Value))).push (seqObj "tuple" vs.toArray 0)).push (seqObj "list" #[] 0)).get? a=some (seqObj "list" #[] e1):=η _ (η _ ho1);rw[list_sort_plain];refine δ (listItems_at ho rfl ?_);refine δ (mz ho rfl ?_ (by rw[υ,bI];lia) (aY _));refine δ (pY ho1 rfl ?_);refine δ (qm ?_ (by show vs.length≤_;rw[bI];lia));refine δ (rL ?_ (aY _));refine aZ ?_;show μ (model prog w) A _ P E { s with heap:=((s.heap.update a (bu fun _=>(#[]:Array Value))).push (seqObj "tuple" vs.toArray 0)).push (seqObj "list" #[] 0)};generalize ((s.heap.update a (bu fun _=>(#[]:Array Value))).push (seqObj "tuple" vs.toArray 0)).push (seqObj "list" #[] 0)=h3 at hu3 ho3 ⊢;dsimp only;have hn2:vs.toArray.size<2:=by rw[υ];lia
 rw[if_pos hn2,if_pos hn2];refine δ (θ ?_);rw[StateT.run_pure];refine δ (θ ?_);dsimp only;have hout:(arrOf (SortSt.mk' general' (vs.toArray.zip vs.toArray) #[] 7 none)).map (·.2)=vs.toArray:=by
  show (vs.toArray.zip vs.toArray).map (·.2)=vs.toArray;refine Array.ext (by simp) fun i h1 h2=>?_;simp
 rw[hout];have s2:=bK h3 a (bu fun _=>vs.toArray);obtain⟨c2,hc2⟩:∃c2,(h3.update a (bu fun _=>vs.toArray)).get? a=some (seqObj "list" vs.toArray c2):=⟨_,kX ho3 fun _=>vs.toArray⟩;refine δ (pY ho3 rfl ?_);refine δ (mz ho3 rfl ?_ (aY _) (by rw[υ,bI];lia));simp only[bne_self_eq_false,fB,if_false];exact θ (h _ c2 hc2 fun b o hb e=>(s2.2 b hb).trans (hu3 b o hb e))
theorem SO{h h':Ξ}{ks:List Int}{a:ε}(keep:∀c o,h.get? c=some o->h'.get? c=some o)(hk:iw prog w h ks a):iw prog w h' ks a:=by
 obtain⟨o,it,m,ho,r⟩:=hk;exact⟨o,it,m,keep a o ho,r⟩
theorem Ja{α:Type}{lt:α->α->Bool}{f:α->Value}{d:α}{κ:og}(O:yo lt){l:ε}{ps:List α}{Q:Value->ζ->Prop}
  (hk:∀s':ζ,2≤ps.length->(∀b o,s.heap.get? b=some o->s'.heap.get? b=some o)->(∀(Q:og->ζ->Prop) (E':Value->ζ->Prop),Q κ s'->μ (model prog w) A.in1.in1 (keyKind' (ps.map f).toArray) Q E' s') ∧
   ∀i j,i<ps.length->j<ps.length->∀C:Bool->ζ->Prop,C (uV lt d ps i j) s'->kx prog w A.in1.in1 κ (ps.map f) i j C s') (h64:ps.length<64)
  (ye:∀(R:List Value->ζ->Prop),(∀s',m8 [] (fun x y=>y=x) s s'->R (ps.map f) s')->μ (model prog w) A.in1 (collect (.ref l)) R E s)
  (h:∀qs s' c D,uK lt ps qs->s.heap.get? D=none->s'.heap.get? D=some (seqObj "list" (qs.map f).toArray c)->m8 [] (fun x y=>y=x) s s'->Q (.ref D) s'):
  μ (model prog w) A (call (.builtin "sorted") [.ref l]) Q E s:=by
 refine nh kind_sorted plain_sorted entry_sorted (args_sorted1 _) ?_;unfold cM.«sorted»;refine δ (m:=checkCount "sorted" 1 1 _) (θ ?_);refine δ (ye _ fun s1 hm=>?_);refine δ (rL ?_ (by rw[ν,bI];lia));have hoL:(s1.heap.push (seqObj "list" (ps.map f).toArray 0)).get? s1.heap.objs.size=some (seqObj "list" (ps.map f).toArray 0):=ψ _ rfl;have keep0:∀b o,s.heap.get? b=some o->s1.heap.get? b=some o:=fun b o e=>hm.heap b o (fun z=>nomatch z) e;have kO:s.heap.get? s1.heap.objs.size=none:=by
  cases hz:s.heap.get? s1.heap.objs.size with
  |none=>rfl
  |some o=>exact absurd (χ (keep0 _ _ hz)) (cf _)
 have keep:∀b o,s.heap.get? b=some o->(s1.heap.push (seqObj "list" (ps.map f).toArray 0)).get? b=some o:=fun b o e=>η _ (keep0 b o e);show μ _ _ _ _ _ { s1 with heap:=s1.heap.push (seqObj "list" (ps.map f).toArray 0)};refine δ (aZ (bL slot_list_sort ⟨_,hoL,rfl⟩ entry_list_sort ?body (args_list_sort _)));have fin:∀qs h' c,uK lt ps qs->h'.get? s1.heap.objs.size=some (seqObj "list" (qs.map f).toArray c)->(∀b o,b≠s1.heap.objs.size->(s1.heap.push (seqObj "list" (ps.map f).toArray 0)).get? b=some o->h'.get? b=some o)->Q (.ref s1.heap.objs.size) { s1 with heap:=h' }:=fun qs h' c hS e kk=>
  h qs _ c _ hS kO e ⟨fun b o _ e1=>kk b o (av (χ (keep0 b o e1))) (keep b o e1),hm.gens,hm.drawn,hm.os,hm.toks⟩
 case body=>
  by_cases h2:2≤ps.length
  ·refine SR O (s:={ s1 with heap:=s1.heap.push (seqObj "list" (ps.map f).toArray 0)}) hoL (fun h' kk=>hk { s1 with heap:=h' } h2 fun b o e=>kk b o (av (χ (keep0 b o e))) (keep b o e)) h2 h64 fun qs h' c hS e kk=>?_;exact⟨_,rfl,θ ⟨_,rfl,fin qs h' c hS e kk⟩⟩
  ·refine SQ (s:={ s1 with heap:=s1.heap.push (seqObj "list" (ps.map f).toArray 0)}) hoL (by rw[ν];lia) fun h' c e kk=>?_;have hS:uK lt ps ps:=⟨.refl _,by
    rcases ps with _|⟨x,_|⟨y,r⟩⟩
    ·exact .nil
    ·exact jK _ _
    ·simp at h2⟩
   exact⟨_,rfl,θ ⟨_,rfl,fin ps h' c hS e kk⟩⟩
theorem v9{l:ε}{ps:List (List Int×ε)}{Q:Value->ζ->Prop}(hk:∀p∈ps,iw prog w s.heap p.1 p.2/\p.1≠[])(h64:ps.length<64)
  (ye:∀(R:List Value->ζ->Prop),(∀s',m8 [] (fun x y=>y=x) s s'->R (ps.map fT) s')->μ (model prog w) A.in1 (collect (.ref l)) R E s)
  (h:∀qs s' c D,MY ps qs->s.heap.get? D=none->s'.heap.get? D=some (seqObj "list" (qs.map fT).toArray c)->m8 [] (fun x y=>y=x) s s'->Q (.ref D) s'):
  μ (model prog w) A (call (.builtin "sorted") [.ref l]) Q E s:=by
 refine Ja (κ:=tuples' true) (d:=([],0)) Zb (fun s' h2 kk=>?_) h64 ye h;have hk':∀p∈ps,iw prog w s'.heap p.1 p.2/\p.1≠[]:=fun p hp=>⟨SO kk (hk p hp).1,(hk p hp).2⟩;exact⟨fun Q E q=>Sa (fun z=>by rw[z] at h2;simp at h2) hk' q,Sb fun p hp=>(hk' p hp).1⟩
end
end oQ
namespace L3
open PySem PySem.Spec PyProof.Rows L2
structure yN(T:String):Prop where
 az:∀K,PySem.W.kitOne K (.type "NoneType") (.type T)=some false
 bl:∀K,PySem.W.kitOne K (.type "bool") (.type T)=some (T=="bool" || T=="int")
 int:∀K,PySem.W.kitOne K (.type "int") (.type T)=some (T=="int")
 str:∀K,PySem.W.kitOne K (.type "str") (.type T)=some (T=="str")
 tup:∀K,PySem.W.kitOne K (.type "tuple") (.type T)=some (T=="tuple")
 lst:∀K,PySem.W.kitOne K (.type "list") (.type T)=some (T=="list")
 eD:∀K,PySem.W.kitOne K (.type "dict") (.type T)=some (T=="dict")
theorem IZ:yN "int":=⟨fun _=>rfl,fun _=>rfl,fun _=>rfl,fun _=>rfl,fun _=>rfl,fun _=>rfl,fun _=>rfl⟩
theorem Dn:yN "bool":=⟨fun _=>rfl,fun _=>rfl,fun _=>rfl,fun _=>rfl,fun _=>rfl,fun _=>rfl,fun _=>rfl⟩
theorem kit_tuple:yN "tuple":=⟨fun _=>rfl,fun _=>rfl,fun _=>rfl,fun _=>rfl,fun _=>rfl,fun _=>rfl,fun _=>rfl⟩
section
variable {X:Cx} {a e:ο} {es:List ο} {ta:ax} {t:b9} {pos p p2:ay}
theorem SN{T:String}(k:yN T):gB X (.builtin "isinstance") (fun vs H Q=>∃d v G b,vs=[v,.ty T]/\Hv X.K H d v/\aD X.K G H/\jz T G d=some b/\Q (.bl b) H):=by
 intro pins s σ H vs us Q I r h;obtain⟨d,v,G,b,rfl,hd,RG,hb,q⟩:=h;obtain⟨u,c,rfl,ru,rc⟩:=vals2 r;cases (show c=Value.type T from rc);have fin:∀tk,EP X pins σ Q (.bool b) { s with toks:=tk }:=fun tk=>⟨.bl b,H,I.tok tk,rfl,q⟩
 cases d with
 |az=>
  unfold Hv at hd;subst hd;cases (show u=Value.none from ru);cases hb;exact PySem.W.kia_one PySem.W.kitx_none I.fC m5 (k.az _) (fun z=>nomatch z) fin
 |bl y=>
  rw[qL hd] at ru;cases (show u=Value.bool y from ru);cases hb;exact PySem.W.kia_one PySem.W.kitx_bool I.fC m5 (k.bl _) (fun z=>nomatch z) fin
 |int y=>
  rw[ir hd] at ru;obtain⟨t,rfl⟩:=(show ∃t,u=Value.int y t from ru);cases hb;exact PySem.W.kia_one PySem.W.kitx_int I.fC m5 (k.int _) (fun z=>nomatch z) fin
 |str y=>
  unfold Hv at hd;subst hd;obtain⟨t,rfl⟩:=(show ∃t,u=Value.str y t from ru);cases hb;exact PySem.W.kia_one PySem.W.kitx_str I.fC m5 (k.str _) (fun z=>nomatch z) fin
 |tup ds=>
  obtain⟨x,xs,rfl,e1,_⟩:=mG hd;cases (show u=Value.ref x from ru);cases hb;obtain⟨its,_,⟨o,h1,h2,_⟩,_⟩:=I.tuple e1;exact PySem.W.kia_one PySem.W.kitx_tuple I.fC ⟨o,h1,h2⟩ (k.tup _) (fun z=>nomatch z) fin
 |eN ds=>
  obtain⟨x,xs,rfl,e1,_⟩:=sx hd;cases (show u=Value.ref x from ru);cases hb;obtain⟨its,_,p1,_⟩:=I.list e1.l;obtain⟨o,h1,h2,_⟩:=p1.isList;exact PySem.W.kia_one PySem.W.kitx_list I.fC ⟨o,h1,h2⟩ (k.lst _) (fun z=>nomatch z) fin
 |dc x=>
  unfold Hv at hd;obtain⟨rfl,ob,φ,e1,c⟩:=hd;cases (show u=Value.ref x from ru);cases hb;obtain⟨h1,_⟩:=I.bf x _ e1;exact PySem.W.kia_one PySem.W.kitx_dict I.fC ⟨ob,h1,c⟩ (k.eD _) (fun z=>nomatch z) fin
 |obj x=>
  rw[hJ hd] at ru;cases (show u=Value.ref x from ru);unfold jz at hb;cases hG:G x with
  |none=>simp[hG] at hb
  |some o=>
   have hl:∀xs,H x=some (.lst xs)->∃o,s.heap.get? x=some o/\o.cls=.type "list":=fun xs e=>by
    obtain⟨_,_,n,_,h1⟩:=(show bH X.prog X.w H s.heap x (.lst xs) from I.bf x _ e);exact⟨_,h1,rfl⟩
   cases o with
   |lst ds=>
    simp only[hG] at hb;cases hb;obtain⟨vs,e1,_⟩:=RG x _ hG;obtain⟨o,h1,h2⟩:=hl _ e1;exact PySem.W.kia_one PySem.W.kitx_list I.fC ⟨o,h1,h2⟩ (k.lst _) (fun z=>nomatch z) fin
   |kL=>
    simp only[hG] at hb;cases hb;obtain⟨_,_,_,e1,_⟩:=RG x _ hG;obtain⟨o,h1,h2⟩:=hl _ e1;exact PySem.W.kia_one PySem.W.kitx_list I.fC ⟨o,h1,h2⟩ (k.lst _) (fun z=>nomatch z) fin
   |gen R=>simp[hG] at hb
   |eD=>
    simp only[hG] at hb;cases hb;have e1:H x=some (.ext fun h=>∃o,h.get? x=some o/\o.cls=.type "dict"):=RG x _ hG;obtain⟨⟨o,h1,h2⟩,_⟩:=(show bH X.prog X.w H s.heap x _ from I.bf x _ e1);exact PySem.W.kia_one PySem.W.kitx_dict I.fC ⟨o,h1,h2⟩ (k.eD _) (fun z=>nomatch z) fin
theorem SM{T:String}{TS:ι}(k:yN T)(hv:gk TS=some (.type T))(ha:bE X a ta)(hm:X.mg "isinstance" = none)(hm2:X.mg TS=none)(hgT:Gl X TS)(hnT:TS≠"__name__")(hdT:(TS==("__debug__":ι))=false)(hg:Gl X "isinstance":=by rfl)
  (he:notStar a=true:=by rfl):
  bE X (.Call (.Name "isinstance" p) [a,.Name TS p2] [] pos) (oK T ta):=
 gP (pq (SN k) hg hm rfl (lG ha (lG (Ku (v:=.ty T) hgT hm2 hv rfl hnT hdT) pz (dB rfl)) (dB he)) (he:=dB he) (hpl:=iM rfl)) fun σ H Q ⟨τ,G,Q3,RS,RG,h,k⟩=>by
  refine⟨τ,G,_,RS,RG,h,fun v H1 d G1 h1 S1 R1 q1=>?_⟩;cases hb:jz T G1 d with
  |none=>rw[hb] at q1;exact q1.elim
  |some b=>
   rw[hb] at q1;exact⟨d,v,G1,b,rfl,h1,R1,hb,k _ H1 (.bl b) G1 oH S1 R1 q1⟩
end
def tupI(ns:List Int):D:=.tup (ns.map D.int)
section
variable {P:Ψ} {w:af} {H:Hp} {h:Ξ} {a:ε} {o:HO}
theorem SK(x:bH P w H h a o):∃o,h.get? a=some o:=by
 cases o with
 |lst xs=>obtain⟨_,_,_,_,e⟩:=x;exact⟨_,e⟩
 |tup xs=>obtain⟨_,_,_,o,e,_⟩:=x;exact⟨_,e⟩
 |dK kvs=>obtain⟨_,_,_,_,o,_,_,e,_⟩:=x;exact⟨_,e⟩
 |dT kvs=>obtain⟨_,_,_,_,o,_,_,e,_⟩:=x;exact⟨_,e⟩
 |set S n=>obtain⟨o,_,_,_,e,_⟩:=x;exact⟨_,e⟩
 |ins C dx fs=>obtain⟨_,_,_,e,_⟩:=x;exact⟨_,e⟩
 |own y=>obtain⟨_,e⟩:=x;exact⟨_,e⟩
 |xd fs=>obtain⟨_,⟨_,_,_,e,_⟩,_⟩:=x;exact⟨_,e⟩
 |BV lo hi=>obtain⟨_,_,_,e⟩:=x;exact⟨_,e⟩
 |cN ob u=>obtain⟨e,_⟩:=x;exact⟨_,e⟩
 |uP ps=>exact⟨_,(show h.get? a=some _ from x)⟩
 |met f y=>exact⟨_,(show h.get? a=some _ from x)⟩
 |ext φ=>obtain⟨_,⟨_,e⟩,_⟩:=x;exact⟨_,e⟩
end
section
variable {X:Cx} {pins:List (ε×aA)} {σ:L2.St} {H:Hp} {s:ζ}
theorem Inv.Ax(I:Inv X pins σ H s){a:ε}(hn:s.heap.get? a=none):H a=none:=by
 cases e:H a with
 |none=>rfl
 |some o=>
  obtain⟨ob,h⟩:=SK (I.bf a o e);rw[hn] at h;cases h
theorem Inv.ER{a:ε}{o:HO}{t':Nat}{h':Ξ}(I:Inv X pins σ H s)(k:∀b u,s.heap.get? b=some u->h'.get? b=some u)(hn:s.heap.get? a=none)(new:bH X.prog X.w (upd H a o) h' a o):
  Inv X pins σ (upd H a o) { s with heap:=h',toks:=t' }:=by
 have hH:=Inv.Ax I hn;have ne:∀b u,s.heap.get? b=some u->b≠a:=fun b u e z=>by rw[z,hn] at e;cases e
 refine I.un ⟨fun b u q _ _ _=>k b u q,fun b u q _ _ _=>⟨u.slots,k b u q⟩,fun b u q n _=>by rw[dj (ne b u q)];exact n,fun b u q _=>⟨u,k b u q⟩,fun b xs q=>by rw[dj (lH q hH)];exact q,
  fun b u xs q=>by rw[dj (lH q hH)];exact q,fun b ps q=>⟨#[],by rw[dj (lH q hH),q];simp⟩⟩ fun b u e=>?_
 by_cases hb:b=a
 ·subst hb;rw[gh] at e;cases e;exact new
 ·rw[dj hb] at e;exact (I.bf b u e).kf (fun c v _ q=>k c v q) (fun c q=>by rw[dj (lH q hH)];exact q) fun c xs q=>by rw[dj (lH q hH)];exact q
theorem Dm{ns:List Int}:∀{us:List Value},aS (ns.map V.int) us->ItemsAre (intKind X.prog X.w) ns us:=by
 induction ns with
 |nil=>intro us r;cases r;exact .nil
 |cons n ns ih=>
  intro us r;cases r with
  |cons r1 r2=>
   obtain⟨t,rfl⟩:=(show ∃t,_=Value.int n t from r1);exact .cons (by show Value.isInt n (.int n t)=true;simp[Value.isInt]) (ih r2)
theorem Dl(I:Inv X pins σ H s):∀{nss:List (List Int)} {vs:List V} {us:List Value},aw X.K H (nss.map tupI) vs->aS vs us ->
  ∃ps:List (List Int×ε),ps.map (·.1)=nss/\vs=ps.map (fun p=>.ref p.2)/\us=ps.map (fun p=>Value.ref p.2)/\∀p∈ps,bZ X.K H p.2 (p.1.map V.int)/\fk.iw X.prog X.w s.heap p.1 p.2
 |[],vs,us,h,r=>by
  cases h.gi;cases r;exact⟨[],rfl,rfl,rfl,fun p hp=>nomatch hp⟩
 |ns::nss,vs,us,h,r=>by
  obtain⟨v,vr,rfl,q1,q2⟩:=h.inv;cases r with
  |cons r1 r2=>
   obtain⟨ps,e1,e2,e3,e4⟩:=Dl I q2 r2;obtain⟨a,ws,rfl,z1,z2⟩:=mG q1;have hw:ws=ns.map V.int:=by
    refine sv z2 ?_;clear z2 z1 q1 h e1 e2 e3 e4 q2 r2 r1
    induction ns with
    |nil=>rfl
    |cons n ns ih=>simp[intsOf,ih]
   subst hw;cases (show _=Value.ref a from r1);obtain⟨its,rv,⟨o,h1,h2,n,h3⟩,_⟩:=I.tuple z1;refine⟨(ns,a)::ps,by simp[e1],by simp[e2],by simp[e3],fun p hp=>?_⟩;rcases Φ.mp hp with rfl|hp
   ·exact⟨z1,o,its.toArray,n,h1,h2,h3,Dm rv⟩
   ·exact e4 p hp
theorem Dk{K:PySem.W.Frag}{H:Hp}:∀{qs:List (List Int×ε)},(∀p∈qs,bZ K H p.2 (p.1.map V.int))->aw K H ((qs.map (·.1)).map tupI) (qs.map fun p=>.ref p.2)
 |[],_=>.nil
 |q::qs,h=>.cons (pj (h q Δ) (aw.ints _)) (Dk fun p hp=>h p (ω _ hp))
theorem IY:∀(qs:List (List Int×ε)),aS (qs.map fun p=>V.ref p.2) (qs.map fun p=>Value.ref p.2)
 |[]=>.nil
 |q::qs=>.cons rfl (IY qs)
def oR(nss:List (List Int)):Prop:=nss.Pairwise fun x y=>oQ.lx y x=false
theorem IX{Q:VK}(I:Inv X pins σ H s){ps qs:List (List Int×ε)}{s':ζ}{c:Nat}{D':ε}(hz:ps.length<64)(hS:oQ.MY ps qs)(hn:s.heap.get? D'=none)(hD:s'.heap.get? D'=some (seqObj "list" (qs.map fun p=>Value.ref p.2).toArray c))
  (hm:m8 [] (fun x y=>y=x) s s') (q:H D'=none->Q (.ref D') (upd H D' (.lst (qs.map fun p=>.ref p.2)))):EP X pins σ Q (.ref D') s':=by
 have e:s'={ s with heap:=s'.heap,toks:=s'.toks }:=by
  cases s';cases s;have h1:=hm.gens;have h2:=hm.drawn;have h3:=hm.os;simp only at h1 h2 h3;subst h1 h2 h3;rfl
 rw[e];refine⟨.ref D',_,Inv.ER I (o:=.lst (qs.map fun p=>.ref p.2)) (fun b u z=>hm.heap b u (fun y=>nomatch y) z) hn ?_,rfl,q (Inv.Ax I hn)⟩;refine⟨?_,_,c,IY qs,hD⟩;rw[ν,hS.perm.length_eq,bI];lia
theorem SJ(hc:X.calm=true)(hu:X.A.units+64<cLine):gB X (.builtin "sorted") (fun vs H Q=>∃(a:ε) (xs:List V) (nss:List (List Int)),vs=[.ref a]/\ff X.K H a xs/\aw X.K H (nss.map tupI) xs/\nss.length<64/\(∀ns∈nss,ns≠[]) ∧
  ∀(p:ε) (mss:List (List Int)) (ys:List V),H p=none->mss.Perm nss->oR mss->aw X.K H (mss.map tupI) ys->Q (.ref p) (upd H p (.lst ys))):=by
 intro pins s σ H vs us Q I r h;obtain⟨a,xs,nss,rfl,hl,hv,hz,cy,q⟩:=h;obtain⟨u,rfl,ru⟩:=vals1 r;cases ru;obtain⟨its,rv,pl,_⟩:=I.list hl;obtain⟨ps,e1,e2,e3,e4⟩:=Dl I hv rv;subst e3;have hlen:ps.length=nss.length:=by rw[←e1,ν]
 refine oQ.v9 (ps:=ps) (fun p hp=>⟨(e4 p hp).2,cy _ (by rw[←e1];exact ah.mpr ⟨p,hp,rfl⟩)⟩) (by lia) (fun R hR=>?_) fun qs s' c D' hS hn hD hm=>?_
 ·refine collect_list pl.isList (hR _ ⟨fun b o _ e=>?_,rfl,rfl,rfl,Ω _⟩) (by rw[ν,bI];lia);have hlt:=χ e;show ((s.heap.push (seqObj "list" #[] 0)).update s.heap.objs.size _).get? b=some o;rw[bq _ _ (fx hlt)];exact η _ e
 ·refine IX I (by lia) hS hn hD hm fun hf=>?_;refine q _ (qs.map (·.1)) _ hf (by rw[←e1];exact hS.perm.map _) ?_ (Dk fun p hp=>(e4 p (hS.perm.mem_iff.mp hp)).1);exact cm.mpr hS.rise
end
end L3
namespace L3
open PySem PySem.Spec PyProof.Rows L2
def wU(P:Ψ)(w:af)(b:ε)(zs:List (List Int×ε)):Ξ->Prop:=fun h=>∃o es ep t,h.get? b=some o/\o.ExactSet/\o.data=.set es ep t/\es.toList=zs.map (fk.ent P w)/\(zs.map (·.1)).Nodup/\t.plain=true ∧
 t.led=(!(w.params.followText "set-order"))/\lL.Tab t (es.toList.map (·.1))
theorem pQ{α β:Type}{f:α->β}{l l':List β}(h:l.Perm l'):∀{zs:List α},l'=zs.map f->∃zs':List α,zs'.Perm zs/\l=zs'.map f:=by
 induction h with
 |nil=>
  intro zs e;have:zs=[]:=by simpa using e.symm
  subst this;exact⟨[],.nil,rfl⟩
 |cons x _ ih=>
  intro zs e;cases zs with
  |nil=>cases e
  |cons z zs=>
   simp only[bP,vz] at e;obtain⟨zs',h1,h2⟩:=ih e.2;exact⟨z::zs',h1.cons z,by simp[e.1,h2]⟩
 |swap x y l=>
  intro zs e;rcases zs with _|⟨z,_|⟨z2,zs⟩⟩
  ·cases e
  ·simp at e
  ·simp only[bP,vz] at e;exact⟨z2::z::zs,.swap _ _ _,by simp[e.1,e.2.1,e.2.2]⟩
 |trans _ _ ih1 ih2=>
  intro zs e;obtain⟨z2,h1,h2⟩:=ih2 e;obtain⟨z1,h3,h4⟩:=ih1 h2;exact⟨z1,h3.trans h1,h4⟩
section
variable {X:Cx}
theorem SI(hc:X.calm=true)(hu:X.A.units+64<cLine):gB X (.type "set") (fun vs H Q=>∃(a:ε) (xs:List V) (nss:List (List Int)),vs=[.ref a]/\ff X.K H a xs/\aw X.K H (nss.map tupI) xs/\nss.length≤60 ∧
  ∀(b:ε) (zs:List (List Int×ε)),H b=none->(∀p∈zs,bZ X.K H p.2 (p.1.map V.int))->(∀ns,ns∈zs.map (·.1)↔ns∈nss)->(zs.map (·.1)).Nodup->zs.length≤nss.length->Q (.ref b) (upd H b (.ext (wU X.prog X.w b zs)))):=by
 intro pins s σ H vs us Q I r h;obtain⟨a,xs,nss,rfl,hl,hv,hz,q⟩:=h;obtain⟨u,rfl,ru⟩:=vals1 r;cases ru;obtain⟨its,rv,pl,_⟩:=I.list hl;obtain⟨ps,e1,e2,e3,e4⟩:=Dl I hv rv;subst e3;have hlen:ps.length=nss.length:=by rw[←e1,ν]
 refine fk.wm (ps:=ps) (I.ok.hd hc) pl.isList rfl (fun p hp=>(e4 p hp).2) (by lia) (by lia) fun h' tk zs kk hS hD=>?_;obtain⟨o,es,ep,t,S,T⟩:=hS;refine⟨.ref s.heap.objs.size,_,I.laid (o:=.ext (wU X.prog X.w s.heap.objs.size zs)) kk (Ω _) ?_,rfl,q _ zs (I.bf.fresh (Ω _)) (fun p hp=>(e4 p (hD.sub p hp)).1) (fun ns=>?_) S.nd ?_⟩
 ·refine⟨⟨o,es,ep,t,S.at_,S.ex,S.dat,S.ents,S.nd,S.plain,S.led,T⟩,⟨o,S.at_⟩,fun h1 h2 ⟨o',es',ep',t',y1,y⟩ kk2=>⟨o',es',ep',t',kk2 _ y1,y⟩⟩
 ·rw[←e1];constructor
  ·intro hm;obtain⟨p,hp,rfl⟩:=ah.mp hm;exact ah.mpr ⟨p,hD.sub p hp,rfl⟩
  ·intro hm;obtain⟨p,hp,rfl⟩:=ah.mp hm;exact hD.all p hp
 ·rw[←hlen];exact hD.len
theorem RU(hc:X.calm=true)(hu:X.A.units+64<cLine):gB X (.builtin "sorted") (fun vs H Q=>∃(b:ε) (zs:List (List Int×ε)),vs=[.ref b]/\H b=some (.ext (wU X.prog X.w b zs))/\(∀p∈zs,bZ X.K H p.2 (p.1.map V.int))/\zs.length≤60/\(∀p∈zs,p.1≠[]) ∧
  ∀(p:ε) (mss:List (List Int)) (ys:List V),H p=none->mss.Perm (zs.map (·.1))->oR mss->aw X.K H (mss.map tupI) ys->Q (.ref p) (upd H p (.lst ys))):=by
 intro pins s σ H vs us Q I r h;obtain⟨b,zs,rfl,hb,hk,hz,cy,q⟩:=h;obtain⟨u,rfl,ru⟩:=vals1 r;cases ru;obtain⟨⟨o,es,ep,t,y1,y2,y3,y4,y5,y6,y7,T⟩,_⟩:=(show bH X.prog X.w H s.heap b _ from I.bf b _ hb);have hK:∀p∈zs,fk.iw X.prog X.w s.heap p.1 p.2:=fun p hp=>by
  obtain⟨its,rv,⟨o,h1,h2,n,h3⟩,_⟩:=I.tuple (hk p hp);exact⟨o,its.toArray,n,h1,h2,h3,Dm rv⟩
 have S:fk.lU X.prog X.w s.heap b o es ep t zs:=⟨y1,y2,y3,y4,hK,y5,y6,y7⟩;obtain⟨zs',p1,p2⟩:=pQ (fk.kC X.w b ep es) y4;have hsz:es.size=zs.length:=by
  have:es.toList.length=zs.length:=by rw[y4,ν]
  simpa using this
 refine oQ.v9 (ps:=zs') (fun p hp=>⟨hK p (p1.mem_iff.mp hp),cy p (p1.mem_iff.mp hp)⟩) (by rw[p1.length_eq];lia) (fun R hR=>?_) fun qs s' c D' hS hn hD hm=>?_
 ·refine fk.p8 (by have:=I.ok.hd hc;simpa using this) S.wk T (by lia) fun s' hm=>?_;have:=hR s' hm;rw[p2,cE];exact this
 ·refine IX I (by rw[p1.length_eq];lia) hS hn hD hm fun hf=>?_;refine q _ (qs.map (·.1)) _ hf ((hS.perm.map _).trans (p1.map _)) ?_ (Dk fun p hp=>hk p (p1.mem_iff.mp (hS.perm.mem_iff.mp hp)));exact cm.mpr hS.rise
end
section
variable {X:Cx} {K:PySem.W.Frag} {e:ο} {es:List ο} {t:b9} {ta:ax} {pos p p' pos':ay}
def zA:C3:=fun ds G Q=>match ds with
 |[.obj a]=>∃nss:List (List Int),G a=some (.lst (nss.map tupI))/\nss.length<64/\(∀ns∈nss,ns≠[])/\∀(p:ε) (mss:List (List Int)) (G':Gp),fc G p (.lst (mss.map tupI)) G'->mss.Perm nss->oR mss->Q (.obj p) G'
 |_=>False
theorem RT:rh K zA (fun vs H Q=>∃(a:ε) (xs:List V) (nss:List (List Int)),vs=[.ref a]/\ff K H a xs/\aw K H (nss.map tupI) xs/\nss.length<64/\(∀ns∈nss,ns≠[]) ∧
  ∀(p:ε) (mss:List (List Int)) (ys:List V),H p=none->mss.Perm nss->oR mss->aw K H (mss.map tupI) ys->Q (.ref p) (upd H p (.lst ys))):=fun ds vs G H Q3 Q h RG q k=>by
 rcases ds with _|⟨d,_|⟨d2,ds⟩⟩
 ·exact q.elim
 ·obtain⟨v,rfl,hv⟩:=sM h;cases d with
  |obj a=>
   obtain⟨nss,e1,hz,cy,q⟩:=q;obtain⟨xs,e2,e3⟩:=RG a _ e1;rw[hJ hv];exact⟨a,xs,nss,rfl,.of e2,e3,hz,cy,fun p mss ys hp h1 h2 h3=>k _ _ (.obj p) _ pk (.gr hp) (RG.sD hp h3) (q p mss _ (.mk' (RG.free hp)) h1 h2)⟩
  |_=>exact q.elim
 ·cases d<;>exact q.elim
theorem RQ(hu:X.A.units+64<cLine)(hm:X.mg "sorted" = none)(ha:gS X (e::es) t)(hc:X.calm=true:=by rfl)(hg:Gl X "sorted":=by rfl)(he:notStar e=true:=by rfl)(hpl:es.all notStar=true:=by rfl):
  bE X (.Call (.Name "sorted" p) (e::es) [] pos) (dS zA t):=uI RT (pq (SJ hc hu) hg hm rfl ha (he:=dB he) (hpl:=iM hpl))
def uJ(ta:ax):ax:=fun τ G Q=>ta τ G fun x G1=>match x with
 |.obj a=>∃nss:List (List Int),G1 a=some (.lst (nss.map tupI))/\nss.length≤60/\(∀ns∈nss,ns≠[])/\∀(p:ε) (mss:List (List Int)) (G':Gp),fc G1 p (.lst (mss.map tupI)) G'->(∀ns,ns∈mss↔ns∈nss)->mss.Nodup->oR mss->mss.length≤nss.length->Q (.obj p) G'
 |_=>False
theorem RP(hu:X.A.units+64<cLine)(ha:bE X e ta)(hm:X.mg "sorted" = none)(hm2:X.mg "set" = none)(hc:X.calm=true:=by rfl)(hg:Gl X "sorted":=by rfl)(hg2:Gl X "set":=by rfl)(he2:notStar e=true:=by rfl):
  bE X (.Call (.Name "sorted" p) [.Call (.Name "set" p') [e] [] pos'] [] pos) (uJ ta):=
 gP (pq (RU hc hu) hg hm rfl (lG (vO (SI hc hu) hg2 hm2 rfl (lG ha pz (dB he2)) (he:=dB he2) (hpl:=iM rfl)) pz (dB rfl)) (he:=dB rfl) (hpl:=iM rfl)) fun σ H Q ⟨τ,G,Q3,RS,RG,h,k⟩=>by
  refine⟨τ,G,_,RS,RG,h,fun v H1 d G1 h1 S1 R1 q1=>?_⟩;cases d with
  |obj a=>
   obtain⟨nss,e1,hz,cy,q⟩:=q1;obtain⟨xs,e2,e3⟩:=R1 a _ e1;rw[hJ h1];refine⟨a,xs,nss,rfl,.of e2,e3,hz,fun b zs hb hk hmem hnd hlen=>?_⟩;have E2:Ext H1 (upd H1 b (.ext (wU X.prog X.w b zs))):=.laid hb;refine⟨b,zs,rfl,gh,fun p hp=>bZ.ext E2 (hk p hp),by lia,fun p hp=>cy _ ((hmem _).mp (ah.mpr ⟨p,hp,rfl⟩)),fun p mss ys hp hpm hr hv=>?_⟩;have R2:aD X.K G1 (upd H1 b (.ext (wU X.prog X.w b zs))):=R1.laid hb;refine k _ _ (.obj p) _ pk ((S1.trans (.laid hb)).trans (.gr hp)) (R2.sD hp hv) (q p mss _ (.mk' (R2.free hp)) (fun ns=>?_) ?_ hr ?_)
   ·rw[hpm.mem_iff];exact hmem ns
   ·exact hpm.nodup_iff.mpr hnd
   ·rw[hpm.length_eq,ν];exact hlen
  |_=>exact q1.elim
def mX:List D->Option (List Bool)
 |[]=>some []
 |.bl b::r=>(mX r).map (b::·)
 |_::_=>none
theorem zy{H:Hp}:∀{ds:List D} {vs:List V} {bs:List Bool},aw K H ds vs->mX ds=some bs->vs=bs.map V.bl
 |[],vs,ns,h,e=>by
  cases e;exact h.gi
 |d::ds,vs,ns,h,e=>by
  cases d with
  |bl i=>
   obtain⟨v,r,rfl,z1,z2⟩:=h.inv;unfold mX at e;cases hm:mX ds with
   |none=>rw[hm] at e;cases e
   |some ms=>
    rw[hm] at e;cases e;rw[qL z1,zy z2 hm];rfl
  |_=>cases e
theorem IW:∀{bs:List Bool} {us:List Value},aS (bs.map V.bl) us->us=bs.map Value.bool
 |[],_,.nil=>rfl
 |b::bs,_,.cons r rr=>by
  rw[(show _=Value.bool b from r),IW rr];rfl
theorem range_all(bs:List Bool):(ag bs.length).all (fun i=>bs.getD i false)=bs.all id:=by
 rw[fG];simp only[eI,aE,id_eq];constructor
 ·intro h b hb;obtain⟨i,hi,rfl⟩:=List.mem_iff_getElem.mp hb;have:=h i hi;simpa [mn,hi] using this
 ·intro h i hi;have:=h bs[i] (km hi);simpa [mn,hi] using this
theorem RO(hc:X.calm=true){pins:List (ε×aA)}{s:ζ}{σ:L2.St}{H:Hp}{a:ε}{xs:List V}{E:Value->ζ->Prop}(I:Inv X pins σ H s)(hl:ff X.K H a xs){Q:Value->ζ->Prop}
  (q:∀(its:List Value) (I':ε),aS xs its->WalksS X.prog X.w X.A.in1 I' [I',a] [I'] (fun x y=>y=x) its.length (fun i v=>its[i]?=some v) (fun i s=>s.heap.IsListIter I' a i/\s.heap.IsList a its.toArray) ->
   (s.heap.push { cls:=.type "list_iterator",data:=.fields #[.ref a,.int 0 0]}).IsListIter I' a 0->(s.heap.push { cls:=.type "list_iterator",data:=.fields #[.ref a,.int 0 0]}).IsList a its.toArray ->
   (∀b∈[I',a],b<(s.heap.push { cls:=.type "list_iterator",data:=.fields #[.ref a,.int 0 0]}).objs.size) ->
   (∀s',m8 [I'] (fun x y=>y=x) { s with heap:=s.heap.push { cls:=.type "list_iterator",data:=.fields #[.ref a,.int 0 0]}} s'->Inv X pins σ H s')->Q (.ref I') { s with heap:=s.heap.push { cls:=.type "list_iterator",data:=.fields #[.ref a,.int 0 0]}}):
  μ (model X.prog X.w) X.A.in1 (pyIter (.ref a)) Q E s:=by
 obtain⟨its,rv,pl,_⟩:=I.list hl;have hla:a<s.heap.objs.size:=by
  obtain⟨o,h1,_⟩:=pl.isList;exact χ h1
 refine eZ pl.isList ?_;have hW:=(Walks.list (prog:=X.prog) (w:=X.w) (A:=X.A.in1) (by have:=I.ok.hd hc;simpa using this) s.heap.objs.size a (av hla) its.toArray).toS;refine q its s.heap.objs.size rv (by simpa using hW) ⟨_,ψ _ rfl,rfl,rfl⟩ ?_ ?_ fun s' hm=>?_
 ·obtain⟨o,h1,h2⟩:=pl.isList;exact⟨o,η _ h1,h2⟩
 ·intro b hb;rw[size_push'];rcases Φ.mp hb with e|e
  ·rw[e];exact iq _
  ·have:b=a:=by simpa using e
   rw[this];exact e7 hla
 ·have e:s'={ s with heap:=s'.heap,toks:=s'.toks }:=by
   cases s';cases s;have h1:=hm.gens;have h2:=hm.drawn;have h3:=hm.os;simp only at h1 h2 h3;subst h1 h2 h3;rfl
  rw[e];exact I.kept fun b u z=>hm.heap b u (fun y=>by
   have:b=s.heap.objs.size:=by simpa using y
   exact absurd (this▸χ z) (cf _)) (η _ z)
theorem RN(hc:X.calm=true):gB X (.builtin "all") (fun vs H Q=>∃(a:ε) (bs:List Bool),vs=[.ref a]/\ff X.K H a (bs.map V.bl)/\Q (.bl (bs.all id)) H):=by
 intro pins s σ H vs us Q I r h;obtain⟨a,bs,rfl,hl,q⟩:=h;obtain⟨u,rfl,ru⟩:=vals1 r;cases ru;refine call_all_walkS (RO hc I hl fun its I' rv W h1 h2 h3 back=>⟨I',_,_,_,_,_,_,fun i=>bs.getD i false,rfl,W,⟨h1,h2⟩,?_,fun s' hm=>?_⟩)
 ·intro i v s' Q' E' hv hq;have hx:=IW rv;subst hx;rw[aJ] at hv;cases hb:bs[i]? with
  |none=>rw[hb] at hv;cases hv
  |some b=>
   rw[hb] at hv;cases hv;have:bs.getD i false=b:=by simp[mn,hb]
   dsimp only at hq;rw[this] at hq;exact dR hq
 ·have:its.length=bs.length:=by rw[←rv.length,ν]
  rw[this,range_all];exact⟨.bl (bs.all id),H,back s' hm,rfl,q⟩
def um:C3:=fun ds G Q=>match ds with
 |[.obj a]=>∃xs bs,G a=some (.lst xs)/\mX xs=some bs/\Q (.bl (bs.all id)) G
 |_=>False
theorem RM:rh K um (fun vs H Q=>∃(a:ε) (bs:List Bool),vs=[.ref a]/\ff K H a (bs.map V.bl)/\Q (.bl (bs.all id)) H):=fun ds vs G H Q3 Q h RG q k=>by
 rcases ds with _|⟨d,_|⟨d2,ds⟩⟩
 ·exact q.elim
 ·obtain⟨v,rfl,hv⟩:=sM h;cases d with
  |obj a=>
   obtain⟨xs,bs,e1,e2,q⟩:=q;obtain⟨ys,e3,e4⟩:=RG a _ e1;rw[hJ hv];rw[zy e4 e2] at e3;exact⟨a,bs,rfl,.of e3,k _ H _ G oH (.refl H G) RG q⟩
  |_=>exact q.elim
 ·cases d<;>exact q.elim
theorem RL(hu:X.A.units+64<cLine)(hm:X.mg "all" = none)(ha:gS X (e::es) t)(hc:X.calm=true:=by rfl)(hg:Gl X "all":=by rfl)(he:notStar e=true:=by rfl)(hpl:es.all notStar=true:=by rfl):
  bE X (.Call (.Name "all" p) (e::es) [] pos) (dS um t):=uI RM (pq (RN hc) hg hm rfl ha (he:=dB he) (hpl:=iM hpl))
end
end L3
namespace L3
open PySem PySem.Spec PyProof.Rows L2
section
variable {prog:Ψ} {w:af} {A:aq} {E:Value->ζ->Prop} {s:ζ}
theorem RK(n:Nat):cU ((n:Int)-1) (-1) (-1)=n:=by
 unfold cU;rw[if_neg (by decide)];by_cases h:(n:Int)-1 > -1
 ·rw[if_pos h];simp
 ·rw[if_neg h];omega
theorem JF{α β:Type}{f g:α->Option β}:∀{l:List α},(∀x∈l,f x=g x)->l.filterMap f=l.filterMap g
 |[],_=>rfl
 |x::l,h=>by
  rw[cV,cV,h x Δ,JF fun y hy=>h y (ω _ hy)]
theorem JE{α:Type}:∀(l:List α),(ag l.length).filterMap (fun i=>l[i]?)=l
 |[]=>rfl
 |a::l=>by
  rw[aj,gJ,jv (b:=a) (by simp),mo];congr 1;exact JE l
theorem RJ(xs:List Value):((ag xs.length).filterMap fun (m:Nat)=>xs.toArray[(((xs.length:Int)-1)+(m:Int)*(-1)).toNat]?)=xs.reverse:=by
 have h2:=JE xs.reverse;rw[iI] at h2;refine Eq.trans (JF fun m hm=>?_) h2;have hm':=aE.mp hm;rw[List.getElem?_reverse hm',kz];congr 1;omega
theorem RI{sl:ε}{t:dG}{n:Nat}{Q:Int×Int×Nat->ζ->Prop}(hs:s.heap.IsSliceOf sl .none .none (.int (-1) t))(h:Q ((n:Int)-1,-1,n) s):μ (model prog w) A (fM (.ref sl) (pure (n:Int))) Q E s:=by
 obtain⟨os,hos,hcs,hds⟩:=id hs;unfold fM nj;refine δ (δ (aX hos hds (x:=.none) rfl (δ (aX hos hds (x:=.none) rfl (δ (aX hos hds (x:=.int (-1) t) rfl (θ ?_)))))));refine δ (slicePart_int ?_);show μ _ _ (if ((-1:Int)==0)=true then _ else _) _ _ s;rw[if_neg (by decide)];refine δ (lN (δ (lN (δ (θ ?_)))));show μ _ _ (pure ((n:Int)-1,(-1:Int),cU ((n:Int)-1) (-1) (-1))) _ _ s;rw[RK];exact θ h
theorem RH{t sl:ε}{its:List Value}{tk:dG}{Q:Value->ζ->Prop}(ht:iW s.heap t its.toArray)(hs:s.heap.IsSliceOf sl .none .none (.int (-1) tk))(hsz:its.length≤ai)
  (h:Q (.ref s.heap.objs.size) { s with heap:=s.heap.push { cls:=.type "tuple",data:=.seq its.reverse.toArray }}):μ (model prog w) A (getItem (.ref t) (.ref sl)) Q E s:=by
 have htake:sizeOk (.seq its.reverse.toArray):=by
  show its.reverse.toArray.size≤ai;rw[υ,iI];exact hsz
 obtain⟨os,hos,hcs,hds⟩:=id hs;have hTs:s.TypeIs (.ref sl) "slice":=⟨os,hos,hcs⟩;unfold getItem
 try with_reducible refine aZ ?_
 first|refine δ (θ ?_)|skip
 refine δ (mO ht.typeIs (by decide) ?_);refine δ (bC (name:=dm "__getitem__") ht.typeIs bB
  (bL bB ht.typeIs lB ?_ (mi _ _)))
 show μ _ _ (ix (.ref t) >>= _) _ _ s;refine δ (tupleItemsOf_ ht ?_);refine δ (gj hTs ?_);rw[if_pos (by decide),show (its.toArray.size:Int)=((its.length:Nat):Int) by simp];refine δ (RI hs ?_);show μ _ _ (if ((its.length:Int)-1==0&&(-1:Int)==1&&its.length==its.toArray.size)=true then _ else _) _ _ s;rw[if_neg (by simp),RJ]
 first
  |exact δ (m:=bN _) (aR (θ ⟨_,rfl,θ h⟩) htake)
  |exact δ (m:=bN _) (aR (δ (θ (θ ⟨_,rfl,θ h⟩))) htake)
  |exact δ (δ (m:=bN _) (aR (θ (θ ⟨_,rfl,θ h⟩)) htake))
  |exact δ (δ (m:=bN _) (aR (θ ⟨_,rfl,θ h⟩) htake))
end
section
variable {X:Cx} {a:ο} {ta:ax} {te:TE} {pos p2 p3 p4:ay} {j:Nat}
def Na(K:PySem.W.Frag)(te:TE):TE:=fun σ H Q=>te σ H fun x H1=>∃a xs,x=.ref a/\bZ K H1 a xs/\∀p,H1 p=none->Q (.ref p) (upd H1 p (.tup xs.reverse))
theorem RF(he:PE X a te):PE X (.Subscript a (.Slice none none (some (.UnaryOp .USub (.Constant (.int 1) j p4) p3)) p2) pos) (Na X.K te):=by
 intro pins s σ H Q I h;refine Subscript_ (br (he pins s σ H _ I h) fun v s1 ⟨x,H1,I1,r1,q1⟩=>?_);refine wpAny_Slice ?_;rw[rO];refine θ (θ ?_);rw[evalPart_some];refine br (Kt (pos:=p3) Kq (Kw (j:=j) (pos:=p4)) pins s1 σ H1 (fun y H'=>y=.int (-1)/\H'=H1) I1 ⟨1,rfl,rfl,rfl⟩) fun u s2 ⟨y,H2,I2,r2,e1,e2⟩=>?_;subst e1 e2;obtain⟨t,rfl⟩:=(show ∃t,u=Value.int (-1) t from r2);obtain⟨b,xs,rfl,hx,q⟩:=q1;cases (show v=Value.ref b from r1);have I4:Inv X pins σ H2 { s2 with heap:=s2.heap.push { cls:=.type "slice",data:=.fields #[.none,.none,.int (-1) t]}}:=I2.kept (t':=s2.toks) fun b ob q=>η _ q
 obtain⟨its,r,ht,hz⟩:=I4.tuple hx;show μ (model X.prog X.w) X.A (subscriptTail a _ (.ref b) (.ref s2.heap.objs.size)) (EP X pins σ Q) X.xe { s2 with heap:=s2.heap.push { cls:=.type "slice",data:=.fields #[.none,.none,.int (-1) t]}};refine tail_any (ops:=[.ref b,.ref s2.heap.objs.size]) ht.typeIs bB.lookup ?_ (by with_unfolding_all rfl);refine RH ht (tw ..) (by rw[←r.length];exact hz) ?_;refine⟨.ref _,_,I4.laid (t':=s2.toks) (o:=.tup xs.reverse) (fun b ob q=>η _ q) (Ω _) ?_,rfl,q _ (I4.bf.fresh (Ω _))⟩;exact⟨by rw[iI];exact hz,_,r.reverse,ji.new _ _⟩
def Ee(ta:ax):ax:=fun τ G Q=>ta τ G fun x G1=>match x with
 |.tup ds=>Q (.tup ds.reverse) G1
 |_=>False
theorem RE(ha:bE X a ta):bE X (.Subscript a (.Slice none none (some (.UnaryOp .USub (.Constant (.int 1) j p4) p3)) p2) pos) (Ee ta):=gP (RF ha) fun σ H Q ⟨τ,G,Q3,RS,RG,h,k⟩=>by
 refine⟨τ,G,_,RS,RG,h,fun v H1 d G1 h1 S1 R1 q1=>?_⟩;cases d with
 |tup ds=>
  obtain⟨b,vs,rfl,e1,e2⟩:=mG h1;exact⟨b,vs,rfl,e1,fun p hp=>k _ _ (.tup ds.reverse) G1 (pj (.of gh) (e2.rev.ext (.laid hp))) (S1.trans (.laid hp)) (R1.laid hp) q1⟩
 |_=>exact q1.elim
end
end L3
namespace L3
open PySem PySem.Spec PyProof.Rows L2
section
variable {prog:Ψ} {w:af} {A:aq} {E:Value->ζ->Prop} {s:ζ}
theorem RD(lo hi i:Int):(iY lo hi 1 i).isSome=(decide (lo≤i)&&decide (i<hi)):=by
 unfold iY;dsimp only;rw[if_pos (c:=(1:Int) > 0) (by decide),Int.emod_one];cases (decide (lo≤i)&&decide (i<hi))<;>rfl
theorem JD{r:ε}{lo hi i:Int}{t u v tk:dG}{Q:Bool->ζ->Prop}(hr:s.heap.get? r=some { cls:=.type "range",data:=.fields #[.int lo t,.int hi u,.int 1 v]})(h:Q (decide (lo≤i)&&decide (i<hi)) s):
  μ (model prog w) A (contains (.ref r) (.int i tk)) Q E s:=by
 have hT:s.TypeIs (.ref r) "range":=⟨_,hr,rfl⟩;refine wpAny_contains_slot hT PySem.F.slot_range_contains (bL PySem.F.slot_range_contains hT PySem.F.entry_range_contains ?_ (PySem.F.args_range_contains_2 _ _));show μ _ _ (nk (.ref r) >>= _) _ _ s;unfold nk;refine δ (δ (aX hr rfl (x:=.int lo t) rfl (δ (θ (δ (aX hr rfl (x:=.int hi u) rfl (δ (θ (δ (aX hr rfl (x:=.int 1 v) rfl (δ (θ (θ ?_)))))))))))));show μ _ _ (pure (Fin.done (Flow.ret (Value.bool (iY lo hi 1 i).isSome)))) _ _ s;rw[RD];exact θ ⟨_,rfl,dR h⟩
end
section
variable {X:Cx} {a b c:ο} {ta:TE} {tb:TA} {op:jE} {p pos pos':ay}
def wa(neg:Bool)(lo hi i:Int):Bool:=if neg then !(decide (lo≤i)&&decide (i<hi)) else (decide (lo≤i)&&decide (i<hi))
def EB(neg:Bool)(ta:TE)(tb:TA):TE:=fun σ H Q=>ta σ H fun x H1=>tb σ H1 fun vs H2=>∃i hi,x=.int i/\vs=[.int hi]/\Q (.bl (wa neg 0 hi i)) H2
def MS(neg:Bool):jE:=if neg then .NotIn else .In
theorem RC{pins:List (ε×aA)}{s:ζ}{σ:L2.St}{H:Hp}{Q:VK}{i lo hi:Int}{t u v tk:dG}{tks:Nat}(I:L2.Inv X pins σ H s)(q:Q (.bl (decide (lo≤i)&&decide (i<hi))) H):
  μ (model X.prog X.w) X.A (compareOp .In (.int i tk) (.ref s.heap.objs.size)) (EP X pins σ Q) X.xe { s with heap:=s.heap.push { cls:=.type "range",data:=.fields #[.int lo t,.int hi u,.int 1 v]},toks:=tks }:=by
 show μ _ _ (contains (.ref s.heap.objs.size) (.int i tk) >>= fun b=>pure (Value.bool b)) _ _ _;refine δ (JD (ψ _ rfl) (θ ⟨.bl _,H,I.kept fun b ob q=>η _ q,rfl,q⟩))
theorem RB{pins:List (ε×aA)}{s:ζ}{σ:L2.St}{H:Hp}{Q:VK}{i lo hi:Int}{t u v tk:dG}{tks:Nat}(I:L2.Inv X pins σ H s)(q:Q (.bl (!(decide (lo≤i)&&decide (i<hi)))) H):
  μ (model X.prog X.w) X.A (compareOp .NotIn (.int i tk) (.ref s.heap.objs.size)) (EP X pins σ Q) X.xe { s with heap:=s.heap.push { cls:=.type "range",data:=.fields #[.int lo t,.int hi u,.int 1 v]},toks:=tks }:=by
 show μ _ _ (contains (.ref s.heap.objs.size) (.int i tk) >>= fun b=>pure (Value.bool (!b))) _ _ _;refine δ (JD (ψ _ rfl) (θ ⟨.bl _,H,I.kept fun b ob q=>η _ q,rfl,q⟩))
theorem RA{neg:Bool}{pins:List (ε×aA)}{s:ζ}{σ:L2.St}{H:Hp}{Q:VK}{i lo hi:Int}{t u v tk:dG}{tks:Nat}(I:L2.Inv X pins σ H s)(q:Q (.bl (wa neg lo hi i)) H):
  μ (model X.prog X.w) X.A (compareOp (MS neg) (.int i tk) (.ref s.heap.objs.size)) (EP X pins σ Q) X.xe { s with heap:=s.heap.push { cls:=.type "range",data:=.fields #[.int lo t,.int hi u,.int 1 v]},toks:=tks }:=by
 cases neg with
 |false=>exact RC I q
 |true=>exact RB I q
theorem Rz{neg:Bool}(hg:Gl X "range")(hm:X.mg "range" = none)(ha:PE X a ta)(hb:PA X [b] tb)(hs:bx [b] X.env=[(false,eval b X.env)]):PC X (MS neg) a (.Call (.Name "range" p) [b] [] pos) (EB neg ta tb):=by
 intro pins s σ H Q I h;refine br (ha pins s σ H _ I h) fun v s1 ⟨x,H1,I1,r1,q1⟩=>?_;refine Call_ (qN I1 hg hm rq (cG (br (hb pos pins s1 σ H1 _ I1 q1) fun us s2 ⟨vs,H2,I2,r2,q2⟩=>?_) hs rfl));obtain⟨i,hi,rfl,rfl,q⟩:=q2;obtain⟨tk,rfl⟩:=r1;cases r2 with
 |cons r rr=>
  cases rr;obtain⟨t,rfl⟩:=r;exact call_range_1 (RA I2 q)
end
section
variable {X:Cx} {a b c:ο} {ta:ax} {tb:b9} {p pos pos':ay}
def tN(neg:Bool)(ta:ax)(tb:b9):ax:=fun τ G Q=>ta τ G fun x G1=>tb τ G1 fun ds G2=>match x,ds with
 |.int i,[.int hi]=>Q (.bl (wa neg 0 hi i)) G2
 |_,_=>False
theorem Ry{neg:Bool}{σ:L2.St}{H:Hp}{Q:VK}(h:low X.K (tN neg ta tb) σ H Q):EB neg (low X.K ta) (sH X.K tb) σ H Q:=by
 obtain⟨τ,G,Q3,RS,RG,h,k⟩:=h;refine⟨τ,G,_,RS,RG,h,fun v1 H1 d1 G1 h1 S1 R1 q1=>?_⟩;refine⟨τ,G1,_,RS.ext (S1.ext RG),R1,q1,fun vs H2 ds G2 h2 S2 R2 q2=>?_⟩;rcases ds with _|⟨d,_|⟨d2,ds⟩⟩
 ·cases d1<;>exact q2.elim
 ·cases d1 with
  |int i=>
   cases d with
   |int j=>
    obtain⟨v,r,rfl,z1,z2⟩:=h2.inv;cases z2.gi;unfold Hv at z1 h1;exact⟨i,j,h1,by rw[z1],k _ _ _ _ oH (S1.trans S2) R2 q2⟩
   |_=>exact q2.elim
  |_=>exact q2.elim
 ·cases d1 with
  |int i=>cases d<;>exact q2.elim
  |_=>exact q2.elim
theorem Rx(ha:bE X a ta)(hm:X.mg "range" = none)(hb:gS X [b] tb)(hg:Gl X "range":=by rfl)(hs:notStar b=true:=by rfl):oU X (.Compare a [.NotIn] [.Call (.Name "range" p) [b] [] pos'] pos) (bQ (tN true ta tb)):=
 zR (VR (op:=.NotIn) (Rz (neg:=true) hg hm ha hb (dB hs)) rfl) fun _ _ _ h=>Ry (DG h)
end
end L3
namespace L3
open PySem PySem.Spec PyProof.Rows L2
open Sem (wp)
def Ik(k:Bool)(h:Ξ)(jt a:ε)(i:Nat):Prop:=match k with
 |true=>h.IsListIter jt a i
 |false=>h.IsTupleIter jt a i
def Sk(k:Bool)(h:Ξ)(a:ε)(xs:Array Value):Prop:=match k with
 |true=>h.IsList a xs
 |false=>h.IsTuple a xs
theorem Ik.of{k:Bool}{h h':Ξ}{jt a:ε}{i:Nat}(x:Ik k h jt a i)(f:∀o,h.get? jt=some o->h'.get? jt=some o):Ik k h' jt a i:=by
 cases k<;>(obtain⟨o,e,r⟩:=x;exact⟨o,f o e,r⟩)
theorem Sk.of{k:Bool}{h h':Ξ}{a:ε}{xs:Array Value}(x:Sk k h a xs)(f:∀o,h.get? a=some o->h'.get? a=some o):Sk k h' a xs:=by
 cases k<;>(obtain⟨o,e,r⟩:=x;exact⟨o,f o e,r⟩)
theorem Ik.obj{k:Bool}{h:Ξ}{jt a:ε}{i:Nat}(x:Ik k h jt a i):∃o,h.get? jt=some o/\∀v,o.data≠.cell v:=by
 cases k<;>(obtain⟨o,e,c,d⟩:=x;exact⟨o,e,fun v z=>by rw[d] at z;cases z⟩)
section
variable {P:Ψ} {w:af} {A:aq} {E:Value->ζ->Prop} {s:ζ}
theorem nextK{k:Bool}{jt a:ε}{i:Nat}{xs:Array Value}{u:Value}{Q:Value->ζ->Prop}(hi:Ik k s.heap jt a i)(ha:Sk k s.heap a xs)(hx:xs[i]?=some u)
  (q:∀h',Ik k h' jt a (i+1)->dn jt s.heap h'->Q u { s with heap:=h' }):μ (model P w) A (cq (.ref jt)) Q E s:=by
 cases k with
 |true=>exact wpAny_nextOf_list_item hi ha hx q
 |false=>
  have hi:s.heap.IsTupleIter jt a i:=hi;obtain⟨o,e1,c1,d1⟩:=id hi;obtain⟨oa,e2,c2,n2,d2⟩:=(show s.heap.IsTuple a xs from ha);unfold cq;refine δ (bC (name:=dm "__next__") hi.typeIs F.slot_tuple_iterator_next (bL F.slot_tuple_iterator_next hi.typeIs F.entry_tuple_iterator_next ?_ (F.args_tuple_iterator_next_1 _)));show μ _ _ (field (.ref jt) 0 >>= _) _ _ s;refine δ (aX e1 d1 (x:=.ref a) rfl ?_);show μ _ _ (if (Value.ref a==Value.none)=true then _ else _) _ _ s;rw[if_neg (show ¬((Value.ref a==Value.none)=true) from ak)];show μ _ _ (field (.ref jt) 1 >>= _) _ _ s;refine δ (aX e1 d1 (x:=.int i 0) rfl ?_);show μ _ _ (seqItems? (.ref a) >>= _) _ _ s;refine δ (dq e2 d2 ?_);simp only[hx,bR];refine δ (eJ e1 d1 (by simp) (θ ⟨u,rfl,θ (q _ ?_ (bK ..))⟩));exact⟨_,bJ _ e1 (dH (cR d1 _)),(mQ ..).trans c1,by rw[cR d1];simp[rawInt]⟩
theorem zx{k:Bool}{jt a:ε}{i:Nat}{xs:Array Value}{Q:Value->ζ->Prop}(hh:A.handled=none)(hi:Ik k s.heap jt a i)(ha:Sk k s.heap a xs)(hx:xs[i]?=none)
  (q:∀h' e,j4 jt s.heap h'->(∃o,h'.get? e=some o/\o.cls=.type "StopIteration")->E (.ref e) { s with heap:=h' }):μ (model P w) A (cq (.ref jt)) Q E s:=by
 cases k with
 |true=>exact wpAny_nextOf_list_end hh hi ha hx q
 |false=>
  have hi:s.heap.IsTupleIter jt a i:=hi;obtain⟨o,e1,c1,d1⟩:=id hi;obtain⟨oa,e2,c2,n2,d2⟩:=(show s.heap.IsTuple a xs from ha);unfold cq;refine δ (bC (name:=dm "__next__") hi.typeIs F.slot_tuple_iterator_next (bL F.slot_tuple_iterator_next hi.typeIs F.entry_tuple_iterator_next ?_ (F.args_tuple_iterator_next_1 _)));show μ _ _ (field (.ref jt) 0 >>= _) _ _ s;refine δ (aX e1 d1 (x:=.ref a) rfl ?_);show μ _ _ (if (Value.ref a==Value.none)=true then _ else _) _ _ s;rw[if_neg (show ¬((Value.ref a==Value.none)=true) from ak)];show μ _ _ (field (.ref jt) 1 >>= _) _ _ s;refine δ (aX e1 d1 (x:=.int i 0) rfl ?_);show μ _ _ (seqItems? (.ref a) >>= _) _ _ s;refine δ (dq e2 d2 ?_);simp only[hx,bR];refine δ (fU (δ (eJ e1 d1 (by simp) ?_)));show μ _ _ (newExc (.type "StopIteration") [] >>= _) _ _ ({ s with heap:=_ }:ζ);refine δ ?_;simp only[newTuple,newExc];refine δ (aR ?_ (by size_fits));refine δ (m:=firstArgMember _ _) (iz (a:=Value.none) (by first|(simp only[firstArgMember];rfl)|rfl) ?_)
  refine aR ?_ (by size_fits);simp only[raiseNew];refine δ (rM ?_)
  first|rw[hh]|rw[show A.in1.handled=none from hh]
  refine δ (θ (pV ?_));exact q _ _ (((bK ..).extBut.push _).push _) ⟨_,ψ _ rfl,rfl⟩
theorem M6{k1 k2:Bool}{zz ti ot j1 j2 a1 a2:ε}{m n:Nat}{xs ys:Array Value}{u v c d:Value}{Q:Value->ζ->Prop}(D:ZipApart zz ti ot j1 j2 a1 a2)
  (Z:j9 s.heap zz ti ot .none) (Ti:gp s.heap ti (.ref j1) (.ref j2)) (To:gp s.heap ot c d) (g1:Ik k1 s.heap j1 a1 m) (g2:Ik k2 s.heap j2 a2 n) (s1:Sk k1 s.heap a1 xs) (s2:Sk k2 s.heap a2 ys) (hu:xs[m]?=some u) (hv:ys[n]?=some v)
  (q:∀h',j9 h' zz ti ot (rawInt s.heap.objs.size)->gp h' ot u v->Ik k1 h' j1 a1 (m+1)->Ik k2 h' j2 a2 (n+1)->gp h' s.heap.objs.size u v ->
   (∀b o,b≠zz->b≠ot->b≠j1->b≠j2->s.heap.get? b=some o->h'.get? b=some o)->Q (.ref s.heap.objs.size) { s with heap:=h' }):
  μ (model P w) A (cM.«zip.__next__» ⟨[.ref zz],[]⟩) (fun fin s'=>∃r,fin=.done (.ret r)/\Q r s') E s:=by
 show μ _ _ (field (.ref zz) 2 >>= _) _ _ _;refine δ (aX Z rfl (x:=.bool false) rfl ?_);show μ _ _ (field (.ref zz) 3 >>= _) _ _ _;refine δ (aX Z rfl (x:=.ref ti) rfl ?_);refine δ (dq Ti rfl ?_);show μ _ _ (dP (.ref zz) >>= _) _ _ _;refine δ ?_;unfold dP;refine δ (aX Z rfl (x:=.none) rfl (θ ?_));simp only[if_true];refine δ (fU ?_);refine δ (aX Z rfl (x:=.ref ot) rfl ?_);refine δ (dh Z (by simp) fun w1 Z1 b1=>?_)
 replace Z1:j9 w1 zz ti ot .ellipsis:=Z1
 refine δ ?_
 (simp only[List.zipIdx_nil,List.zipIdx_cons,List.forIn_nil,oX])
 have k1_:∀b o,b≠zz->s.heap.get? b=some o->w1.get? b=some o:=fun b o h e=>b1.extBut b o h e;refine δ (δ (my ?_));show μ _ _ (cq (.ref j1) >>= _) _ _ _;refine δ (nextK (g1.of fun o e=>k1_ _ o D.i1z e) (s1.of fun o e=>k1_ _ o D.l1z e) hu fun w2 J1 b2=>θ ?_);have k2_:∀b o,b≠zz->b≠j1->s.heap.get? b=some o->w2.get? b=some o:=fun b o h h2 e=>b2.extBut b o h2 (k1_ b o h e);have To2:gp w2 ot c d:=k2_ _ _ D.TOz D.TOi1 To;refine δ (dq To2 rfl ?_);refine δ (kU To2 fun w3 To3 b3=>?_)
 replace To3:gp w3 ot u d:=To3
 have k3_:∀b o,b≠zz->b≠j1->b≠ot->s.heap.get? b=some o->w3.get? b=some o:=fun b o h h2 h3 e=>b3.extBut b o h3 (k2_ b o h h2 e);refine δ (pW (θ ?_));refine δ (δ (my ?_));show μ _ _ (cq (.ref j2) >>= _) _ _ _;refine δ (nextK (g2.of fun o e=>k3_ _ o D.i2z D.i12.symm D.TOi2.symm e) (s2.of fun o e=>k3_ _ o D.l2z D.l2i1 D.l2TO e) hv fun w4 J2 b4=>θ ?_);have To4:gp w4 ot u d:=b4.extBut _ _ D.TOi2 To3;refine δ (dq To4 rfl ?_);refine δ (kU To4 fun w5 To5 b5=>?_)
 replace To5:gp w5 ot u v:=To5
 refine δ (pW (θ (θ ?_)));refine δ (dq To5 rfl ?_);refine δ (qm ?_);have sz:w5.objs.size=s.heap.objs.size:=by rw[b5.1,b4.1,b3.1,b2.1,b1.1]
 have Z5:j9 w5 zz ti ot .ellipsis:=b5.extBut _ _ D.TOz.symm (b4.extBut _ _ D.i2z.symm (b3.extBut _ _ D.TOz.symm (b2.extBut _ _ D.i1z.symm Z1)));have k5_:∀b o,b≠zz->b≠ot->b≠j1->b≠j2->s.heap.get? b=some o->w5.get? b=some o:=fun b o c1 c2 c3 c4 e=>b5.extBut _ _ c2 (b4.extBut _ _ c4 (k3_ b o c1 c3 c2 e));have L1:Ik k1 w5 j1 a1 (m+1):=J1.of fun o e=>b5.extBut _ _ D.TOi1.symm (b4.extBut _ _ D.i12 (b3.extBut _ _ D.TOi1.symm e));have L2:Ik k2 w5 j2 a2 (n+1):=J2.of fun o e=>b5.extBut _ _ D.TOi2.symm e;have lz:zz<w5.objs.size:=χ Z5;show μ _ _ (jx (.ref zz) (.ref w5.objs.size) >>= _) _ _ _;refine δ ?_;unfold jx;have Z6:j9 (w5.push { cls:=.type "tuple",data:=.seq #[u,v]}) zz ti ot .ellipsis:=η _ Z5;refine δ (dh Z6 (by simp) fun w7 Z7 b7=>?_)
 replace Z7:j9 w7 zz ti ot (rawInt w5.objs.size):=Z7
 refine dh Z7 (by simp) fun w8 Z8 b8=>?_
 replace Z8:j9 w8 zz ti ot (rawInt w5.objs.size):=Z8
 have up:∀b o,b≠zz->w5.get? b=some o->w8.get? b=some o:=fun b o c1 e=>b8.extBut _ _ c1 (b7.extBut _ _ c1 (η _ e));have T8:gp w8 w5.objs.size u v:=b8.extBut _ _ (fx lz) (b7.extBut _ _ (fx lz) (ψ _ rfl));rw[sz] at Z8 T8;refine θ ⟨_,rfl,?_⟩;show Q (.ref w5.objs.size) _;rw[sz];exact q w8 Z8 (up _ _ D.TOz To5) (L1.of fun o e=>up _ o D.i1z e) (L2.of fun o e=>up _ o D.i2z e) T8 fun b o c1 c2 c3 c4 e=>up b o c1 (k5_ b o c1 c2 c3 c4 e)
theorem Rw{k1 k2:Bool}{zz ti ot j1 j2 a1 a2:ε}{m n:Nat}{xs ys:Array Value}{c d:Value}{Q:Fin->ζ->Prop}(hh:A.handled=none)(D:ZipApart zz ti ot j1 j2 a1 a2)
  (Z:j9 s.heap zz ti ot .none) (Ti:gp s.heap ti (.ref j1) (.ref j2)) (To:gp s.heap ot c d) (g1:Ik k1 s.heap j1 a1 m) (g2:Ik k2 s.heap j2 a2 n) (s1:Sk k1 s.heap a1 xs) (s2:Sk k2 s.heap a2 ys) (he:xs[m]?=none∨ys[n]?=none)
  (q:∀h' e,(∀b o,b≠zz->b≠ot->b≠j1->b≠j2->s.heap.get? b=some o->h'.get? b=some o)->(∃o,h'.get? e=some o/\o.cls=.type "StopIteration")->E (.ref e) { s with heap:=h' }):
  μ (model P w) A (cM.«zip.__next__» ⟨[.ref zz],[]⟩) Q E s:=by
 show μ _ _ (field (.ref zz) 2 >>= _) _ _ _;refine δ (aX Z rfl (x:=.bool false) rfl ?_);show μ _ _ (field (.ref zz) 3 >>= _) _ _ _;refine δ (aX Z rfl (x:=.ref ti) rfl ?_);refine δ (dq Ti rfl ?_);show μ _ _ (dP (.ref zz) >>= _) _ _ _;refine δ ?_;unfold dP;refine δ (aX Z rfl (x:=.none) rfl (θ ?_));simp only[if_true];refine δ (fU ?_);refine δ (aX Z rfl (x:=.ref ot) rfl ?_);refine δ (dh Z (by simp) fun w1 Z1 b1=>?_)
 replace Z1:j9 w1 zz ti ot .ellipsis:=Z1
 refine δ ?_
 (simp only[List.zipIdx_nil,List.zipIdx_cons,List.forIn_nil,oX])
 have k1_:∀b o,b≠zz->s.heap.get? b=some o->w1.get? b=some o:=fun b o h e=>b1.extBut b o h e;refine δ (δ (my ?_));show μ _ _ (cq (.ref j1) >>= _) _ _ _;cases hx:xs[m]? with
 |none=>
  refine δ (zx hh (g1.of fun o e=>k1_ _ o D.i1z e) (s1.of fun o e=>k1_ _ o D.l1z e) hx fun w2 e b2 hs=>?_);obtain⟨oe,e1,e2⟩:=hs;have Z2:j9 w2 zz ti ot .ellipsis:=b2 _ _ D.i1z.symm Z1;have ez:e≠zz:=fun x=>by
   subst x;rw[Z2] at e1;cases e1;simp at e2
  exact dh Z2 (by simp) fun w3 _ b3=>q w3 e (fun b o c1 _ c3 _ x=>b3.extBut _ _ c1 (b2 _ _ c3 (k1_ b o c1 x))) ⟨oe,b3.extBut _ _ ez e1,e2⟩
 |some u=>
  have hy:ys[n]?=none:=by
   rcases he with h|h
   ·rw[hx] at h;cases h
   ·exact h
  refine δ (nextK (g1.of fun o e=>k1_ _ o D.i1z e) (s1.of fun o e=>k1_ _ o D.l1z e) hx fun w2 J1 b2=>θ ?_);have k2_:∀b o,b≠zz->b≠j1->s.heap.get? b=some o->w2.get? b=some o:=fun b o h h2 e=>b2.extBut b o h2 (k1_ b o h e);have To2:gp w2 ot c d:=k2_ _ _ D.TOz D.TOi1 To;refine δ (dq To2 rfl ?_);refine δ (kU To2 fun w3 To3 b3=>?_);have k3_:∀b o,b≠zz->b≠j1->b≠ot->s.heap.get? b=some o->w3.get? b=some o:=fun b o h h2 h3 e=>b3.extBut b o h3 (k2_ b o h h2 e);refine δ (pW (θ ?_));refine δ (δ (my ?_));show μ _ _ (cq (.ref j2) >>= _) _ _ _;refine δ (zx hh (g2.of fun o e=>k3_ _ o D.i2z D.i12.symm D.TOi2.symm e) (s2.of fun o e=>k3_ _ o D.l2z D.l2i1 D.l2TO e) hy fun w4 e b4 hs=>?_);obtain⟨oe,e1,e2⟩:=hs;have Z4:j9 w4 zz ti ot .ellipsis:=b4 _ _ D.i2z.symm (b3.extBut _ _ D.TOz.symm (b2.extBut _ _ D.i1z.symm Z1));have ez:e≠zz:=fun x=>by
   subst x;rw[Z4] at e1;cases e1;simp at e2
  exact dh Z4 (by simp) fun w5 _ b5=>q w5 e (fun b o c1 c2 c3 c4 x=>b5.extBut _ _ c1 (b4 _ _ c4 (k3_ b o c1 c3 c2 x))) ⟨oe,b5.extBut _ _ ez e1,e2⟩
end
end L3
namespace L3
open PySem PySem.Spec PyProof.Rows L2
open Sem (wp)
section
variable {X:Cx} {pins:List (ε×aA)} {σ:L2.St} {H:Hp} {s:ζ}
theorem tI{h':Ξ}{t':Nat}{fp:List ε}(I:L2.Inv X pins σ H s)(k:∀b o,b∉fp->s.heap.get? b=some o->h'.get? b=some o)(hf:∀b∈fp,jj X pins H b):L2.Inv X pins σ H { s with heap:=h',toks:=t' }:=by
 have nit:∀b u,H b=some u->b∉fp:=fun b u e z=>by rw[(hf b z).1] at e;cases e
 refine I.step (g':=s.gens) (d':=s.drawn) (ch:=fp) (fun b hb=>?_) (fun b o _ _ hc e _=>k b o hc e) (fun b o _ _ hc e _=>⟨o.slots,k b o hc e⟩) (fun _ _ _ _ n=>n) (fun b o hc e=>⟨o,k b o hc e⟩) (fun _ _ e=>e) (fun _ _ _ e=>e) (fun b ps e=>⟨#[],by rw[e];simp⟩) (fun m hm=>?_) (fun b u e=>?_) I.bare
 ·obtain⟨f0,f1,f2,f3,f4,f5⟩:=hf b hb;exact⟨f3,f1,f4,f5⟩
 ·obtain⟨o,es,ep,ho,r⟩:=hm;exact⟨o,es,ep,k _ o (fun z=>(hf _ z).2.1 rfl) ho,r⟩
 ·refine (I.bf b u e).kf (fun c v hc q=>k c v ?_ q) (fun _ q=>q) fun _ _ q=>q;rcases hc with z|z
  ·rw[z];exact nit b u e
  ·exact nit c _ z
def hU(K:PySem.W.Frag)(k:Bool)(H:Hp)(a:ε)(xs:List V):Prop:=match k with
 |true=>ff K H a xs
 |false=>bZ K H a xs
theorem hU.heap{k:Bool}{a:ε}{xs:List V}(I:L2.Inv X pins σ H s)(h:hU X.K k H a xs):∃its,aS xs its/\Sk k s.heap a its.toArray:=by
 cases k with
 |true=>
  obtain⟨its,rv,p,hz⟩:=I.list (show ff X.K H a xs from h);exact⟨its,rv,p.isList⟩
 |false=>
  obtain⟨its,rv,p,hz⟩:=I.tuple (show bZ X.K H a xs from h);exact⟨its,rv,p⟩
theorem hU.inj{k:Bool}{a:ε}{xs ys:List V}(I:L2.Inv X pins σ H s)(h:hU X.K k H a xs)(h':hU X.K k H a ys):xs=ys:=by
 cases k with
 |true=>exact I.x9 (show ff X.K H a xs from h) (show ff X.K H a ys from h')
 |false=>exact I.sd (show bZ X.K H a xs from h) (show bZ X.K H a ys from h')
theorem hU.apart{k:Bool}{a b:ε}{xs:List V}(I:L2.Inv X pins σ H s)(h:hU X.K k H a xs)(f:jj X pins H b):a≠b:=by
 intro z;subst z;have hb:(∃u,H a=some u)∨∃o,X.K.lookup a=some o:=by
  cases k <;>
  ·rcases h with (h|⟨o,h⟩)|⟨o,_,_,h,_⟩
   ·exact .inl ⟨_,h⟩
   ·exact .inl ⟨_,h⟩
   ·exact .inr ⟨_,h⟩
 rcases hb with⟨u,e⟩|⟨o,e⟩
 ·rw[f.1] at e;cases e
 ·have e2:=I.mod.nR a o e;rcases f.2.2.2.1 with q|q
  ·exact I.ok.uE a o e2 q
  ·exact absurd (ba (χ (I.ok.bs a o e2).1) q) (cf _)
end
def M2(K:PySem.W.Frag)(k1 k2:Bool)(a1 a2:ε):It:=
 ⟨fun i H=>∃xs ys x y,(hU K k1 H a1 xs/\xs[i]?=some x)/\hU K k2 H a2 ys/\ys[i]?=some y,
  fun i H x H'=>∃T u v,x=.ref T/\H T=none/\H'=upd H T (.tup [u,v])/\(∀xs,hU K k1 H a1 xs->xs[i]?=some u)/\∀ys,hU K k2 H a2 ys->ys[i]?=some v,
  fun i H=>∃xs ys,hU K k1 H a1 xs/\hU K k2 H a2 ys/\(xs.length≤i∨ys.length≤i)⟩
theorem MP{zz ti ot j1 j2 a1 a2:ε}(h:[zz,ti,ot,j1,j2].Nodup)(h1:∀b∈[zz,ti,ot,j1,j2],a1≠b)(h2:∀b∈[zz,ti,ot,j1,j2],a2≠b):ZipApart zz ti ot j1 j2 a1 a2:=by
 simp only[df,Φ,not_or,aM,not_false_eq_true,g8,and_true] at h;obtain⟨⟨n1,n2,n3,n4⟩,⟨n5,n6,n7⟩,⟨n8,n9⟩,n10⟩:=h;exact⟨da n1,da n2,da n3,da n4,n5,n6,n7,n8,n9,n10,h1 _ (by simp),h1 _ (by simp),h1 _ (by simp),h1 _ (by simp),h2 _ (by simp),h2 _ (by simp),h2 _ (by simp),h2 _ (by simp)⟩
theorem Rv{P:Ψ}{w:af}{K:PySem.W.Frag}{es:List ο}{n0:Nat}{ps:ay}(k1 k2:Bool)(a1 a2 zz ti ot j1 j2:ε)(hd:[zz,ti,ot,j1,j2].Nodup):
  Turn P w K (.Tuple es n0 ps) (M2 K k1 k2 a1 a2) [zz,ti,ot,j1,j2] zz (fun i h=>j9 h zz ti ot .none/\gp h ti (.ref j1) (.ref j2)/\(∃c d,gp h ot c d)/\Ik k1 h j1 a1 i/\Ik k2 h j2 a2 i) where
 mem:=by simp
 obj:=fun i h st b hb=>by
  obtain⟨Z,Ti,⟨c,d,To⟩,g1,g2⟩:=st;simp only[Φ,aM,or_false] at hb;rcases hb with rfl|rfl|rfl|rfl|rfl
  ·exact⟨_,Z,fun v z=>by cases (show Data.fields _=Data.cell v from z)⟩
  ·exact⟨_,Ti,fun v z=>by cases (show Data.seq _ _=Data.cell v from z)⟩
  ·exact⟨_,To,fun v z=>by cases (show Data.seq _ _=Data.cell v from z)⟩
  ·exact g1.obj
  ·exact g2.obj
 keep:=fun i h h' st k=>by
  obtain⟨Z,Ti,⟨c,d,To⟩,g1,g2⟩:=st;exact⟨k _ (by simp) _ Z,k _ (by simp) _ Ti,⟨c,d,k _ (by simp) _ To⟩,g1.of fun o e=>k _ (by simp) _ e,g2.of fun o e=>k _ (by simp) _ e⟩
 item:=by
  intro X hP hw hK hc i pins s σ H E I hf st hg;subst hP hw hK;obtain⟨Z,Ti,⟨c,d,To⟩,g1,g2⟩:=st;obtain⟨xs,ys,x,y,⟨q1,hx⟩,q2,hy⟩:=hg;obtain⟨its1,rv1,p1⟩:=q1.heap I;obtain⟨its2,rv2,p2⟩:=q2.heap I;obtain⟨u,hu,ru⟩:=rv1.get hx;obtain⟨v,hv,rv⟩:=rv2.get hy;have D:=MP hd (fun b hb=>q1.apart I (hf b hb)) (fun b hb=>q2.apart I (hf b hb));have hT:s.TypeIs (.ref zz) "zip":=⟨_,Z,rfl⟩;unfold pyNext;refine δ (fJ (bC (name:=dm "__next__") hT F.slot_zip_next (bL F.slot_zip_next hT F.entry_zip_next (M6 D Z Ti To g1 g2 p1 p2 (u:=u) (v:=v) (by simpa using hu) (by simpa using hv) fun h' Z' To' g1' g2' T' kp=>?_) (F.args_zip_next_1 _))));refine θ ⟨_,rfl,?_⟩;refine wpAny_letOwnedTupleGo_zip Z' fun h2 Z2 b2=>?_;have hn:H s.heap.objs.size=none:=I.bf.fresh (Ω _);have I1:L2.Inv X pins σ (upd H s.heap.objs.size (.tup [x,y])) { s with heap:=s.heap.push { cls:=.type "tuple",data:=.seq #[u,v]}}:=I.laid (t':=s.toks) (fun b o e=>η _ e) (Ω _) ⟨by show 2≤ai;decide,[u,v],.cons ru (.cons rv .nil),⟨_,ψ _ rfl,rfl,⟨_,rfl⟩,rfl⟩⟩;have lt:∀b∈[zz,ti,ot,j1,j2],b<s.heap.objs.size:=fun b hb=>by
   simp only[Φ,aM,or_false] at hb;rcases hb with rfl|rfl|rfl|rfl|rfl
   ·exact χ Z
   ·exact χ Ti
   ·exact χ To
   ·obtain⟨o,e,_⟩:=g1.obj;exact χ e
   ·obtain⟨o,e,_⟩:=g2.obj;exact χ e
  have hf':∀b∈[zz,ti,ot,j1,j2],jj X pins (upd H s.heap.objs.size (.tup [x,y])) b:=fun b hb=>⟨by rw[dj (av (lt b hb))];exact (hf b hb).1,(hf b hb).2⟩;have I2:L2.Inv X pins σ (upd H s.heap.objs.size (.tup [x,y])) { s with heap:=h2 }:=tI (s:={ s with heap:=s.heap.push { cls:=.type "tuple",data:=.seq #[u,v]}}) (t':=s.toks) I1 (fun b o hb e=>by
   simp only[Φ,aM,or_false,not_or] at hb;refine b2.extBut b o hb.1 ?_;rcases rF e with⟨rfl,rfl⟩|e
   ·exact T'
   ·exact kp b o hb.1 hb.2.2.1 hb.2.2.2.1 hb.2.2.2.2 e) hf'
  refine⟨.ref s.heap.objs.size,_,I2,rfl,⟨_,x,y,rfl,hn,rfl,fun zs hz=>by rw[hz.inj I q1];exact hx,fun zs hz=>by rw[hz.inj I q2];exact hy⟩,⟨Z2,?_,⟨u,v,?_⟩,g1'.of fun o e=>b2.extBut _ _ D.i1z e,g2'.of fun o e=>b2.extBut _ _ D.i2z e⟩,fun b hb=>(hf' b hb).1⟩
  ·exact b2.extBut _ _ D.TIz (kp _ _ D.TIz D.TITO D.TIi1 D.TIi2 Ti)
  ·exact b2.extBut _ _ D.TOz To'
 done:=by
  intro X hP hw hK hc i pins s σ H E I hf st hg;subst hP hw hK;obtain⟨Z,Ti,⟨c,d,To⟩,g1,g2⟩:=st;obtain⟨xs,ys,q1,q2,hl⟩:=hg;obtain⟨its1,rv1,p1⟩:=q1.heap I;obtain⟨its2,rv2,p2⟩:=q2.heap I;have D:=MP hd (fun b hb=>q1.apart I (hf b hb)) (fun b hb=>q2.apart I (hf b hb));have hT:s.TypeIs (.ref zz) "zip":=⟨_,Z,rfl⟩;have l1:=rv1.length;have l2:=rv2.length;unfold pyNext;refine δ (fJ (bC (name:=dm "__next__") hT F.slot_zip_next (bL F.slot_zip_next hT F.entry_zip_next (Rw (I.ok.hd hc) D Z Ti To g1 g2 p1 p2 (by
   rcases hl with h|h
   ·exact .inl (by simp;omega)
   ·exact .inr (by simp;omega)) fun h' e kp hs=>?_) (F.args_zip_next_1 _))))
  obtain⟨o,ho,hcl⟩:=hs;refine δ (ij (T:="StopIteration") (b:=true) ⟨o,ho,hcl⟩ lO ?_);refine θ ⟨rfl,tI (t':=s.toks) I (fun b o hb e=>?_) hf⟩;simp only[Φ,aM,or_false,not_or] at hb;exact kp b o hb.1 hb.2.2.1 hb.2.2.2.1 hb.2.2.2.2 e
 self:=fun _ _ _ _ _ st h=>wpAny_pyIter_zip st.1 h
def yG(k:Bool)(a:ε):aA:=match k with
 |true=>{ cls:=.type "list_iterator",data:=.fields #[.ref a,.int 0 0]}
 |false=>{ cls:=.type "tuple_iterator",data:=.fields #[.ref a,.int 0 0]}
def BI(k1:Bool)(h:Ξ)(a1:ε):Ξ:=h.push (yG k1 a1)
def BH(k1 k2:Bool)(h:Ξ)(a1 a2:ε):Ξ:=(BI k1 h a1).push (yG k2 a2)
def BG(k1 k2:Bool)(h:Ξ)(a1 a2:ε):Ξ:=(BH k1 k2 h a1 a2).push { cls:=.type "tuple",data:=.seq #[.ref h.objs.size,.ref (BI k1 h a1).objs.size]}
def yy(k1 k2:Bool)(h:Ξ)(a1 a2:ε):Ξ:=(BG k1 k2 h a1 a2).push { cls:=.type "tuple",data:=.seq #[.none,.none]}
def kB(k1 k2:Bool)(h:Ξ)(a1 a2:ε):Ξ:=(yy k1 k2 h a1 a2).push { cls:=.type "zip",data:=.fields #[.none,.bool false,.bool false,.ref (BH k1 k2 h a1 a2).objs.size,.ref (BG k1 k2 h a1 a2).objs.size]}
theorem MT{k:Bool}{h:Ξ}{jt a:ε}(e:h.get? jt=some (yG k a)):Ik k h jt a 0:=by
 cases k<;>exact⟨_,e,rfl,rfl⟩
theorem JC{k:Bool}{a:ε}:(yG k a).isFreed=false:=by cases k<;>rfl
theorem Ru(k1 k2:Bool)(a1 a2:ε)(xs ys:Array Value):Meets (cM.«zip.__new__» ⟨[.type "zip",.ref a1,.ref a2],[]⟩) (fun _ R s=>Sk k1 s.heap a1 xs/\Sk k2 s.heap a2 ys ∧
   R (.ok (.ret (.ref (yy k1 k2 s.heap a1 a2).objs.size))) { s with heap:=kB k1 k2 s.heap a1 a2 }):=
 .of_wp fun prog w A R s h=>by
  obtain⟨hp,g,d,tk,os⟩:=s;obtain⟨h1,h2,h⟩:=h;have hsub:=sub_zip;cases k1<;>cases k2
  ·have q1:lj (gb ⟨hp,g,d,tk,os⟩) a1 xs:=h1;have q2:lj (gb ⟨hp.push { cls:=.type "tuple_iterator",data:=.fields #[.ref a1,.int 0 0]},g,d,tk,os⟩) a2 ys:=t8 h2 _;wp_walk using cO q1,cO q2;exact⟨_,rfl,h⟩
  ·have q1:lj (gb ⟨hp,g,d,tk,os⟩) a1 xs:=h1;have q2:p7 (gb ⟨hp.push { cls:=.type "tuple_iterator",data:=.fields #[.ref a1,.int 0 0]},g,d,tk,os⟩) a2 ys:=uN h2 _;wp_walk using cO q1,eZ q2;exact⟨_,rfl,h⟩
  ·have q1:p7 (gb ⟨hp,g,d,tk,os⟩) a1 xs:=h1;have q2:lj (gb ⟨hp.push { cls:=.type "list_iterator",data:=.fields #[.ref a1,.int 0 0]},g,d,tk,os⟩) a2 ys:=t8 h2 _;wp_walk using eZ q1,cO q2;exact⟨_,rfl,h⟩
  ·have q1:p7 (gb ⟨hp,g,d,tk,os⟩) a1 xs:=h1;have q2:p7 (gb ⟨hp.push { cls:=.type "list_iterator",data:=.fields #[.ref a1,.int 0 0]},g,d,tk,os⟩) a2 ys:=uN h2 _;wp_walk using eZ q1,eZ q2;exact⟨_,rfl,h⟩
theorem JB{k1 k2:Bool}{h:Ξ}{a1 a2:ε}:j9 (kB k1 k2 h a1 a2) (h.objs.size+4) (h.objs.size+2) (h.objs.size+3) .none/\gp (kB k1 k2 h a1 a2) (h.objs.size+2) (.ref h.objs.size) (.ref (h.objs.size+1))/\gp (kB k1 k2 h a1 a2) (h.objs.size+3) .none .none ∧
  Ik k1 (kB k1 k2 h a1 a2) h.objs.size a1 0/\Ik k2 (kB k1 k2 h a1 a2) (h.objs.size+1) a2 0/\(yy k1 k2 h a1 a2).objs.size=h.objs.size+4/\∀c o,h.get? c=some o->(kB k1 k2 h a1 a2).get? c=some o:=by
 have e1:(BI k1 h a1).objs.size=h.objs.size+1:=de ..;have e2:(BH k1 k2 h a1 a2).objs.size=h.objs.size+2:=(de ..).trans (by rw[e1]);have e3:(BG k1 k2 h a1 a2).objs.size=h.objs.size+3:=(de ..).trans (by rw[e2]);have e4:(yy k1 k2 h a1 a2).objs.size=h.objs.size+4:=(de ..).trans (by rw[e3]);have u5:∀c o,(yy k1 k2 h a1 a2).get? c=some o->(kB k1 k2 h a1 a2).get? c=some o:=fun c o e=>η _ e;have u4:∀c o,(BG k1 k2 h a1 a2).get? c=some o->(kB k1 k2 h a1 a2).get? c=some o:=fun c o e=>u5 c o (η _ e);have u3:∀c o,(BH k1 k2 h a1 a2).get? c=some o->(kB k1 k2 h a1 a2).get? c=some o:=fun c o e=>u4 c o (η _ e);have u2:∀c o,(BI k1 h a1).get? c=some o->(kB k1 k2 h a1 a2).get? c=some o:=fun c o e=>u3 c o (η _ e);have u1:∀c o,h.get? c=some o->(kB k1 k2 h a1 a2).get? c=some o:=fun c o e=>u2 c o (η _ e);have g5:(kB k1 k2 h a1 a2).get? (yy k1 k2 h a1 a2).objs.size=some _:=ψ _ rfl;have g4:(kB k1 k2 h a1 a2).get? (BG k1 k2 h a1 a2).objs.size=some _:=u5 _ _ (ψ _ rfl);have g3:(kB k1 k2 h a1 a2).get? (BH k1 k2 h a1 a2).objs.size=some _:=u4 _ _ (ψ _ rfl);have g2:(kB k1 k2 h a1 a2).get? (BI k1 h a1).objs.size=some (yG k2 a2):=u3 _ _ (ψ _ JC);have g1:(kB k1 k2 h a1 a2).get? h.objs.size=some (yG k1 a1):=u2 _ _ (ψ _ JC);rw[e2,e3,e4] at g5;rw[e1,e2] at g3;rw[e3] at g4;rw[e1] at g2;exact⟨g5,g3,g4,MT g1,MT g2,e4,u1⟩
theorem Rt{P:Ψ}{w:af}{A:aq}{E:Value->ζ->Prop}{s:ζ}{k1 k2:Bool}{a1 a2:ε}{xs ys:Array Value}{Q:Value->ζ->Prop}(h1:Sk k1 s.heap a1 xs)(h2:Sk k2 s.heap a2 ys)
  (q:Q (.ref (s.heap.objs.size+4)) { s with heap:=kB k1 k2 s.heap a1 a2 }):μ (model P w) A (call (.type "zip") [.ref a1,.ref a2]) Q E s:=by
 refine callType_new F.called_zip (by decide) (F.typeCall_zip_2 _ _) (F.newCall_zip_2 _ _) (fun obj=>F.args_object_init_3 obj _ _) F.entry_zip_new (Ru k1 k2 a1 a2 xs ys) ⟨h1,h2,?_⟩;obtain⟨z1,_,_,_,_,z2,_⟩:=JB (k1:=k1) (k2:=k2) (h:=s.heap) (a1:=a1) (a2:=a2);show _/\_;rw[z2];exact⟨⟨_,z1,rfl⟩,q⟩
section
variable {X:Cx} {es:List ο} {n0:Nat} {ps p pos:ay}
def Zr(K:PySem.W.Frag)(ta:TA):TI:=fun σ H R=>ta σ H fun vs H1=>∃k1 k2 a1 a2,vs=[.ref a1,.ref a2]/\(∃xs,hU K k1 H1 a1 xs)/\(∃ys,hU K k2 H1 a2 ys)/\R (M2 K k1 k2 a1 a2) H1
theorem Rr{a b:ο}{ta:TA}(hg:Gl X "zip")(hm:X.mg "zip" = none)(ha:PA X [a,b] ta)(hs:bx [a,b] X.env=[(false,eval a X.env),(false,eval b X.env)]:=by rfl)(hs2:bx [b] X.env=[(false,eval b X.env)]:=by rfl):
  PI X (.Tuple es n0 ps) (.Call (.Name "zip" p) [a,b] [] pos) (Zr X.K ta):=by
 intro pins s σ H R I h;refine Call_ (qN I hg hm boot_zip (cG (br (ha pos pins s σ H _ I h) fun us s1 ⟨vs,H1,I1,r1,q1⟩=>?_) (by rw[hs,hs2]) (by rw[hs2];rfl)));obtain⟨k1,k2,a1,a2,e,⟨xs,q1⟩,⟨ys,q2⟩,q⟩:=q1;subst e;cases r1 with
 |cons r rr=>
  cases rr with
  |cons r' rr=>
   cases rr;cases r;cases r';obtain⟨its1,rv1,p1⟩:=q1.heap I1;obtain⟨its2,rv2,p2⟩:=q2.heap I1;refine Rt p1 p2 ?_;obtain⟨z1,z2,z3,z4,z5,z6,z7⟩:=JB (k1:=k1) (k2:=k2) (h:=s1.heap) (a1:=a1) (a2:=a2);refine wpAny_pyIter_zip (s:={ s1 with heap:=kB k1 k2 s1.heap a1 a2 }) z1 ?_
   refine⟨s1.heap.objs.size+4,[s1.heap.objs.size+4,s1.heap.objs.size+2,s1.heap.objs.size+3,s1.heap.objs.size,s1.heap.objs.size+1],_,_,H1,rfl,I1.kept (t':=s1.toks) z7,Rv k1 k2 a1 a2 _ _ _ _ _ (by simp),⟨z1,z2,⟨_,_,z3⟩,z4,z5⟩,fun b hb=>?_,q⟩;have hb:s1.heap.objs.size≤b:=by
    simp only[Φ,aM,or_false] at hb;rcases hb with rfl|rfl|rfl|rfl|rfl
    ·exact gm _ _
    ·exact gm _ _
    ·exact gm _ _
    ·exact Ω _
    ·exact gm _ _
   exact I1.pR hb (I1.bf.fresh hb)
def uk(G:Gp):D->List D->Prop
 |.obj p,ds=>G p=some (.lst ds)
 |.tup es,ds=>ds=es
 |.eN es,ds=>ds=es
 |_,_=>False
def qw(xs ys:List D):List D:=List.zipWith (fun x y=>.tup [x,y]) xs ys
def DZ(ta:b9):mh:=fun τ G R=>ta τ G fun ds G1=>match ds with
 |[x,y]=>∃xs ys,uk G1 x xs/\uk G1 y ys/\R ⟨qw xs ys,fun G=>uk G x xs/\uk G y ys⟩ G1
 |_=>False
theorem Dj{K:PySem.W.Frag}{H:Hp}{x:D}{v:V}(hv:Hv K H x v):∃k,∀H' G' xs,Ext H H'->aD K G' H'->uk G' x xs->∃a vs,v=.ref a/\hU K k H' a vs/\aw K H' xs vs:=by
 cases x with
 |obj p=>
  unfold Hv at hv;subst hv;refine⟨true,fun H' G' xs E RG h=>?_⟩;obtain⟨vs,e2,e3⟩:=RG p _ h;exact⟨p,vs,rfl,ff.of e2,e3⟩
 |tup es=>
  unfold Hv at hv;obtain⟨a,vs,rfl,e2,e3⟩:=hv;refine⟨false,fun H' G' xs E RG h=>?_⟩;cases (show xs=es from h);exact⟨a,vs,rfl,bZ.ext E e2,e3.ext E⟩
 |eN es=>
  unfold Hv at hv;obtain⟨a,vs,rfl,e2,e3⟩:=hv;refine⟨true,fun H' G' xs E RG h=>?_⟩;cases (show xs=es from h);exact⟨a,vs,rfl,(ku.ext E e2).l,e3.ext E⟩
 |az=>exact⟨true,fun _ _ _ _ _ h=>h.elim⟩
 |bl _=>exact⟨true,fun _ _ _ _ _ h=>h.elim⟩
 |int _=>exact⟨true,fun _ _ _ _ _ h=>h.elim⟩
 |str _=>exact⟨true,fun _ _ _ _ _ h=>h.elim⟩
 |dc _=>exact⟨true,fun _ _ _ _ _ h=>h.elim⟩
theorem JA{xs ys:List D}{i:Nat}{d:D}(h:(qw xs ys)[i]?=some d):∃x y,xs[i]?=some x/\ys[i]?=some y/\d=.tup [x,y]:=by
 unfold qw at h;rw[List.getElem?_zipWith] at h;cases hx:xs[i]? with
 |none=>rw[hx] at h;cases h
 |some x=>
  cases hy:ys[i]? with
  |none=>rw[hx,hy] at h;cases h
  |some y=>
   rw[hx,hy] at h;cases h;exact⟨x,y,rfl,rfl,rfl⟩
theorem R9{a b:ο}{ta:b9}(hm:X.mg "zip" = none)(ha:gS X [a,b] ta)(hg:Gl X "zip":=by rfl)(hs:notStar a=true:=by rfl)(hs2:notStar b=true:=by rfl):
  vh X (.Tuple es n0 ps) (.Call (.Name "zip" p) [a,b] [] pos) (DZ ta):=
 Ae (Rr hg hm ha (by rw[dB hs,dB hs2];rfl) (dB hs2)) fun σ H R ⟨τ,G,R3,RS,RG,h,k⟩=>⟨τ,G,_,RS,RG,h,fun vs H1 ds G1 h1 S1 R1 q1=>by
  rcases ds with _|⟨d,_|⟨d2,_|⟨d3,ds⟩⟩⟩
  ·exact q1.elim
  ·exact q1.elim
  ·obtain⟨xs,ys,s1,s2,q⟩:=q1;obtain⟨v,r,rfl,z1,z2⟩:=h1.inv;obtain⟨v',r',rfl,z3,z4⟩:=z2.inv;cases z4.gi;obtain⟨k1,f1⟩:=Dj z1;obtain⟨k2,f2⟩:=Dj z3;obtain⟨a1,vs1,rfl,y1,w1⟩:=f1 _ _ _ (Ext.refl _) R1 s1;obtain⟨a2,vs2,rfl,y2,w2⟩:=f2 _ _ _ (Ext.refl _) R1 s2;refine⟨k1,k2,a1,a2,rfl,⟨_,y1⟩,⟨_,y2⟩,k _ _ _ _ ⟨?_,?_⟩ S1 R1 q⟩
   ·intro i d H' G' E' RG' hg hi;obtain⟨x,y,e1,e2,rfl⟩:=JA hi;obtain⟨b1,us1,c1,m1,n1⟩:=f1 _ _ _ E' RG' hg.1;obtain⟨b2,us2,c2,m2,n2⟩:=f2 _ _ _ E' RG' hg.2;cases c1;cases c2;obtain⟨u1,o1,o2⟩:=n1.get e1;obtain⟨u2,o3,o4⟩:=n2.get e2;refine⟨⟨_,_,_,_,⟨m1,o1⟩,m2,o3⟩,fun x' H'' hy=>?_⟩;obtain⟨T,u,v,rfl,hn,rfl,t1,t2⟩:=hy;have:=t1 _ m1;rw[o1] at this;cases this;have:=t2 _ m2;rw[o3] at this;cases this;refine⟨?_,.laid hn,RG'.laid hn⟩;unfold Hv;exact⟨T,_,rfl,.of gh,.cons (o2.ext (.laid hn)) (.cons (o4.ext (.laid hn)) .nil)⟩
   ·intro i H' G' E' RG' hg hi;obtain⟨b1,us1,c1,m1,n1⟩:=f1 _ _ _ E' RG' hg.1;obtain⟨b2,us2,c2,m2,n2⟩:=f2 _ _ _ E' RG' hg.2;cases c1;cases c2;refine⟨_,_,m1,m2,?_⟩;have hi:(qw xs ys).length≤i:=hi;unfold qw at hi;rw[rW] at hi;rw[←n1.length,←n2.length];omega
  ·exact q1.elim⟩
end
end L3
namespace L3
open PySem PySem.Spec PyProof.Rows L2
open Sem (wp)
theorem Ln{P:Ψ}{w:af}{A:aq}{k:Bool}(hh:A.handled=none)(it a:ε)(cy:a≠it)(xs:Array Value):
  Draws P w A it [it,a] xs.size (fun i v=>xs[i]?=some v) (fun i h=>Ik k h it a i/\Sk k h a xs) where
 live:=fun _ _ st=>let ⟨o,ho,_⟩:=st.1.obj;⟨o,ho⟩
 frame:=fun _ _ _ st hk=>⟨st.1.of fun o e=>hk it (by simp) o e,st.2.of fun o e=>hk a (by simp) o e⟩
 item:=fun i s Q E hi st hQ=>by
  refine nextK st.1 st.2 (u:=xs[i]) (by simp[hi]) fun h' hit' hs'=>?_;exact hQ _ h' s.toks (by simp[hi]) ⟨hit',st.2.of fun o e=>hs'.extBut a o cy e⟩ hs'
 done:=fun s Q E st hE=>zx hh st.1 st.2 (by simp) hE
section
variable {P:Ψ} {w:af} {A:aq} {E:Value->ζ->Prop} {s:ζ}
theorem R8{k:Bool}{e it a:ε}{i:Int}{j:Nat}{xs:Array Value}{old:Value}{Q:Option Value->ζ->Prop}(hh:A.handled=none)(he:IsEnum s.heap e it i old)(hi:Ik k s.heap it a j)(ha:Sk k s.heap a xs)(hx:xs[j]?=none)
  (hQ:∀h',j4 it s.heap h'->Q none { s with heap:=h' }):μ (model P w) A (pyNext (.ref e)) Q E s:=by
 have hT:s.TypeIs (.ref e) "enumerate":=⟨_,he,rfl⟩;unfold pyNext;refine δ (fJ (bC (name:=dm "__next__") hT F.slot_enumerate_next
  (bL F.slot_enumerate_next hT F.entry_enumerate_next ?_ (F.args_enumerate_next_1 _))))
 show μ _ _ (field (.ref e) 2 >>= _) _ _ _;refine δ (aX he rfl (x:=.ref it) rfl ?_);refine δ (zx (by simpa using hh) hi ha hx fun h' x he' hx'=>?_);obtain⟨o,ho,hc⟩:=hx';refine δ (ij (T:="StopIteration") (b:=true) ⟨o,ho,hc⟩ lO ?_);exact θ (hQ _ he')
open AutoSeq1 (wpAny_loadPart') in
theorem R7(l:ε)(items:Array Value)(n:Nat)(eD:Option ε)(sl:Array (Option Value)):
  Meets (cM.«enumerate.__new__» ⟨[.type "enumerate",.ref l],[]⟩) (fun _ R s=>s.heap.get? l=some { cls:=.type "tuple",dict:=eD,data:=.seq items n,slots:=sl } ∧
   R (.ok (.ret (.ref (s.heap.push { cls:=.type "tuple_iterator",data:=.fields #[.ref l,.int 0 0]}).objs.size)))
    { s with heap:=(s.heap.push { cls:=.type "tuple_iterator",data:=.fields #[.ref l,.int 0 0]}).push { cls:=.type "enumerate",data:=.fields #[.none,.bool false,.ref s.heap.objs.size,rawInt 0,.none,.none]}}):=
 .of_wp fun prog w A R s h=>by
  obtain⟨hp,g,d,tk,os⟩:=s;obtain⟨hl,h⟩:=h;have hsub:=sub_enumerate;have hL:lj (gb ⟨hp,g,d,tk,os⟩) l items:=⟨_,hl,rfl,n,rfl⟩;wp_walk using wpAny_loadPart' hl;refine wpAny_stack_any fun st=>θ ?_;split
  ·rename_i c _ _ _ _ _;cases (c==Value.type "enumerate")
   ·wp_walk using wpAny_loadPart' hl,cO hL;exact⟨_,rfl,h⟩
   ·wp_walk using wpAny_loadPart' hl,cO hL;exact⟨_,rfl,h⟩
  ·wp_walk using wpAny_loadPart' hl,cO hL;exact⟨_,rfl,h⟩
theorem R6{l:ε}{items:Array Value}{Q:Value->ζ->Prop}(hL:s.heap.IsTuple l items)
  (h:∀h',IsEnum h' (s.heap.objs.size+1) s.heap.objs.size 0 .none->h'.IsTupleIter s.heap.objs.size l 0->h'.objs.size=s.heap.objs.size+2 ->
   (∀b o,s.heap.get? b=some o->h'.get? b=some o)->Q (.ref (s.heap.objs.size+1)) { s with heap:=h' }):
  μ (model P w) A (call (.type "enumerate") [.ref l]) Q E s:=by
 obtain⟨⟨c,eD,dt,sl⟩,hl,hc,n,hd⟩:=hL
 replace hc:c=.type "tuple":=hc
 replace hd:dt=.seq items n:=hd
 subst hc hd;refine callType_new F.called_enumerate (by decide) (F.typeCall_enumerate_1 _) (F.newCall_enumerate_1 _) (fun obj=>F.args_object_init_2 obj _) F.entry_enumerate_new
  (R7 l items n eD sl) ⟨hl,?_⟩
 have hz:(s.heap.push { cls:=.type "tuple_iterator",data:=.fields #[.ref l,.int 0 0]}).objs.size=s.heap.objs.size+1:=de ..;show _/\_;rw[hz];have he:IsEnum ((s.heap.push { cls:=.type "tuple_iterator",data:=.fields #[.ref l,.int 0 0]}).push
   { cls:=.type "enumerate",data:=.fields #[.none,.bool false,.ref s.heap.objs.size,rawInt 0,.none,.none]}) (s.heap.objs.size+1) s.heap.objs.size 0 .none:=by
  have:=ψ (s.heap.push { cls:=.type "tuple_iterator",data:=.fields #[.ref l,.int 0 0]})
   (o:={ cls:=.type "enumerate",data:=.fields #[.none,.bool false,.ref s.heap.objs.size,rawInt 0,.none,.none]}) rfl
  rw[hz] at this;exact this
 refine⟨⟨_,he,rfl⟩,h _ he ⟨_,η _ (ψ _ rfl),rfl,rfl⟩ (by rw[de,hz]) fun b o x=>η _ (η _ x)⟩
theorem R0{k:Bool}{l:ε}{items:Array Value}{Q:Value->ζ->Prop}(hL:Sk k s.heap l items)
  (h:∀h',IsEnum h' (s.heap.objs.size+1) s.heap.objs.size 0 .none->Ik k h' s.heap.objs.size l 0->h'.objs.size=s.heap.objs.size+2 ->
   (∀b o,s.heap.get? b=some o->h'.get? b=some o)->Q (.ref (s.heap.objs.size+1)) { s with heap:=h' }):
  μ (model P w) A (call (.type "enumerate") [.ref l]) Q E s:=by
 cases k with
 |true=>exact call_enumerate_list hL h
 |false=>exact R6 hL h
end
def M3(K:PySem.W.Frag)(k:Bool)(a:ε):It:=
 ⟨fun i H=>∃xs x,hU K k H a xs/\xs[i]?=some x,
  fun i H x H'=>∃T u,x=.ref T/\H T=none/\H'=upd H T (.tup [.int i,u])/\∀xs,hU K k H a xs->xs[i]?=some u,
  fun i H=>∃xs,hU K k H a xs/\xs.length≤i⟩
theorem RZ{P:Ψ}{w:af}{K:PySem.W.Frag}{es:List ο}{n0:Nat}{ps:ay}(k:Bool)(a en jt:ε)(cy:en≠jt):
  Turn P w K (.Tuple es n0 ps) (M3 K k a) [en,jt] en (fun i h=>(∃old,IsEnum h en jt i old)/\Ik k h jt a i) where
 mem:=by simp
 obj:=fun i h st b hb=>by
  obtain⟨⟨old,Z⟩,g⟩:=st;simp only[Φ,aM,or_false] at hb;rcases hb with rfl|rfl
  ·exact⟨_,Z,fun v z=>by cases (show Data.fields _=Data.cell v from z)⟩
  ·exact g.obj
 keep:=fun i h h' st k=>⟨let ⟨old,Z⟩:=st.1;⟨old,k _ (by simp) _ Z⟩,st.2.of fun o e=>k _ (by simp) _ e⟩
 item:=by
  intro X hP hw hK hc i pins s σ H E I hf st hg;subst hP hw hK;obtain⟨⟨old,Z⟩,g⟩:=st;obtain⟨xs,x,q1,hx⟩:=hg;obtain⟨its,rv,p⟩:=hU.heap I q1;obtain⟨u,hu,ru⟩:=rv.get hx;have hi:i<its.toArray.size:=by
   have:=(aN.mp hu).1;simpa using this
  have hja:a≠jt:=hU.apart I q1 (hf jt (by simp));have hea:a≠en:=hU.apart I q1 (hf en (by simp));refine wpAny_pyNext_enum_itemD (Ln (k:=k) (by have:=I.ok.hd hc;simpa using this) jt a hja its.toArray) Z ⟨g,p⟩ hi cy (by simp[cy,hea.symm]) fun x2 h' tk hx2 Z' g' T' sz kp=>⟨_,rfl,?_⟩;have ex:x2=u:=by
   have:its.toArray[i]?=some u:=by simpa using hu
   rw[hx2] at this;exact ao this
  subst ex;refine wpAny_letOwnedTupleGo_enum (s:={ s with heap:=h',toks:=tk+1 }) Z' fun h2 Z2 b2=>?_;have hn:H s.heap.objs.size=none:=I.bf.fresh (Ω _);have I1:L2.Inv X pins σ (upd H s.heap.objs.size (.tup [.int i,x])) { s with heap:=s.heap.push { cls:=.type "tuple",data:=.seq #[.int i tk,x2]}}:=I.laid (t':=s.toks) (fun b o e=>η _ e) (Ω _) ⟨by show 2≤ai;decide,[.int i tk,x2],.cons ⟨_,rfl⟩ (.cons ru .nil),⟨_,ψ _ rfl,rfl,⟨_,rfl⟩,rfl⟩⟩;have lt:∀b∈[en,jt],b<s.heap.objs.size:=fun b hb=>by
   simp only[Φ,aM,or_false] at hb;rcases hb with rfl|rfl
   ·exact χ Z
   ·obtain⟨o,e,_⟩:=g.obj;exact χ e
  have hf':∀b∈[en,jt],jj X pins (upd H s.heap.objs.size (.tup [.int i,x])) b:=fun b hb=>⟨by rw[dj (av (lt b hb))];exact (hf b hb).1,(hf b hb).2⟩;have I2:L2.Inv X pins σ (upd H s.heap.objs.size (.tup [.int i,x])) { s with heap:=h2,toks:=tk+1 }:=tI (s:={ s with heap:=s.heap.push { cls:=.type "tuple",data:=.seq #[.int i tk,x2]}}) (t':=tk+1) I1 (fun b o hb e=>by
   simp only[Φ,aM,or_false,not_or] at hb;refine b2.extBut b o hb.1 ?_;rcases rF e with⟨rfl,rfl⟩|e
   ·exact T'
   ·exact kp b o hb.1 hb.2 e) hf'
  exact⟨.ref s.heap.objs.size,_,I2,rfl,⟨_,x,rfl,hn,rfl,fun zs hz=>by rw[hU.inj I hz q1];exact hx⟩,⟨⟨_,Z2⟩,g'.1.of fun o e=>b2.extBut jt o cy.symm e⟩,fun b hb=>(hf' b hb).1⟩
 done:=by
  intro X hP hw hK hc i pins s σ H E I hf st hg;subst hP hw hK;obtain⟨⟨old,Z⟩,g⟩:=st;obtain⟨xs,q1,hl⟩:=hg;obtain⟨its,rv,p⟩:=hU.heap I q1;have l1:=rv.length;exact R8 (I.ok.hd hc) Z g p (by simp;omega) fun h' kp=>⟨rfl,tI (t':=s.toks) I (fun b o hb e=>by
   simp only[Φ,aM,or_false,not_or] at hb;exact kp b o hb.2 e) hf⟩
 self:=fun _ _ _ _ _ st h=>let ⟨⟨_,Z⟩,_⟩:=st;wpAny_pyIter_enum Z h
section
variable {X:Cx} {es:List ο} {n0:Nat} {ps p pos:ay}
def Mo(K:PySem.W.Frag)(ta:TA):TI:=fun σ H R=>ta σ H fun vs H1=>∃k a,vs=[.ref a]/\(∃xs,hU K k H1 a xs)/\R (M3 K k a) H1
theorem RY{a:ο}{ta:TA}(hg:Gl X "enumerate")(hm:X.mg "enumerate" = none)(ha:PA X [a] ta)(hs:bx [a] X.env=[(false,eval a X.env)]:=by rfl):PI X (.Tuple es n0 ps) (.Call (.Name "enumerate" p) [a] [] pos) (Mo X.K ta):=by
 intro pins s σ H R I h;refine Call_ (qN I hg hm boot_enumerate (cG (br (ha pos pins s σ H _ I h) fun us s1 ⟨vs,H1,I1,r1,q1⟩=>?_) hs rfl));obtain⟨k,a1,e,⟨xs,q1⟩,q⟩:=q1;subst e;cases r1 with
 |cons r rr=>
  cases rr;cases r;obtain⟨its,rv,p⟩:=hU.heap I1 q1;refine R0 p fun h' z1 z2 z3 z4=>?_;refine wpAny_pyIter_enum (s:={ s1 with heap:=h' }) z1 ?_
  refine⟨s1.heap.objs.size+1,[s1.heap.objs.size+1,s1.heap.objs.size],_,_,H1,rfl,I1.kept (t':=s1.toks) z4,RZ k a1 _ _ (by simp),⟨⟨_,z1⟩,z2⟩,fun b hb=>?_,q⟩;have hb:s1.heap.objs.size≤b:=by
   simp only[Φ,aM,or_false] at hb;rcases hb with rfl|rfl
   ·exact gm _ _
   ·exact Ω _
  exact I1.pR hb (I1.bf.fresh hb)
def ve(xs:List D):List D:=qw (fP 0 xs.length) xs
def As(ta:b9):mh:=fun τ G R=>ta τ G fun ds G1=>match ds with
 |[x]=>∃xs,uk G1 x xs/\R ⟨ve xs,fun G=>uk G x xs⟩ G1
 |_=>False
theorem RX{a:ο}{ta:b9}(hm:X.mg "enumerate" = none)(ha:gS X [a] ta)(hg:Gl X "enumerate":=by rfl)(hs:notStar a=true:=by rfl):
  vh X (.Tuple es n0 ps) (.Call (.Name "enumerate" p) [a] [] pos) (As ta):=
 Ae (RY hg hm ha (dB hs)) fun σ H R ⟨τ,G,R3,RS,RG,h,k⟩=>⟨τ,G,_,RS,RG,h,fun vs H1 ds G1 h1 S1 R1 q1=>by
  rcases ds with _|⟨d,_|⟨d2,ds⟩⟩
  ·exact q1.elim
  ·obtain⟨xs,s1,q⟩:=q1;obtain⟨v,r,rfl,z1,z2⟩:=h1.inv;cases z2.gi;obtain⟨kk,hsq⟩:=Dj z1;obtain⟨a1,vs1,rfl,y1,w1⟩:=hsq _ _ _ (Ext.refl _) R1 s1;refine⟨kk,a1,rfl,⟨_,y1⟩,k _ _ _ _ ⟨?_,?_⟩ S1 R1 q⟩
   ·intro i d H' G' E' RG' hg hi;obtain⟨x,y,e1,e2,rfl⟩:=JA hi;obtain⟨b1,us1,c1,m1,n1⟩:=hsq _ _ _ E' RG' hg;cases c1;obtain⟨u1,o1,o2⟩:=n1.get e2;obtain⟨_,rfl⟩:=JR e1;refine⟨⟨_,_,m1,o1⟩,fun x' H'' hy=>?_⟩;obtain⟨T,u,rfl,hn,rfl,t1⟩:=hy;have:=t1 _ m1;rw[o1] at this;cases this;refine⟨?_,.laid hn,RG'.laid hn⟩;unfold Hv;exact⟨T,_,rfl,.of gh,.cons (by simp[Hv]) (.cons (o2.ext (.laid hn)) .nil)⟩
   ·intro i H' G' E' RG' hg hi;obtain⟨b1,us1,c1,m1,n1⟩:=hsq _ _ _ E' RG' hg;cases c1;refine⟨_,m1,?_⟩;have hi:(ve xs).length≤i:=hi;unfold ve qw at hi;rw[rW,sy] at hi;rw[←n1.length];omega
  ·exact q1.elim⟩
end
section
variable {X:Cx} {K:PySem.W.Frag}
def aaC:R3:=fun x y G Q=>match x,y with
 |.bl b,.bl c=>Q (.bl (b==c)) G
 |_,_=>False
theorem Jz:ed X (compareOp .IsNot) (fun x y H Q=>∃b c,x=.bl b/\y=.bl c/\Q (.bl (!(b==c))) H):=by
 intro pins s σ H x y v u Q I rx ry h;obtain⟨b,c,rfl,rfl,q⟩:=h;cases rx;cases ry;exact θ (Kp I q (by cases b<;>cases c<;>rfl))
def w6:R3:=fun x y G Q=>match x,y with
 |.bl b,.bl c=>Q (.bl (!(b==c))) G
 |_,_=>False
theorem Jy:eG K w6 (fun x y H Q=>∃b c,x=.bl b/\y=.bl c/\Q (.bl (!(b==c))) H):=fun x y vx vy G H Q3 Q hx hy RG h k=>by
 cases x with
 |bl b=>
  cases y with
  |bl c=>exact⟨b,c,qL hx,qL hy,k _ H _ G oH (.refl H G) RG h⟩
  |_=>exact h.elim
 |_=>exact h.elim
end
end L3
namespace L3
open PySem PySem.Spec PyProof.Rows L2
section
variable {X:Cx} {a b:ο} {ta:TA} {p p2 pos pos2:ay}
theorem Jx:∀(acc:List Value) (i:Int),(∀(k:Nat) v,acc[k]?=some v->∃t,v=.int (i+(k:Int)) t)->aS ((ag acc.length).map fun k:Nat=>V.int (i+(k:Int))) acc
 |[],_,_=>.nil
 |v::acc,i,h=>by
  rw[aj,gJ,bP,cE];refine .cons ?_ ?_
  ·obtain⟨t,rfl⟩:=h 0 v rfl;exact⟨t,rfl⟩
  ·have:=Jx acc (i+1) fun k w hk=>by
    obtain⟨t,e⟩:=h (k+1) w (by simpa using hk);exact⟨t,by rw[e,show i+((k+1:Nat):Int)=i+1+(k:Int) by lia]⟩
   rw[show ((fun k:Nat=>V.int (i+(k:Int))) ∘ Nat.succ)=fun k:Nat=>V.int (i+1+(k:Int)) from funext fun k=>by
    show V.int (i+((k+1:Nat):Int))=_;rw[show i+((k+1:Nat):Int)=i+1+(k:Int) by lia]]
   exact this
def yV(i j:Int)(r:ε):Ξ->Prop:=fun h=>∃t u v,IsRange h r i j 1 t u v
end
end L3
namespace L2
open PySem PySem.Spec PyProof.Rows
def Bz(lo c:Int)(n:Nat):It:=⟨fun i _=>i<n,fun i H x H'=>H'=H/\x=.int (lo+i*c),fun i _=>n≤i⟩
theorem RW{P:Ψ}{w:af}{K:PySem.W.Frag}{tg:ο}(it:ε)(lo c:Int)(n:Nat):Turn P w K tg (Bz lo c n) [it] it (fun i h=>pZ h it (lo+(i:Nat)*c) ((n:Int)-(i:Nat)) c) where
 mem:=by simp
 obj:=fun i h st b hb=>by
  have e:b=it:=by simpa using hb
  subst e;exact⟨_,st,fun v z=>by
   have z':Data.fields _=Data.cell v:=z;cases z'⟩
 keep:=fun i h h' st k=>k it (by simp) _ st
 item:=by
  intro X hP hw hK hc i pins s σ H E I hf st hg;subst hP hw hK;obtain⟨f0,f1,f2,f3,f4,f5⟩:=hf it (by simp);have W:=Walks.range (prog:=X.prog) (w:=X.w) (I.ok.hd hc) it lo c n;refine W.item i s _ _ hg st fun v h' tk hv st' kk=>?_;obtain⟨t,rfl⟩:=hv;have I1:Inv X pins σ H { s with heap:=h',toks:=tk }:=I.turned (fun b o hb e=>kk b o (by simpa using hb) e) f0 f1 f3 f4 f5;refine⟨_,rfl,xK (s:={ s with heap:=h',toks:=tk }) (n:="range_iterator") st' rfl rfl (by decide) ⟨.int (lo+i*c),H,I1,⟨t,rfl⟩,⟨rfl,rfl⟩,st',fun b hb=>(hf b hb).1⟩⟩
 done:=by
  intro X hP hw hK hc i pins s σ H E I hf st hg;subst hP hw hK;obtain⟨f0,f1,f2,f3,f4,f5⟩:=hf it (by simp);exact wpAny_pyNext_range_end (I.ok.hd hc) st (by have:n≤i:=hg;lia) fun h' eb=>⟨rfl,I.turned (t':=s.toks) (fun b o hb e=>eb b o hb e) f0 f1 f3 f4 f5⟩
 self:=fun _ _ _ _ _ st h=>wpAny_pyIter_rangeiter st h
def iF(i j c:Int):Nat:=if i<j then ((j-i-1) / c+1).toNat else 0
theorem RV{i j c:Int}(hc:0<c):bD i j c=(iF i j c:Int):=by
 unfold bD iF;rw[if_pos hc];split
 ·rename_i h;have:0≤(j-i-1) / c:=oZ (by lia) (by lia);lia
 ·rfl
theorem Rg{i j c:Int}(h1:-(2^61)≤i)(h2:i<2^61)(h3:-(2^61)≤j)(h4:j<2^61)(hc:0<c)(hc2:c<2^30):fi i j c=true:=by
 have hs:bD i j c≤2^62/\0≤bD i j c:=by
  unfold bD;rw[if_pos hc];split
  ·rename_i h;have e1:(j-i-1) / c≤j-i-1:=Int.ediv_le_self _ (by lia);have e2:0≤(j-i-1) / c:=oZ (by lia) (by lia);lia
  ·lia
 unfold fi;generalize bD i j c=z at hs;simp only[cM.Range.rangeFitsLong,bF,Bool.or_eq_true,decide_eq_true_eq,beq_iff_eq,hc,gt_iff_lt,if_true];have:∀p q:Int,True:=fun _ _=>trivial;refine ?_;lia
section
variable {X:Cx} {tg:ο}
theorem Rf{pins:List (ε×aA)}{σ:St}{H:Hp}{s:ζ}{R:It->Hp->Prop}{E:Value->ζ->Prop}{lo hi c:Int}{t u v:dG}{tk:Nat}(I:Inv X pins σ H s)(hs:fi lo hi c=true)(hc:0<c)
  (q:R (Bz lo c (iF lo hi c)) H):μ (model X.prog X.w) X.A (pyIter (.ref s.heap.objs.size)) (E9 X pins σ tg R) E { s with heap:=s.heap.push { cls:=.type "range",data:=.fields #[.int lo t,.int hi u,.int c v]},toks:=tk }:=by
 refine wpAny_pyIter_range (ui ..) hs ?_;have I1:Inv X pins σ H { s with heap:=s.heap.push { cls:=.type "range",data:=.fields #[.int lo t,.int hi u,.int c v]},toks:=tk }:=I.kept fun b o e=>η _ e;refine⟨(s.heap.push { cls:=.type "range",data:=.fields #[.int lo t,.int hi u,.int c v]}).objs.size,[(s.heap.push { cls:=.type "range",data:=.fields #[.int lo t,.int hi u,.int c v]}).objs.size],_,_,H,rfl,
  I1.kept (t':=tk) fun b o e=>η _ e,RW _ lo c (iF lo hi c),?_,fun b hb=>?_,q⟩
 ·have e1:lo+((0:Nat):Int)*c=lo:=by simp
  have e2:(((iF lo hi c):Nat):Int)-((0:Nat):Int)=bD lo hi c:=by rw[RV hc];simp
  show pZ _ _ (lo+((0:Nat):Int)*c) ((((iF lo hi c):Nat):Int)-((0:Nat):Int)) c;rw[e1,e2];exact ψ _ rfl
 ·have e:b=(s.heap.push { cls:=.type "range",data:=.fields #[.int lo t,.int hi u,.int c v]}).objs.size:=by simpa using hb
  subst e;exact I1.pR (Ω _) (I1.bf.fresh (Ω _))
def Ld(ta:TA):TI:=fun σ H R=>ta σ H fun vs H1=>∃i j c:Int,vs=[.int i,.int j,.int c]/\(-(2^61)≤i/\i<2^61/\-(2^61)≤j/\j<2^61/\0<c/\c<2^30)/\R (Bz i c (iF i j c)) H1
theorem Rc{a b d:ο}{ta:TA}{p pos:ay}(hg:Gl X "range")(hm:X.mg "range" = none)(ha:PA X [a,b,d] ta)(hs:bx [a,b,d] X.env=[(false,eval a X.env),(false,eval b X.env),(false,eval d X.env)])(hs2:bx [b,d] X.env=[(false,eval b X.env),(false,eval d X.env)]):
  PI X tg (.Call (.Name "range" p) [a,b,d] [] pos) (Ld ta):=by
 intro pins s σ H R I h;refine Call_ (qN I hg hm rq (cG (br (ha pos pins s σ H _ I h) fun us s1 ⟨vs,H1,I1,r1,q1⟩=>?_) (by rw[hs,hs2]) (by rw[hs2];rfl)));obtain⟨i,j,c,e,⟨q1,q2,q3,q4,q5,q6⟩,q⟩:=q1;subst e;cases r1 with
 |cons r rr=>
  cases rr with
  |cons r' rr=>
   cases rr with
   |cons r'' rr=>
    cases rr;obtain⟨t,rfl⟩:=r;obtain⟨t',rfl⟩:=r';obtain⟨t'',rfl⟩:=r'';exact call_range_3 (by lia) (Rf I1 (Rg q1 q2 q3 q4 q5 q6) q5 q) (.inl (PyProof.noPylong_small (by lia)))
end
section
variable {X:Cx}
theorem Rb:Ly X (Cp X.K):=by
 intro pins s σ H x y v u Q I rx ry h;obtain⟨p,xs,i,z,rfl,rfl,hq,he,q⟩:=h;cases rx;obtain⟨t,rfl⟩:=ry;obtain⟨its,r,pl,hz⟩:=I.list hq;obtain⟨j,h1,h2,h3,h4,h5⟩:=zT he;obtain⟨w,ew,rw'⟩:=r.get h2;have hl:=r.length;have hn:=nQ;have fin:EP X pins σ Q w s:=⟨z,H,I,rw',q⟩;by_cases h0:0≤i
 ·have hj:i.toNat=j:=by
   rw[pX h0 h5] at h1;exact ao h1
  exact wpAny_getItem_list pl.isList h0 (by lia) (by rw[hj];simpa using ew) fin
 ·have hj:(i+(its.toArray.size:Int)).toNat=j:=by
   rw[seqIndex_neg (by lia) h4] at h1;rw[υ,←hl];exact ao h1
  exact wpAny_getItem_list_neg pl.isList (by lia) (by rw[υ]<;>lia) (by lia) (by rw[hj];simpa using ew) fin
end
end L2
namespace L3
open PySem PySem.Spec PyProof.Rows L2
section
variable {X:Cx} {tg:ο} {p pos:ay}
def pe(lo c:Int)(n:Nat):List D:=(ag n).map fun i:Nat=>.int (lo+(i:Int)*c)
theorem Ra{lo c:Int}{n i:Nat}{d:D}(h:(pe lo c n)[i]?=some d):i<n/\d=.int (lo+(i:Int)*c):=by
 unfold pe at h;rw[aJ] at h;by_cases hi:i<n
 ·rw[gs hi] at h;simp at h;exact⟨hi,h.symm⟩
 ·rw[cT.mpr (by simpa using hi)] at h;cases h
theorem Q9(lo c:Int)(n:Nat):(pe lo c n).length=n:=by simp[pe]
theorem Q8{K:PySem.W.Frag}{H:Hp}(lo c:Int)(n:Nat):wH K H (Bz lo c n) ⟨pe lo c n,fun _=>True⟩:=⟨by
 intro i d H' G' _ RG _ hi;obtain⟨h1,h2⟩:=Ra hi;refine⟨h1,fun x H'' hy=>?_⟩;obtain⟨rfl,rfl⟩:=hy;exact⟨by rw[h2];simp[Hv],.refl _ _,RG⟩,by
 intro i H' G' _ RG _ hi;rw[Q9] at hi;exact hi⟩
def u9(ta:b9):mh:=fun τ G R=>ta τ G fun ds G1=>match ds with
 |[.int i,.int j,.int c]=>(-(2^61)≤i/\i<2^61/\-(2^61)≤j/\j<2^61/\0<c/\c<2^30)/\R ⟨pe i c (iF i j c),fun _=>True⟩ G1
 |_=>False
theorem Q7{a b d:ο}{ta:b9}(hm:X.mg "range" = none)(ha:gS X [a,b,d] ta)(hg:Gl X "range":=by rfl)(hs:notStar a=true:=by rfl)(hs2:notStar b=true:=by rfl)(hs3:notStar d=true:=by rfl):
  vh X tg (.Call (.Name "range" p) [a,b,d] [] pos) (u9 ta):=
 Ae (Rc hg hm ha (by rw[dB hs,dB hs2,dB hs3];rfl) (by rw[dB hs2,dB hs3];rfl)) fun σ H R ⟨τ,G,R3,RS,RG,h,k⟩=>⟨τ,G,_,RS,RG,h,fun vs H1 ds G1 h1 S1 R1 q1=>by
  rcases ds with _|⟨d,_|⟨d2,_|⟨d3,_|⟨d4,ds⟩⟩⟩⟩
  ·exact q1.elim
  ·cases d<;>exact q1.elim
  ·cases d<;>(try exact q1.elim)<;>cases d2<;>exact q1.elim
  ·cases d with
   |int i=>
    cases d2 with
    |int j=>
     cases d3 with
     |int c=>
      obtain⟨v,r,rfl,z1,z2⟩:=h1.inv;obtain⟨v2,r2,rfl,z3,z4⟩:=z2.inv;obtain⟨v3,r3,rfl,z5,z6⟩:=z4.inv;cases z6.gi;unfold Hv at z1 z3 z5;exact⟨i,j,c,by rw[z1,z3,z5],q1.1,k _ _ _ _ (Q8 i c _) S1 R1 q1.2⟩
     |_=>exact q1.elim
    |_=>cases d3<;>exact q1.elim
   |_=>cases d2<;>(try exact q1.elim)<;>cases d3<;>exact q1.elim
  ·cases d<;>(try exact q1.elim)<;>cases d2<;>(try exact q1.elim)<;>cases d3<;>exact q1.elim⟩
theorem Q6{o i e:ο}{to ti te:ax}{tpos:ay}(ho:bE X o to)(hi:bE X i ti)(he:bE X e te)
  (ha:∀ov iv new,augStore i ov iv new=(do holding [new,ov,iv] (setItem ov iv new);release [new,ov,iv] [];pure .next):=by intros;rfl):
  mL X (.AugAssign (.Subscript o i tpos) .Add e pos) (wx to ti te (· + ·)):=
 mx (Vx ho hi Rb he Vw set_list ha) fun D σ H ⟨τ,G,D3,RS,RG,h,k⟩=>by
  refine⟨τ,G,_,RS,RG,h,fun v1 H1 d1 G1 h1 S1 R1 q1=>⟨τ,G1,_,RS.ext (S1.ext RG),R1,q1,fun v2 H2 d2 G2 h2 S2 R2 q2=>?_⟩⟩;cases d1 with
  |obj p=>
   cases d2 with
   |int j=>
    obtain⟨ds,x,e1,e2,q⟩:=q2;obtain⟨vs,z1,z2⟩:=R2 p _ e1;obtain⟨v,z3,z4⟩:=xE z2 e2;have hv1:v1=.ref p:=hJ h1;have hv2:v2=.int j:=ir h2;refine⟨p,vs,j,v,hv1,hv2,.of z1,z3,⟨τ,G2,_,(RS.ext (S1.ext RG)).ext (S2.ext R1),R2,q,fun v5 H5 d5 G5 h5 S5 R5 q5=>?_⟩⟩;cases d5 with
    |int y=>
     have hx:v=.int x:=ir z4;have hy:v5=.int y:=ir h5;refine⟨x,y,hx,hy,?_⟩;exact JS (((h1.ext (S2.ext R1)).ext (S5.ext R2))) ((h2.ext (S5.ext R2))) mf R5 q5 fun H' G' y1 y2 y3=>k.nx _ _ G' H' ((((RS.ext (S1.ext RG)).ext (S2.ext R1)).ext (S5.ext R2)).ext (y1.ext R5)) (((S1.trans S2).trans S5).trans y1) y2 y3
    |_=>exact q5.elim
   |_=>exact q2.elim
  |_=>cases d2<;>exact q2.elim
end
end L3
namespace L3
open PySem PySem.Spec PyProof.Rows L2
structure QE(X:Cx)(e:ο)(t:ax):Prop where
 of:bE X e t
structure QT(X:Cx)(e:ο)(t:cF):Prop where
 of:oU X e t
structure QW(X:Cx)(e:ο)(t:cF):Prop where
 of:we X e t
structure QA(X:Cx)(es:List ο)(t:b9):Prop where
 of:gS X es t
structure QS(X:Cx)(st:aB)(t:ar):Prop where
 of:mL X st t
structure mK(X:Cx)(st:List aB)(t:ar):Prop where
 of:jh X st t
structure QG(X:Cx)(tg:ο)(t:gR):Prop where
 of:sV X tg t
structure Cc(X:Cx)(tgs:List ο)(t:lK):Prop where
 of:vZ X tgs t
structure QI(X:Cx)(tg iter:ο)(t:mh):Prop where
 of:vh X tg iter t
structure QO(X:Cx)(e:Option ο)(t:wc):Prop where
 of:Ce X e t
structure QC(X:Cx)(ifs:List ο)(t:cF):Prop where
 of:ud X ifs (qP X.K t)
section
variable {X:Cx} {a b e c:ο} {ta tb te:ax} {tA tB:cF} {pos:ay} {es rest:List ο}
theorem Γ{i:Nat}{x:ι}(h:PE X (.Name x pos) (yP i)):QE X (.Name x pos) (π i):=⟨U7 (h:=h)⟩
end
section
variable {X:Cx} {a b e c:ο} {ta tb te:ax} {tA tB:cF} {pos:ay} {es rest:List ο}
theorem bA{i:Int}{j}:QE X (.Constant (.int i) j pos) (eC (.int i)):=⟨U6 ⟩
end
section
variable {X:Cx} {a b e c:ο} {ta tb te:ax} {tA tB:cF} {pos:ay} {es rest:List ο}
theorem lu{i:Bool}{j}:QE X (.Constant (.bool i) j pos) (eC (.bl i)):=⟨ZD ⟩
end
section
variable {X:Cx} {a b e c:ο} {ta tb te:ax} {tA tB:cF} {pos:ay} {es rest:List ο}
theorem xA{j}:QE X (.Constant .none j pos) (eC .az):=⟨U5 ⟩
end
section
variable {X:Cx} {a b e c:ο} {ta tb te:ax} {tA tB:cF} {pos:ay} {es rest:List ο}
theorem lE{x:ι}{j}:QE X (.Constant (.str x) j pos) (eC (.str x)):=⟨U4 ⟩
end
section
variable {X:Cx} {a b e c:ο} {ta tb te:ax} {tA tB:cF} {pos:ay} {es rest:List ο}
theorem Jw{x:ι}{i:Int}{u:dG}(hm:X.mg x=some (.int i u))(hg:Gl X x:=by rfl)(hd:(x==("__debug__":ι))=false:=by decide):QE X (.Name x pos) (eC (.int i)):=⟨U3 (hm:=hm) (hg:=hg) (hd:=hd)⟩
end
section
variable {X:Cx} {a b e c:ο} {ta tb te:ax} {tA tB:cF} {pos:ay} {es rest:List ο}
theorem dA{op:rB}{r:R3}{r2:R2}(L:eG X.K r r2)(ho:ed X (binaryOp op) r2)(ha:QE X a ta)(hb:QE X b tb):QE X (.BinOp a op b pos) (bc r ta tb):=⟨ZA (L:=L) (ho:=ho) (ha:=ha.of) (hb:=hb.of)⟩
end
section
variable {X:Cx} {a b e c:ο} {ta tb te:ax} {tA tB:cF} {pos:ay} {es rest:List ο}
theorem uD{op:jE}{r:R3}{r2:R2}(L:eG X.K r r2)(ho:ed X (compareOp op) r2)(ha:QE X a ta)(hb:QE X b tb)(hm:behindInMarks op b=false):QE X (.Compare a [op] [b] pos) (bc r ta tb):=⟨U2 (L:=L) (ho:=ho) (ha:=ha.of) (hb:=hb.of) (hm:=hm)⟩
end
section
variable {X:Cx} {a b e c:ο} {ta tb te:ax} {tA tB:cF} {pos:ay} {es rest:List ο}
theorem i4{op:jE}{r:R3}{r2:R2}(L:eG X.K r r2)(ho:ed X (compareOp op) r2)(ha:QE X a ta)(hb:QE X b tb)(hm:behindInMarks op b=false):QT X (.Compare a [op] [b] pos) (bQ (bc r ta tb)):=⟨U1 (L:=L) (ho:=ho) (ha:=ha.of) (hb:=hb.of) (hm:=hm)⟩
end
section
variable {X:Cx} {a b e c:ο} {ta tb te:ax} {tA tB:cF} {pos:ay} {es rest:List ο}
theorem nP(h:QE X a ta)(he:∀whole,isTrue a X.env whole=(do let v ←whole;standAt a.pos;holding [v] (truthy v)):=by intro _;rfl):QT X a (bQ ta):=⟨Uo (h:=h.of) (he:=he)⟩
end
section
variable {X:Cx} {a b e c:ο} {ta tb te:ax} {tA tB:cF} {pos:ay} {es rest:List ο}
theorem Q5(ha:QE X a ta):QE X (.UnaryOp .USub a pos) (Lm yZ ta):=⟨Uk (ha:=ha.of)⟩
end
section
variable {X:Cx} {a b e c:ο} {ta tb te:ax} {tA tB:cF} {pos:ay} {es rest:List ο}
theorem II(ha:QT X a tA):QW X (.BoolOp .And [a] pos) tA:=⟨Uj (ha:=ha.of)⟩
end
section
variable {X:Cx} {a b e c:ο} {ta tb te:ax} {tA tB:cF} {pos:ay} {es rest:List ο}
theorem uC(ha:QT X a tA):QW X (.BoolOp .Or [a] pos) tA:=⟨Ui (ha:=ha.of)⟩
end
section
variable {X:Cx} {a b e c:ο} {ta tb te:ax} {tA tB:cF} {pos:ay} {es rest:List ο}
theorem IH(ha:QT X a tA)(hb:QW X (.BoolOp .And (b::rest) pos) tB):QW X (.BoolOp .And (a::b::rest) pos) (A4 tA tB):=⟨Uh (ha:=ha.of) (hb:=hb.of)⟩
end
section
variable {X:Cx} {a b e c:ο} {ta tb te:ax} {tA tB:cF} {pos:ay} {es rest:List ο}
theorem qG(ha:QT X a tA)(hb:QW X (.BoolOp .Or (b::rest) pos) tB):QW X (.BoolOp .Or (a::b::rest) pos) (qc tA tB):=⟨Ug (ha:=ha.of) (hb:=hb.of)⟩
end
section
variable {X:Cx} {a b e c:ο} {ta tb te:ax} {tA tB:cF} {pos:ay} {es rest:List ο}
theorem qF(h:QW X a tA):QT X a tA:=⟨M7 (h:=h.of)⟩
end
section
variable {X:Cx} {a b e c:ο} {ta tb te:ax} {tA tB:cF} {pos:ay} {es rest:List ο}
theorem pO(ha:QT X a tA):QT X (.UnaryOp .Not a pos) (kh tA):=⟨Ue (ha:=ha.of)⟩
end
section
variable {X:Cx} {a b e c:ο} {ta tb te:ax} {tA tB:cF} {pos:ay} {es rest:List ο}
theorem zw{op}(h:QE X a ta):QE X (.BoolOp op [a] pos) ta:=⟨Ud (h:=h.of)⟩
end
section
variable {X:Cx} {a b e c:ο} {ta tb te:ax} {tA tB:cF} {pos:ay} {es rest:List ο}
theorem zv(ha:QE X a ta)(hb:QE X (.BoolOp .And (b::rest) pos) tb):QE X (.BoolOp .And (a::b::rest) pos) (tP ta tb):=⟨Uc (ha:=ha.of) (hb:=hb.of)⟩
end
section
variable {X:Cx} {a b e c:ο} {ta tb te:ax} {tA tB:cF} {pos:ay} {es rest:List ο}
theorem IG(ha:QE X a ta):QE X (.UnaryOp .Not a pos) (A0 ta):=⟨Ub (ha:=ha.of)⟩
end
section
variable {X:Cx} {a b e c:ο} {ta tb te:ax} {tA tB:cF} {pos:ay} {es rest:List ο}
theorem au  : QA X [] aa:=⟨Ua ⟩
end
section
variable {X:Cx} {a b e c:ο} {ta tb te:ax} {tA tB:cF} {pos:ay} {es rest:List ο}
theorem Θ{tr:b9}(ha:QE X a ta)(hr:QA X es tr)(hs:notStar a=true:=by rfl):QA X (a::es) (ξ ta tr):=⟨T9 (ha:=ha.of) (hr:=hr.of) (hs:=hs)⟩
end
section
variable {X:Cx} {a b e c:ο} {ta tb te:ax} {tA tB:cF} {pos:ay} {es rest:List ο}
theorem gA{t:b9}{x1}(h:QA X es t):QE X (.Tuple es x1 pos) (eF t):=⟨T6 (h:=h.of)⟩
end
section
variable {X:Cx} {a b e c:ο} {ta tb te:ax} {tA tB:cF} {pos:ay} {es rest:List ο}
theorem oG{t:b9}(h:QA X es t):QE X (.List es pos) (i9 t):=⟨T5 (h:=h.of)⟩
end
section
variable {X:Cx} {st:aB} {rest:List aB} {t u:ar} {e c:ο} {te:ax} {tc:cF} {pos:ay}
theorem me  : mK X [] ft:=⟨TV ⟩
end
section
variable {X:Cx} {st:aB} {rest:List aB} {t u:ar} {e c:ο} {te:ax} {tc:cF} {pos:ay}
theorem cw(h1:QS X st t)(h2:mK X rest u):mK X (st::rest) (bz t u):=⟨TU (h1:=h1.of) (h2:=h2.of)⟩
end
section
variable {X:Cx} {st:aB} {rest:List aB} {t u:ar} {e c:ο} {te:ax} {tc:cF} {pos:ay}
theorem bY(h1:QS X st t):mK X [st] t:=⟨TQ (h1:=h1.of)⟩
end
section
variable {X:Cx} {st:aB} {rest:List aB} {t u:ar} {e c:ο} {te:ax} {tc:cF} {pos:ay}
theorem DT(he:QE X e te)(hs:swapsWith e none pos.line X.env=pure false:=by rfl):QS X (.Expr e pos) (tL te):=⟨TN (he:=he.of) (hs:=hs)⟩
end
section
variable {X:Cx} {st:aB} {rest:List aB} {t u:ar} {e c:ο} {te:ax} {tc:cF} {pos:ay}
theorem dw(he:QE X e te):QS X (.Return (some e) pos) (bS te):=⟨Uy (he:=he.of)⟩
end
section
variable {X:Cx} {st:aB} {rest:List aB} {t u:ar} {e c:ο} {te:ax} {tc:cF} {pos:ay}
theorem md{a b:List aB}(hc:QT X c tc)(ha:mK X a t)(hb:mK X b u):QS X (.If c a b pos) (jV tc t u):=⟨Nh (hc:=hc.of) (ha:=ha.of) (hb:=hb.of)⟩
end
section
variable {X:Cx} {pos:ay} {e:ο} {es:List ο}
theorem fN{i:Nat}{x:ι}(hN:X.N.Nodup)(hi:X.N[i]?=some x:=by rfl)(hx:Loc X.env.scope x:=by first|exact sZ rfl|exact qp rfl)(hf:X.fn x=true∨X.env.scope.names.lookup x=some .local:=by first|exact .inl rfl|exact .inr rfl|assumption):QG X (.Name x pos) (hName i):=⟨Ux (hN:=hN) (hi:=hi) (hx:=hx) (hf:=hf)⟩
end
section
variable {X:Cx} {pos:ay} {e:ο} {es:List ο}
theorem vM  : Cc X [] qY:=⟨Uw ⟩
end
section
variable {X:Cx} {pos:ay} {e:ο} {es:List ο}
theorem mv{t:gR}{u:lK}(h1:QG X e t)(h2:Cc X es u)(hs:(assignEach (e::es) X.env).map (·.2)=assign e X.env::(assignEach es X.env).map (·.2):=by rfl):Cc X (e::es) (gU t u):=⟨Uv (h1:=h1.of) (h2:=h2.of) (hs:=hs)⟩
end
section
variable {X:Cx} {pos:ay} {e:ο} {es:List ο}
theorem xy{k:Nat}{t:lK}{n:Nat}(hc:X.calm=true)(h:Cc X es t)(hn:(assignEach es X.env).length=n:=by rfl)(hst:(assignEach es X.env).findIdx? (·.1)=none:=by rfl):QG X (.Tuple es k pos) (nS n t):=⟨Uu (hc:=hc) (h:=h.of) (hn:=hn) (hst:=hst)⟩
end
section
variable {X:Cx} {pos:ay} {e:ο} {es:List ο}
theorem DS{tg:ο}{te:ax}{g:gR}(he:QE X e te)(hg:QG X tg g)(hs:swapsWithSole [tg] e pos.line X.env=pure false:=by rfl)(hw:swappedStores [tg] e X.env=pure none:=by rfl)(h1:(assignEach [tg] X.env).map (·.2)=[assign tg X.env]:=by rfl):QS X (.Assign [tg] e pos) (cb te g):=⟨Ut (he:=he.of) (hg:=hg.of) (hs:=hs) (hw:=hw) (h1:=h1)⟩
end
section
variable {X:Cx} {pos:ay} {e:ο} {es:List ο}
theorem eO{i:Nat}{x:ι}{te:ax}{pos':ay}(hN:X.N.Nodup)(he:QE X e te)(hi:X.N[i]?=some x:=by rfl)(hx:Loc X.env.scope x:=by first|exact sZ rfl|exact qp rfl)(hs:swapsWith e (some (.Name x pos')) pos.line X.env=pure false:=by rfl)(hf:X.fn x=true∨X.env.scope.names.lookup x=some .local:=by first|exact .inl rfl|exact .inr rfl|assumption):QS X (.Assign [.Name x pos'] e pos) (cb te (hName i)):=⟨Us (hN:=hN) (he:=he.of) (hi:=hi) (hx:=hx) (hs:=hs) (hf:=hf)⟩
end
section
variable {X:Cx} {pos:ay} {e:ο} {es:List ο}
theorem IF{o i:ο}{to ti:ax}(ho:QE X o to)(hi:QE X i ti) (ha:∀v,assign (.Subscript o i pos) X.env v=(do
   let ov ←holding [v] (eval o X.env)
   let iv ←holding [v,ov] (eval i X.env)
   standAt pos
   holding [v,ov,iv] (setItem ov iv v)
   release [v,ov,iv] []):=by intro _;rfl):QG X (.Subscript o i pos) (hSub to ti):=⟨Ur (ho:=ho.of) (hi:=hi.of) (ha:=ha)⟩
end
section
variable {X:Cx} {pos:ay} {e:ο} {es:List ο}
theorem DR{c:ο}{body:List aB}{tc:cF}{tb:ar}(hp:gD (model X.prog X.w) X.A X.env X.xe)(hc:QT X c tc)(hb:mK X body tb):QS X (.While c body [] pos) (uU tc tb):=⟨Uq (hp:=hp) (hc:=hc.of) (hb:=hb.of)⟩
end
section
variable {X:Cx} {k:Nat} {f:ε} {fd:ae} {ps:List ι} {sp:dC} {x:ι} {p pos:ay} {e:ο} {es:List ο} {t:b9}
theorem dY(F:dD X.prog X.w X.K X.mg X.base k f fd ps sp)(hr:dy k X.A)(hm:X.mg x=some (.ref f))(hk:PySem.W.keepIn X.K (.ref f)=true)(hb:Binds X.K fd ps [])(ha:QA X (e::es) t)(hg:Gl X x:=by rfl)(hdb:(x==("__debug__":ι))=false:=by decide)(he:notStar e=true:=by rfl)(hpl:es.all notStar=true:=by rfl):QE X (.Call (.Name x p) (e::es) [] pos) (bt sp t):=⟨Up (F:=F) (hr:=hr) (hm:=hm) (hk:=hk) (hb:=hb) (ha:=ha.of) (hg:=hg) (hdb:=hdb) (he:=he) (hpl:=hpl)⟩
end
section
variable {X:Cx} {tg iter:ο} {pos p:ay}
theorem kJ{l:ο}{te:ax}(hl:QE X l te):QI X tg l (i6 te):=⟨Tw (hl:=hl.of)⟩
end
section
variable {X:Cx} {tg iter:ο} {pos p:ay}
theorem uB{a:ο}{ta:b9}(hm:X.mg "range" = none)(ha:QA X [a] ta)(hg:Gl X "range":=by rfl)(hs:notStar a=true:=by rfl):QI X tg (.Call (.Name "range" p) [a] [] pos) (kN ta):=⟨Tu (hm:=hm) (ha:=ha.of) (hg:=hg) (hs:=hs)⟩
end
section
variable {X:Cx} {tg iter:ο} {pos p:ay}
theorem nO{body:List aB}{ti:mh}{g:gR}{tb:ar}(hp:gD (model X.prog X.w) X.A X.env X.xe)(hc:X.calm=true)(hi:QI X tg iter ti)(hg:QG X tg g)(hb:mK X body tb)(hs:∀x,foldedSetIterable iter X.env x=pure x:=by intro _;rfl):QS X (.For tg iter body [] pos) (iD ti g tb):=⟨Tt (hp:=hp) (hc:=hc) (hi:=hi.of) (hg:=hg.of) (hb:=hb.of) (hs:=hs)⟩
end
section
variable {X:Cx} {tg iter:ο} {pos p:ay}
theorem pN  : QC X [] (eE):=⟨Ts ⟩
end
section
variable {X:Cx} {tg iter:ο} {pos p:ay}
theorem zu{c:ο}{t:cF}(h:QT X c t):QC X [c] (t):=⟨Tr (h:=h.of)⟩
end
section
variable {X:Cx} {K:PySem.W.Frag}
theorem ls{a b:ο}{ta tb:ax}{pos:ay}(ha:QE X a ta)(hb:QE X b tb)(hs:qg b:=by intro _ _;rfl):QE X (.Subscript a b pos) (bc fj ta tb):=⟨ZC (ha:=ha.of) (hb:=hb.of) (hs:=hs)⟩
end
section
variable {X:Cx} {K:PySem.W.Frag}
theorem DQ{es:List ο}{b:ο}{ta:b9}{tb:ax}{pos pos':ay}(ha:QA X es ta)(hb:QE X b tb)(hs:qg b:=by intro _ _;rfl):QE X (.Subscript (.List es pos') b pos) (sQ ta tb):=⟨Te (ha:=ha.of) (hb:=hb.of) (hs:=hs)⟩
end
section
variable {X:Cx} {a b e:ο} {ta tb:ax} {pos:ay}
theorem qE  : QO X none kM:=⟨Td ⟩
end
section
variable {X:Cx} {a b e:ο} {ta tb:ax} {pos:ay}
theorem nN(h:QE X e ta):QO X (some e) (jy ta):=⟨Tc (h:=h.of)⟩
end
section
variable {X:Cx} {a b e:ο} {ta tb:ax} {pos:ay}
theorem pM{lo hi:Option ο}{tl th:wc}{p2:ay}(ha:QE X a ta)(hl:QO X lo tl)(hh:QO X hi th):QE X (.Subscript a (.Slice lo hi none p2) pos) (rJ ta tl th):=⟨Zz (ha:=ha.of) (hl:=hl.of) (hh:=hh.of)⟩
end
section
variable {X:Cx} {K:PySem.W.Frag} {e:ο} {es:List ο} {t:b9} {ta:ax} {pos p:ay}
theorem kI(hu:X.A.units+64<cLine)(hm:X.mg "len" = none)(ha:QA X (e::es) t)(hg:Gl X "len":=by rfl)(he:notStar e=true:=by rfl)(hpl:es.all notStar=true:=by rfl):QE X (.Call (.Name "len" p) (e::es) [] pos) (dS lq t):=⟨S8 (hu:=hu) (hm:=hm) (ha:=ha.of) (hg:=hg) (he:=he) (hpl:=hpl)⟩
end
section
variable {X:Cx} {K:PySem.W.Frag} {e:ο} {es:List ο} {t:b9} {ta:ax} {pos p:ay}
theorem Q4(hu:X.A.units+64<cLine)(hm:X.mg "int" = none)(ha:QA X (e::es) t)(hg:Gl X "int":=by rfl)(he:notStar e=true:=by rfl)(hpl:es.all notStar=true:=by rfl):QE X (.Call (.Name "int" p) (e::es) [] pos) (dS Aa t):=⟨S6 (hu:=hu) (hm:=hm) (ha:=ha.of) (hg:=hg) (he:=he) (hpl:=hpl)⟩
end
section
variable {X:Cx} {K:PySem.W.Frag} {e:ο} {es:List ο} {t:b9} {ta:ax} {pos p:ay}
theorem Q2(hu:X.A.units+64<cLine)(hm:X.mg "max" = none)(ha:QA X (e::es) t)(hc:X.calm=true:=by rfl)(hg:Gl X "max":=by rfl)(he:notStar e=true:=by rfl)(hpl:es.all notStar=true:=by rfl):QE X (.Call (.Name "max" p) (e::es) [] pos) (dS DB t):=⟨SY (hu:=hu) (hm:=hm) (ha:=ha.of) (hc:=hc) (hg:=hg) (he:=he) (hpl:=hpl)⟩
end
section
variable {X:Cx} {K:PySem.W.Frag} {e:ο} {es:List ο} {t:b9} {ta:ax} {pos p:ay}
theorem zt(hu:X.A.units+64<cLine)(hm:X.mg "tuple" = none)(ha:QA X (e::es) t)(hg:Gl X "tuple":=by rfl)(he:notStar e=true:=by rfl)(hpl:es.all notStar=true:=by rfl):QE X (.Call (.Name "tuple" p) (e::es) [] pos) (dS uq t):=⟨SW (hu:=hu) (hm:=hm) (ha:=ha.of) (hg:=hg) (he:=he) (hpl:=hpl)⟩
end
section
variable {X:Cx} {K:PySem.W.Frag} {e:ο} {es:List ο} {t:b9} {ta:ax} {pos p:ay}
theorem IE(hu:X.A.units+64<cLine)(hm:X.mg "list" = none)(ha:QA X (e::es) t)(hg:Gl X "list":=by rfl)(he:notStar e=true:=by rfl)(hpl:es.all notStar=true:=by rfl):QE X (.Call (.Name "list" p) (e::es) [] pos) (dS xD t):=⟨TL (hu:=hu) (hm:=hm) (ha:=ha.of) (hg:=hg) (he:=he) (hpl:=hpl)⟩
end
section
variable {X:Cx} {K:PySem.W.Frag} {e:ο} {es:List ο} {t:b9} {ta:ax} {pos p:ay}
theorem Q1  : QE X (.Dict [] [] pos) Eg:=⟨TF ⟩
end
section
variable {X:Cx} {a e:ο} {es:List ο} {ta:ax} {t:b9} {pos p p2:ay}
theorem uA{T:String}{TS:ι}(k:yN T)(hv:gk TS=some (.type T))(ha:QE X a ta)(hm:X.mg "isinstance" = none)(hm2:X.mg TS=none)(hgT:Gl X TS)(hnT:TS≠"__name__")(hdT:(TS==("__debug__":ι))=false)(hg:Gl X "isinstance":=by rfl)(he:notStar a=true:=by rfl):QE X (.Call (.Name "isinstance" p) [a,.Name TS p2] [] pos) (oK T ta):=⟨SM (k:=k) (hv:=hv) (ha:=ha.of) (hm:=hm) (hm2:=hm2) (hgT:=hgT) (hnT:=hnT) (hdT:=hdT) (hg:=hg) (he:=he)⟩
end
section
variable {X:Cx} {K:PySem.W.Frag} {e:ο} {es:List ο} {t:b9} {ta:ax} {pos p p' pos':ay}
theorem Q0(hu:X.A.units+64<cLine)(hm:X.mg "sorted" = none)(ha:QA X (e::es) t)(hc:X.calm=true:=by rfl)(hg:Gl X "sorted":=by rfl)(he:notStar e=true:=by rfl)(hpl:es.all notStar=true:=by rfl):QE X (.Call (.Name "sorted" p) (e::es) [] pos) (dS zA t):=⟨RQ (hu:=hu) (hm:=hm) (ha:=ha.of) (hc:=hc) (hg:=hg) (he:=he) (hpl:=hpl)⟩
end
section
variable {X:Cx} {K:PySem.W.Frag} {e:ο} {es:List ο} {t:b9} {ta:ax} {pos p p' pos':ay}
theorem QZ(hu:X.A.units+64<cLine)(ha:QE X e ta)(hm:X.mg "sorted" = none)(hm2:X.mg "set" = none)(hc:X.calm=true:=by rfl)(hg:Gl X "sorted":=by rfl)(hg2:Gl X "set":=by rfl)(he2:notStar e=true:=by rfl):QE X (.Call (.Name "sorted" p) [.Call (.Name "set" p') [e] [] pos'] [] pos) (uJ ta):=⟨RP (hu:=hu) (ha:=ha.of) (hm:=hm) (hm2:=hm2) (hc:=hc) (hg:=hg) (hg2:=hg2) (he2:=he2)⟩
end
section
variable {X:Cx} {K:PySem.W.Frag} {e:ο} {es:List ο} {t:b9} {ta:ax} {pos p p' pos':ay}
theorem zr(hu:X.A.units+64<cLine)(hm:X.mg "all" = none)(ha:QA X (e::es) t)(hc:X.calm=true:=by rfl)(hg:Gl X "all":=by rfl)(he:notStar e=true:=by rfl)(hpl:es.all notStar=true:=by rfl):QE X (.Call (.Name "all" p) (e::es) [] pos) (dS um t):=⟨RL (hu:=hu) (hm:=hm) (ha:=ha.of) (hc:=hc) (hg:=hg) (he:=he) (hpl:=hpl)⟩
end
section
variable {X:Cx} {a:ο} {ta:ax} {te:TE} {pos p2 p3 p4:ay} {j:Nat}
theorem QY(ha:QE X a ta):QE X (.Subscript a (.Slice none none (some (.UnaryOp .USub (.Constant (.int 1) j p4) p3)) p2) pos) (Ee ta):=⟨RE (ha:=ha.of)⟩
end
section
variable {X:Cx} {a b c:ο} {ta:ax} {tb:b9} {p pos pos':ay}
theorem QX(ha:QE X a ta)(hm:X.mg "range" = none)(hb:QA X [b] tb)(hg:Gl X "range":=by rfl)(hs:notStar b=true:=by rfl):QT X (.Compare a [.NotIn] [.Call (.Name "range" p) [b] [] pos'] pos) (bQ (tN true ta tb)):=⟨Rx (ha:=ha.of) (hm:=hm) (hb:=hb.of) (hg:=hg) (hs:=hs)⟩
end
section
variable {X:Cx} {es:List ο} {n0:Nat} {ps p pos:ay}
theorem QV{a b:ο}{ta:b9}(hm:X.mg "zip" = none)(ha:QA X [a,b] ta)(hg:Gl X "zip":=by rfl)(hs:notStar a=true:=by rfl)(hs2:notStar b=true:=by rfl):QI X (.Tuple es n0 ps) (.Call (.Name "zip" p) [a,b] [] pos) (DZ ta):=⟨R9 (hm:=hm) (ha:=ha.of) (hg:=hg) (hs:=hs) (hs2:=hs2)⟩
end
section
variable {X:Cx} {es:List ο} {n0:Nat} {ps p pos:ay}
theorem QU{a:ο}{ta:b9}(hm:X.mg "enumerate" = none)(ha:QA X [a] ta)(hg:Gl X "enumerate":=by rfl)(hs:notStar a=true:=by rfl):QI X (.Tuple es n0 ps) (.Call (.Name "enumerate" p) [a] [] pos) (As ta):=⟨RX (hm:=hm) (ha:=ha.of) (hg:=hg) (hs:=hs)⟩
end
section
variable {X:Cx} {tg:ο} {p pos:ay}
theorem ID{a b d:ο}{ta:b9}(hm:X.mg "range" = none)(ha:QA X [a,b,d] ta)(hg:Gl X "range":=by rfl)(hs:notStar a=true:=by rfl)(hs2:notStar b=true:=by rfl)(hs3:notStar d=true:=by rfl):QI X tg (.Call (.Name "range" p) [a,b,d] [] pos) (u9 ta):=⟨Q7 (hm:=hm) (ha:=ha.of) (hg:=hg) (hs:=hs) (hs2:=hs2) (hs3:=hs3)⟩
end
section
variable {X:Cx} {tg:ο} {p pos:ay}
theorem QR{o i e:ο}{to ti te:ax}{tpos:ay}(ho:QE X o to)(hi:QE X i ti)(he:QE X e te)(ha:∀ov iv new,augStore i ov iv new=(do holding [new,ov,iv] (setItem ov iv new);release [new,ov,iv] [];pure .next):=by intros;rfl):QS X (.AugAssign (.Subscript o i tpos) .Add e pos) (wx to ti te (· + ·)):=⟨Q6 (ho:=ho.of) (hi:=hi.of) (he:=he.of) (ha:=ha)⟩
end
section
variable {X:Cx} {a b c e o:ο} {es:List ο} {ta tb tc te to:ax} {t:b9} {pos apos cpos p:ay}
theorem QQ{op op':jE}{r r':R3}{r2 r2':R2}(L:eG X.K r r2)(L':eG X.K r' r2')(ho:ed X (compareOp op) r2)(ho':ed X (compareOp op') r2')(ha:QE X a ta)(hb:QE X b tb)(hc:QE X c tc)(hm:lastMarks [op,op'] [b,c]=false:=by with_unfolding_all rfl):
  QE X (.Compare a [op,op'] [b,c] pos) (qd r r' ta tb tc):=⟨Ul (op:=op) (op':=op') L L' (Vi ho ho' ha.of hb.of hc.of hm)⟩
theorem DP{name:ι}{id:String}{r:D->List D->Gp->V3->Prop}{r2:V->List V->Hp->VK->Prop}(L:v8 X.K r r2)(slot:Slot "list" name id)(hty:typeOf (.builtin id)=pure (.type "method_descriptor"))(hm:Cg X id r2)(ho:QE X o to)(ha:QA X (e::es) t)
  (qX:attributeBase o name X.env (eval o X.env)=eval o X.env:=by rfl)
  (D1:((backTo cpos (bx (e::es) X.env)).all (fun x=>!x.1)&&(backToKw cpos (keywordEach [] X.env)).all (fun x=>x.1.isSome)
   && decide ((e::es).length+([]:List Keyword).length+(if ([]:List Keyword).isEmpty then 0 else 1)<30))=true:=by rfl)
  (Av:(apos.endLine==cpos.line)=true:=by rfl) (he:notStar e=true:=by rfl) (hpl:es.all notStar=true:=by rfl):
  QE X (.Call (.Attribute o name apos) (e::es) [] cpos) (eM r to t):=⟨TH L (UG PySem.F.plainAttrs_list slot hty hm ho.of ha.of qX D1 Av (dB he) (iM hpl))⟩
theorem QP{i j:Nat}{x y:ι}{px py pt:ay}{kt k2 pt2}(hc:X.calm=true)(hN:X.N.Nodup)(hi:X.N[i]?=some x)(hj:X.N[j]?=some y)(hij:i≠j)(hx:X.env.scope.names.lookup x=some .local)(hy:X.env.scope.names.lookup y=some .local)(ha:QA X [a,b] t)
  (hw:swappedStores [.Tuple [.Name x px,.Name y py] kt pt] (.Tuple [a,b] k2 pt2) X.env=pure (some [x,y])) (hs:swapsWithSole [.Tuple [.Name x px,.Name y py] kt pt] (.Tuple [a,b] k2 pt2) pos.line X.env=pure false:=by rfl):
  QS X (.Assign [.Tuple [.Name x px,.Name y py] kt pt] (.Tuple [a,b] k2 pt2) pos) (yT i j t):=⟨JT (Vy hc hN hi hj hij hx hy ha.of hw hs)⟩
end
section
variable {X:Cx} {tg iter elt:ο} {ifs:List ο} {scope:ee} {own:List ι} {js:List Nat} {ti:mh} {g:gR} {tc:cF} {te:ax} {pos:ay}
theorem lD(hc:X.calm=true)(C:dE X.N X.env.scope scope own js)(hi:QI X tg iter ti)
  (hb:∀s H fp,QG (X.cmp scope own js s H fp) tg g/\QC (X.cmp scope own js s H fp) ifs tc/\QE (X.cmp scope own js s H fp) elt te)
  (hs:∀x,foldedSetIterable iter X.env x=pure x:=by intro _;rfl):QE X (.ListComp elt [⟨tg,iter,ifs,0⟩] scope pos) (fR own js ti g tc te):=
 ⟨Tq hc C hi.of (fun s H fp=>⟨(hb s H fp).1.of,(hb s H fp).2.1.of,(hb s H fp).2.2.of⟩) hs⟩
theorem QN{i:Nat}{y:ι}{py spos:ay}(hc:X.calm=true)(hN:X.N.Nodup)(C:dE X.N X.env.scope scope own js)(hi:QI X tg iter ti)
  (hb:∀s H fp,QG (X.cmp scope own js s H fp) tg g/\QC (X.cmp scope own js s H fp) ifs tc/\QE (X.cmp scope own js s H fp) elt te) (hy:X.N[i]?=some y:=by rfl) (hyl:X.env.scope.names.lookup y=some .local:=by rfl)
  (B8:swapsWith (.ListComp elt [⟨tg,iter,ifs,0⟩] scope pos) (some (.Name y py)) spos.line X.env=pure true:=by rfl)
  (hs:∀x,foldedSetIterable iter X.env x=pure x:=by intro _;rfl):QS X (.Assign [.Name y py] (.ListComp elt [⟨tg,iter,ifs,0⟩] scope pos) spos) (cb (fR own js ti g tc te) (hName i)):=
 ⟨Tp hc hN C hi.of (fun s H fp=>⟨(hb s H fp).1.of,(hb s H fp).2.1.of,(hb s H fp).2.2.of⟩) hy hyl B8 hs⟩
end
theorem fQ{P:Ψ}{w:af}{K:PySem.W.Frag}{mg:ι->Option Value}{base:Ξ}{x qual:ι}{st:aB}{f:ε}{fd:ae}{N ps:List ι}{k:Nat}{sp:dC}(F:di K x qual st f fd)(S:aU N ps (ρ st))(hN:ps.length≤N.length)(len:∀ds G Q,sp ds G Q->ds.length=ps.length)(tb:ar)
  (eR:∀(cdv:Value) (A:aq) (outer:List cB) (s:ζ) (H:Hp) (E:XK),dy k (A.deeper (envOfC qual (ρ st) s.heap.objs.size f cdv)) ->
   mK (gH mM P w K mg base N qual (ρ st) f cdv A outer s H E).ly (dO st) tb)
  (mH:∀ds G Q,sp ds G Q->tb (aT Q) (aO N ds) G):dD P w K mg base (k+1) f fd ps sp:=fn3 F S hN len tb (fun cdv A outer s H E hr=>(eR cdv A outer s H E hr).of) mH
end L3
namespace L2
open PySem
open Sem (wp)
section
variable {prog:Ψ} {w:af} {A:aq} {E:Value->ζ->Prop} {h:Ξ} {g:Array GenState} {d:Drawn} {t:Nat} {os:OsState}
variable {nm q:ι} {C N:ε} {bs bm bmB:List Value} {hdct:Bool} {sn:List ι} {sub:List Value} {ab:Bool} {col:Option Bool} {dd:Option ε} {k0 k1 k2 k3 k5:Option Value} {B newId initId:String}
def fD(h:Ξ)(C:ε)(rest:List Value):Ξ:=(h.push { cls:=.type "tuple",data:=.seq rest.toArray }).push { cls:=.ref C,data:=.fields #[.ref h.objs.size,.none,.none,.none,.bool false,.none]}
theorem QM(F:ExcBaseFacts B newId initId bmB)(T:OwnTail h bmB bm){mN:ι->Option Value}{rest:List Value}{f:ε}{of:aA}{Q:Fin->ζ->Prop}
  (hC:h.get? C=some (excClassObj nm q C N bs bm hdct sn sub ab col dd k0 k1 k2 k3 k5 newId)) (hn:h.Ns N mN) (hni:mN "__init__" = some (.ref f)) (hf:h.get? f=some of) (hfc:of.cls=.type "function")
  (hq:fF (model prog w) A (.call (.ref f) ⟨.ref (h.objs.size+1)::rest,[]⟩) (fun r s'=>match r with
   |.ok (.ret v)=>v=.none/\Q (.done (.ret (.ref (h.objs.size+1)))) s'
   |.ok _=>False
   | .error e=>E e s') ⟨fD h C rest,g,d,t,os⟩) (hrest:rest.length≤ai:=by size_fits):
  μ (model prog w) A (cM.«type.__call__» ⟨.ref C::rest,[]⟩) Q E ⟨h,g,d,t,os⟩:=by
 repeat (first|with_reducible refine e6 hC ?_|with_reducible refine wpAny_madeBy_exc hC ?_|wp_step)
 refine codeAny_call_builtin_code (jw _ F.quiet) (wpAny_check_new_subT F T hC ?_);refine codeAny_exc_new_subT F T hC ?_ hrest;show μ _ _ _ _ _ _;have hC₁:=η { cls:=.ref C,data:=.fields #[.ref h.objs.size,.none,.none,.none,.bool false,.none]}
  (η { cls:=.type "tuple",data:=.seq rest.toArray } hC)
 have hf₁:=η { cls:=.ref C,data:=.fields #[.ref h.objs.size,.none,.none,.none,.bool false,.none]}
  (η { cls:=.type "tuple",data:=.seq rest.toArray } hf)
 have hn₁:((h.push { cls:=.type "tuple",data:=.seq rest.toArray }).push { cls:=.ref C,data:=.fields #[.ref h.objs.size,.none,.none,.none,.bool false,.none]}).Ns N mN:=
  let ⟨o,es,ep,e,r⟩:=hn;⟨o,es,ep,η _ (η _ e),r⟩
 have hget:((h.push { cls:=.type "tuple",data:=.seq rest.toArray }).push
   { cls:=.ref C,data:=.fields #[.ref h.objs.size,.none,.none,.none,.bool false,.none]}).get? (h.objs.size+1)=some
   { cls:=.ref C,data:=.fields #[.ref h.objs.size,.none,.none,.none,.bool false,.none]}:=by heap_get
 have hcC:(Value.ref C::bm).contains (.ref C)=true:=by simp
 have T₁:=T.keeps (h':=(h.push { cls:=.type "tuple",data:=.seq rest.toArray }).push { cls:=.ref C,data:=.fields #[.ref h.objs.size,.none,.none,.none,.bool false,.none]})
  fun b o e=>η _ (η _ e)
 unfold isInstance
 repeat (first|with_reducible refine e6 hget ?_|(with_reducible refine iH hC₁ ?_;rw[hcC])|wp_step)
 show μ _ _ (typeLookup (.ref C) _) _ _ _;refine wpAny_typeLookup_tail hC₁ hn₁ T₁ F.mroIs F.init.lookup ?_;rw[hni];refine aZ (δ (wpAny_bindSpecial_def hf₁ hfc ?_));refine δ (eV (cZ hq fun r s' hr=>?_));cases r with
 |error e=>exact hr
 |ok fl=>
  cases fl with
  |ret v=>
   obtain⟨rfl,hr⟩:=hr;refine θ ?_;show μ _ _ (ret (Value.ref (h.objs.size+1))) _ _ _;exact θ hr
  |next=>exact hr.elim
  |brk=>exact hr.elim
  |cont=>exact hr.elim
theorem QL(F:ExcBaseFacts B newId initId bmB)(T:OwnTail h bmB bm){mN:ι->Option Value}{rest:List Value}{f:ε}{of:aA}{Q:Value->ζ->Prop}
  (hC:h.get? C=some (excClassObj nm q C N bs bm hdct sn sub ab col dd k0 k1 k2 k3 k5 newId)) (hn:h.Ns N mN) (hni:mN "__init__" = some (.ref f)) (hf:h.get? f=some of) (hfc:of.cls=.type "function")
  (hq:fF (model prog w) (A.under (.builtin "type.__call__" ⟨.ref C::rest,[]⟩)) (.call (.ref f) ⟨.ref (h.objs.size+1)::rest,[]⟩) (fun r s'=>match r with
   |.ok (.ret v)=>v=.none/\Q (.ref (h.objs.size+1)) s'
   |.ok _=>False
   | .error e=>E e s') ⟨fD h C rest,g,d,t,os⟩) (hrest:rest.length≤ai:=by size_fits):
  μ (model prog w) A (call (.ref C) rest) Q E ⟨h,g,d,t,os⟩:=by
 have f1:=tc_lookup;have f2:=tc_bind (.ref C);have hT:(⟨h,g,d,t,os⟩:ζ).TypeIs (.ref C) "type":=⟨_,hC,rfl⟩;refine eV (iR ?_);show μ _ _ (callAny (.ref C) _) _ _ _
 repeat (any_goals (first|assumption|with_reducible refine e6 hC ?_|wp_step))
 refine⟨rfl,?_⟩;refine codeAny_call_builtin_at (jw _ (by decide +kernel)) entry_typeCall (wpAny_check_type_call_sub hC ?_);refine QM F T hC hn hni hf hfc (cZ hq fun r s' hr=>?_) hrest;cases r with
 |error e=>exact hr
 |ok fl=>
  cases fl with
  |ret v=>exact hr
  |next=>exact hr.elim
  |brk=>exact hr.elim
  |cont=>exact hr.elim
end
end L2
namespace L2
open PySem
open Sem (wp)
structure nu(base h:Ξ)(e T:ε)(cls:Value)(dx:Option ε):Prop where
 obj:∃oe vs,h.get? e=some oe/\oe.cls=cls/\oe.dict=dx/\oe.data=.fields vs/\vs[1]?=some (.ref T)/\vs[2]?=some .none
 fresh:base.get? T=none
 ne:T≠e
 ent:∃oT ts,h.get? T=some oT/\oT.data=.fields ts/\ts[3]?=some .none
structure rj(base:Ξ)(l:List cB)(e T₀:ε)(cls:Value)(dx:Option ε)(h h':Ξ):Prop where
 stays:base.StaysIn h'
 kg:h'.FunFrames base l
 wM:∃T,nu base h' e T cls dx/\h.get? T=none
 keep:∀b o,b≠e->b≠T₀->b∉fb l->h.get? b=some o->h'.get? b=some o
 slot:∀b o,b∈fb l->h.get? b=some o->∃sl,h'.get? b=some { o with slots:=sl }
section
variable {M:Model} {A:aq} {E:Value->ζ->Prop} {s:ζ}
theorem sF{base:Ξ}{env:cB}{outer:List cB}{L e:ε}{oe:aA}{vs:Array Value}{head:Value}{hadNext:Bool}{Q:Unit->ζ->Prop}
  (kO:A.frames=some (env::outer)) (hl:s.heap.FunFrames base (env::outer)) (hf:env.frame=some L)
  (he:s.heap.get? e=some oe) (hkb:base.StaysIn s.heap) (hen:base.get? e=none) (hd:oe.data=.fields vs) (hsz:1<vs.size) (h2:vs[2]?=some .none)
  (h:∀h',rj base (env::outer) e e oe.cls oe.dict s.heap h'->Q () { s with heap:=h' }):
  μ M A (do let a ←frameOf env;let pl ←entryPlaceOf L hadNext;let b ←r0 head a .none (rawInt L) .none pl;setField (.ref e) 1 b) (fun _ s'=>μ M A (setFlight (.ref e) none) Q E s') E s:=by
 have hene:e∉(env::outer).filterMap (·.frame):=fun hm=>by
  obtain⟨_,o,ho,hnf⟩:=hl.mem hm;rw[he] at ho;injection ho with ho;subst ho;exact hnf vs hd
 refine δ (wpAny_frameOf_fun kO hl hf fun h₁ hs₁=>?_);refine δ (wpAny_entryPlaceOf fun pl hpl=>?_);unfold r0 newFields;refine δ (aR ?_ (hpl.sizeOk5 _ _ _ _ _));have he₁:h₁.get? e=some oe:=(hs₁.2.1 e hene).trans he;have kb₁:base.StaysIn h₁:=fun b o hbo=>(hs₁.2.1 b fun hm=>by rw[(hl.mem hm).1] at hbo;cases hbo).trans (hkb b o hbo);have he₂:=η (h:=h₁) { cls:=.type "traceback",dict:=none,data:=.fields ([head,.ref L,.none,rawInt L,.none]++(if pl.isEmpty then bj 6 Value.none else pl)).toArray } he₁;refine eJ he₂ hd hsz ?_;have hTe:h₁.objs.size≠e:=fx (χ he₁);have hd₃:=cR hd (·.setIfInBounds 1 (Value.ref h₁.objs.size));have he₃:=bJ (fK (·.setIfInBounds 1 (Value.ref h₁.objs.size))) he₂ (dH hd₃);have hT₃:=(bq (h₁.push { cls:=.type "traceback",dict:=none,data:=.fields ([head,.ref L,.none,rawInt L,.none]++(if pl.isEmpty then bj 6 Value.none else pl)).toArray })
  (fK (·.setIfInBounds 1 (Value.ref h₁.objs.size))) (da hTe)).trans (ψ h₁ rfl)
 unfold setFlight;refine δ (aX he₃ hd₃ (x:=.ref h₁.objs.size) (by simp[hsz]) ?_);rw[if_pos (show (Value.ref h₁.objs.size != Value.none)=true from by simp)];refine eJ hT₃ rfl (by simp only[υ,aF,aj,dF]<;>omega) (h _ ?_)
 have keep:∀b o,b≠e->h₁.get? b=some o ->
   (((h₁.push { cls:=.type "traceback",dict:=none,data:=.fields ([head,.ref L,.none,rawInt L,.none]++(if pl.isEmpty then bj 6 Value.none else pl)).toArray }).update e (fK (·.setIfInBounds 1 (Value.ref h₁.objs.size)))).update h₁.objs.size
    (fK (·.setIfInBounds 3 ((none:Option ε).elim Value.none fun f=>rawInt f)))).get? b=some o:=fun b o hbe hb=>by
  have hbT:h₁.objs.size≠b:=fx (χ hb);rw[bq _ _ hbT,bq _ _ (da hbe)];exact η _ hb
 have noRecord:∀b o,s.heap.get? b=some o->(∀vs,o.data≠.fields vs)->b≠e:=fun b o hb hnf q=>by
  rw[q,he] at hb;injection hb with hb;subst hb;exact hnf vs hd
 refine⟨fun b o hbo=>keep b o (fun q=>by rw[q,hen] at hbo;cases hbo) (kb₁ b o hbo),hl.of_keeps fun b o hb hnf=>?_,⟨h₁.objs.size,⟨⟨_,_,?_,mQ _ _,?_,hd₃,by simp[hsz],by rw[Array.getElem?_setIfInBounds_ne (by decide)];exact h2⟩,kb₁.fresh,hTe,_,_,bJ _ hT₃ (dH (cR rfl _)),cR rfl _,by first|(simp;done)|(rcases hpl with rfl|⟨_,_,_,_,_,_,_,rfl⟩<;>simp)⟩,?_⟩,fun b o hbe _ hbf hb=>?_,fun b o hbf hb=>?_⟩
 ·obtain⟨sl,hs⟩:=hs₁.2.2 b o hb;exact⟨_,keep b _ (noRecord b o hb hnf) hs,rfl⟩
 ·rw[bq _ _ hTe];exact he₃
 ·obtain⟨c0,d0,dt0,s0⟩:=oe;cases dt0<;>rfl
 ·exact eX (by rw[hs₁.1];exact Ω _)
 ·exact keep b o hbe ((hs₁.2.1 b hbf).trans hb)
 ·obtain⟨sl,hs⟩:=hs₁.2.2 b o hb;refine⟨sl,keep b _ (fun q=>?_) hs⟩;rw[q] at hbf;exact hene hbf
theorem QK{base:Ξ}{env:cB}{outer:List cB}{L e:ε}{oe:aA}{vs:Array Value}{Q:Unit->ζ->Prop}
  (kO:A.frames=some (env::outer)) (hl:s.heap.FunFrames base (env::outer)) (hf:env.frame=some L)
  (he:s.heap.get? e=some oe) (hkb:base.StaysIn s.heap) (hen:base.get? e=none) (hd:oe.data=.fields vs) (h1:vs[1]?=some .none) (h2:vs[2]?=some .none)
  (h:∀h',rj base (env::outer) e e oe.cls oe.dict s.heap h'->Q () { s with heap:=h' }):μ M A (leaving env (.ref e)) Q E s:=by
 unfold leaving noteFrame;simp only[hf];refine δ (δ (aX he hd h1 ?_));rw[if_neg (by decide)];exact sF kO hl hf he hkb hen hd (aC.mp h1).1 h2 h
theorem Rq{base:Ξ}{env:cB}{outer:List cB}{L e T:ε}{cls:Value}{dx:Option ε}{Q:Unit->ζ->Prop}
  (kO:A.frames=some (env::outer)) (hl:s.heap.FunFrames base (env::outer)) (hf:env.frame=some L) (ht:nu base s.heap e T cls dx) (hkb:base.StaysIn s.heap) (hen:base.get? e=none)
  (h:∀h',rj base (env::outer) e T cls dx s.heap h'->Q () { s with heap:=h' }):μ M A (leaving env (.ref e)) Q E s:=by
 obtain⟨⟨oe,vs,he,hcls,hdx,hd,h1,h2⟩,hnT,hTe,oT,ts,hT,hdT,h3⟩:=ht;subst hcls hdx;unfold leaving noteFrame;simp only[hf];refine δ (δ (aX he hd h1 ?_));rw[if_pos (show (Value.ref T != Value.none)=true from by simp)];refine δ (aX hT hdT h3 ?_);rw[if_neg (show ¬((Value.none==rawInt L)=true) from by simp[rawInt])];refine δ (eJ hT hdT (aC.mp h3).1 ?_);have other:∀b,b≠T->(s.heap.update T (fK (·.setIfInBounds 3 Value.none))).get? b=s.heap.get? b:=fun b hb=>bq _ _ (da hb);have noRecord:∀b o,s.heap.get? b=some o->(∀vs,o.data≠.fields vs)->b≠T:=fun b o hb hnf q=>by
  rw[q,hT] at hb;injection hb with hb;subst hb;exact hnf ts hdT
 have hTf:T∉fb (env::outer):=fun hm=>by
  obtain⟨_,o,ho,hnf⟩:=hl.mem hm;rw[hT] at ho;injection ho with ho;subst ho;exact hnf ts hdT
 refine sF kO (hl.of_keeps fun b o hb hnf=>⟨o,(other b (noRecord b o hb hnf)).trans hb,rfl⟩) hf ((other e (da hTe)).trans he)
  (fun b o hbo=>(other b fun q=>by rw[q,hnT] at hbo;cases hbo).trans (hkb b o hbo)) hen hd (aC.mp h1).1 h2
  fun h' ⟨x1,x2,⟨T',x3,x3'⟩,x4,x5⟩=>h h' ⟨x1,x2,⟨T',x3,?_⟩,fun b o hbe hbT hbf hb=>x4 b o hbe hbe hbf ((other b hbT).trans hb),fun b o hbf hb=>x5 b o hbf ((other b fun q=>hTf (q▸hbf)).trans hb)⟩
 by_cases hq:T'=T
 ·subst hq;obtain⟨o2,e2⟩:∃o2,(s.heap.update T' (fK (·.setIfInBounds 3 Value.none))).get? T'=some o2:=⟨_,bJ _ hT (dH (cR hdT _))⟩;rw[e2] at x3';cases x3'
 ·rw[←other T' hq];exact x3'
end
end L2
namespace L2
open PySem PySem.Spec PyProof.Rows
def eS(P:Ψ)(w:af)(base:Ξ):qk:=fun outer H s E ev s'=>∃(e T C:ε) (dx:Option ε) (H':Hp),ev=.ref e/\s'.os=s.os/\jF s'.gens/\Un (fb outer) [] H H' s.heap s'.heap/\dJ P w H' s'.heap ∧
 nu base s'.heap e T (.ref C) dx/\(H' e=none/\H' T=none)/\base.get? e=none/\(s.heap.get? e=none/\s.heap.get? T=none)/\E (.ref C) dx H'
theorem bH.there{P:Ψ}{w:af}{H:Hp}{h:Ξ}{a:ε}{o:HO}(x:bH P w H h a o):∃ob,h.get? a=some ob:=by
 cases o with
 |lst xs=>obtain⟨_,_,_,_,e⟩:=x;exact⟨_,e⟩
 |tup xs=>obtain⟨_,_,_,ob,e,_⟩:=x;exact⟨_,e⟩
 |dK kvs=>obtain⟨_,_,_,_,o,_,_,e,_⟩:=x;exact⟨_,e⟩
 |dT kvs=>obtain⟨_,_,_,_,o,_,_,e,_⟩:=x;exact⟨_,e⟩
 |set S n=>obtain⟨o,_,_,_,e,_⟩:=x;exact⟨_,e⟩
 |ins C dx fs=>obtain⟨_,_,_,e,_⟩:=x;exact⟨_,e⟩
 |own y=>exact x
 |xd fs=>obtain⟨_,⟨_,_,_,e,_⟩,_⟩:=x;exact⟨_,e⟩
 |BV lo hi=>obtain⟨_,_,_,e⟩:=x;exact⟨_,e⟩
 |cN ob u=>obtain⟨e,_⟩:=x;exact⟨_,e⟩
 |uP ps=>exact⟨_,(show h.get? a=some _ from x)⟩
 |met f y=>exact⟨_,(show h.get? a=some _ from x)⟩
 |ext φ=>exact x.2.1
section
variable {X:Cx} {pins:List (ε×aA)} {σ:St} {H:Hp} {s:ζ}
theorem Inv.left(I:Inv X pins σ H s)(hex:X.ex=[])(hst:X.stack=X.env::X.outer)(kO:X.env.frame=some X.env.locals){e T₀:ε}{cls:Value}{dx:Option ε}{h':Ξ}(L:rj X.base X.stack e T₀ cls dx s.heap h')
  (he:X.s₀.heap.get? e=none) (hT:X.s₀.heap.get? T₀=none) (hHe:H e=none) (hHT:H T₀=none):
  Un (fb X.outer) [] X.H₀ H X.s₀.heap h'/\dJ X.prog X.w H h':=by
 have hloc:X.s₀.heap.get? X.env.locals=none:=eX I.ok.above;have sub:∀b,b∈fb X.stack->b=X.env.locals∨b∈fb X.outer:=fun b hb=>Φ.mp (I.se b hb);have ne:∀{b c:ε} {o:aA},X.s₀.heap.get? b=some o->X.s₀.heap.get? c=none->b≠c:=fun h1 h2 z=>by
  rw[z,h2] at h1;cases h1
 have ly:∀b:ε,b∉X.ex:=fun b z=>by
  rw[hex] at z;cases z
 have supF:∀b,b∈fb X.outer->b∈fb X.stack:=fun b hb=>by
  rw[hst];unfold fb;rw[cV,kO];exact ω _ hb
 refine⟨⟨fun b o h1 h2 h3 _=>?_,fun b o h1 h2 h3 _=>?_,fun b o h1 h2 _=>I.base.free b o h1 h2 (ly b),fun b o h1 _=>?_,I.base.gX,I.base.gZ,I.base.mr⟩,fun a o ha=>?_⟩
 ·have k1:=I.base.keep b o h1 h2 h3 (ly b);refine L.keep b o (ne h1 he) (ne h1 hT) (fun z=>?_) k1;rcases sub b z with z|z
  ·exact ne h1 hloc z
  ·exact h3 z
 ·obtain⟨sl,k1⟩:=I.base.slot b o h1 h2 h3 (ly b);obtain⟨sl',k2⟩:=L.slot b _ (supF b h3) k1;exact⟨sl',k2⟩
 ·obtain⟨o',k1⟩:=I.base.there b o h1 (ly b);by_cases hb:b∈fb X.stack
  ·obtain⟨sl,k2⟩:=L.slot b o' hb k1;exact⟨_,k2⟩
  ·exact⟨o',L.keep b o' (ne h1 he) (ne h1 hT) hb k1⟩
 ·refine (I.bf a o ha).kf (fun b u hb q=>?_) (fun _ q=>q) fun _ _ q=>q;have hHb:H b≠none:=by
   rcases hb with rfl|hb
   ·rw[ha];simp
   ·rw[hb];simp
  exact L.keep b u (fun z=>hHb (z▸hHe)) (fun z=>hHb (z▸hHT)) (fun z=>hHb (I.eY b z)) q
theorem Inv.fly(I:Inv X pins σ H s)(hex:X.ex=[])(hst:X.stack=X.env::X.outer)(kO:X.env.frame=some X.env.locals){e C:ε}{oe:aA}{vs:Array Value}{E:XK}(he:s.heap.get? e=some oe)(hc:oe.cls=.ref C)(hd:oe.data=.fields vs)(h1:vs[1]?=some .none)(h2:vs[2]?=some .none)
  (h0:X.s₀.heap.get? e=none) (hHe:H e=none) (q:E (.ref C) oe.dict H) {R:Value->ζ->Prop}:
  μ (model X.prog X.w) X.A (leaving X.env (.ref e)) (fun _ s'=>eS X.prog X.w X.base X.outer X.H₀ X.s₀ E (.ref e) s') R s:=by
 have hen:X.base.get? e=none:=by
  cases hq:X.base.get? e with
  |none=>rfl
  |some o=>
   have:=(I.ok.bs e o hq).1;rw[h0] at this;cases this
 refine QK (base:=X.base) (by rw[I.ok.frames,hst]) (by rw[←hst];exact I.stack) kO he I.bk hen hd h1 h2 fun h' L=>?_;rw[←hst,hc] at L;obtain⟨u,ok⟩:=I.left hex hst kO L h0 h0 hHe hHe;obtain⟨T,tr,hT⟩:=L.wM;have hTs:X.s₀.heap.get? T=none:=by
  cases hq:X.s₀.heap.get? T with
  |none=>rfl
  |some o=>
   obtain⟨o',e'⟩:=I.base.there T o hq (by rw[hex];simp);rw[hT] at e';cases e'
 have hHT:H T=none:=by
  cases hq:H T with
  |none=>rfl
  |some o=>
   obtain⟨ob,e'⟩:=bH.there (I.bf T o hq);rw[hT] at e';cases e'
 exact⟨e,T,C,oe.dict,H,rfl,I.os,I.bare,u,ok,tr,⟨hHe,hHT⟩,hen,⟨h0,hTs⟩,q⟩
theorem Rp{E:XK}(hex:X.ex=[])(hst:X.stack=X.env::X.outer)(kO:X.env.frame=some X.env.locals)
  (ZY:∀e s',μ (model X.prog X.w) X.A (leaving X.env e) (fun _ s''=>eS X.prog X.w X.base X.outer X.H₀ X.s₀ E e s'') (fun e' s''=>eS X.prog X.w X.base X.outer X.H₀ X.s₀ E e' s'') s'->X.xe e s'):jg (eS X.prog X.w X.base) X E:=by
 intro pins σ H s ev s' I h;obtain⟨e,T,C,dx,H',rfl,os,bare,u,ok,tr,⟨hHe,hHT⟩,hen,⟨he0,hT0⟩,q⟩:=h;have I':Inv X pins σ H' s':=I.Bt (ch:=[]) os u ok bare (fun b z=>absurd z (by simp));have s0:∀{b:ε},s.heap.get? b=none->X.s₀.heap.get? b=none:=fun {b} hb=>by
  cases hq:X.s₀.heap.get? b with
  |none=>rfl
  |some o=>
   obtain⟨o',e'⟩:=I.base.there b o hq (by rw[hex];simp);rw[hb] at e';cases e'
 refine ZY _ _ (Rq (base:=X.base) (by rw[I.ok.frames,hst]) (by rw[←hst];exact I'.stack) kO tr I'.bk hen fun h' L=>?_);rw[←hst] at L;obtain⟨u',ok'⟩:=I'.left hex hst kO L (s0 he0) (s0 hT0) hHe hHT;obtain⟨T',tr',hT'⟩:=L.wM;have hTs:X.s₀.heap.get? T'=none:=by
  cases hq:X.s₀.heap.get? T' with
  |none=>rfl
  |some o=>
   obtain⟨o',e'⟩:=I'.base.there T' o hq (by rw[hex];simp);rw[hT'] at e';cases e'
 have hHT':H' T'=none:=by
  cases hq:H' T' with
  |none=>rfl
  |some o=>
   obtain⟨ob,e'⟩:=bH.there (I'.bf T' o hq);rw[hT'] at e';cases e'
 exact⟨e,T',C,dx,H',rfl,I'.os,I'.bare,u',ok',tr',⟨hHe,hHT'⟩,hen,⟨s0 he0,hTs⟩,q⟩
theorem Ro{P:Ψ}{w:af}{K:PySem.W.Frag}{mg:ι->Option Value}{base:Ξ}{N:List ι}{qual:ι}{scope:ee}{f:ε}{cd:Value}{A:aq}{outer:List cB}{s:ζ}{H:Hp}{E:XK}:
  jg (eS P w base) (gH (eS P w base) P w K mg base N qual scope f cd A outer s H E) E:=Rp rfl rfl rfl fun e s' h=>h
theorem IC{P:Ψ}{w:af}{K:PySem.W.Frag}{mg:ι->Option Value}{base:Ξ}{N:List ι}{qual:ι}{scope:ee}{f:ε}{cd:Value}{A:aq}{outer:List cB}{s:ζ}{H:Hp}{E:XK}:
  gD (model P w) (gH (eS P w base) P w K mg base N qual scope f cd A outer s H E).A (gH (eS P w base) P w K mg base N qual scope f cd A outer s H E).env (gH (eS P w base) P w K mg base N qual scope f cd A outer s H E).xe:=gD.leaving
end
end L2
namespace L2
open PySem PySem.Spec PyProof.Rows
structure Body(X:Cx)(E:XK):Prop where
 ex:X.ex=[]
 st:X.stack=X.env::X.outer
 fr:X.env.frame=some X.env.locals
 xe:∀e s',μ (model X.prog X.w) X.A (leaving X.env e) (fun _ s''=>eS X.prog X.w X.base X.outer X.H₀ X.s₀ E e s'') (fun e' s''=>eS X.prog X.w X.base X.outer X.H₀ X.s₀ E e' s'') s'->X.xe e s'
theorem Rn{P:Ψ}{w:af}{K:PySem.W.Frag}{mg:ι->Option Value}{base:Ξ}{N:List ι}{qual:ι}{scope:ee}{f:ε}{cd:Value}{A:aq}{outer:List cB}{s:ζ}{H:Hp}{E:XK}:
  Body (gH (eS P w base) P w K mg base N qual scope f cd A outer s H E) E:=⟨rfl,rfl,rfl,fun _ _ h=>h⟩
section
variable {X:Cx} {E:XK}
theorem Body.throw(B:Body X E){pins:List (ε×aA)}{σ:St}{H:Hp}{s:ζ}{e C:ε}{oe:aA}{vs:Array Value}(I:Inv X pins σ H s)(he:s.heap.get? e=some oe)(hc:oe.cls=.ref C)(hd:oe.data=.fields vs)(h1:vs[1]?=some .none)(h2:vs[2]?=some .none)
  (h0:X.s₀.heap.get? e=none) (hHe:H e=none) (q:E (.ref C) oe.dict H):X.xe (.ref e) s:=B.xe _ _ (I.fly B.ex B.st B.fr he hc hd h1 h2 h0 hHe q)
theorem IB{pins:List (ε×aA)}{σ:St}{H:Hp}{s:ζ}(I:Inv X pins σ H s){e:ε}(h:s.heap.get? e=none):H e=none:=by
 cases hq:H e with
 |none=>rfl
 |some o=>
  obtain⟨ob,e'⟩:=bH.there (I.bf e o hq);rw[h] at e';cases e'
theorem Iz{pins:List (ε×aA)}{σ:St}{H:Hp}{s:ζ}(B:Body X E)(I:Inv X pins σ H s){e:ε}(h:s.heap.get? e=none):X.s₀.heap.get? e=none:=by
 cases hq:X.s₀.heap.get? e with
 |none=>rfl
 |some o=>
  obtain⟨o',e'⟩:=I.base.there e o hq (by rw[B.ex];simp);rw[h] at e';cases e'
end
end L2
namespace L3
open PySem PySem.Spec PyProof.Rows L2
def eP:HO->Bool
 |.tup _=>true
 |.cN _ (.lst _)=>true
 |.cN _ (.tup _)=>true
 |.cN _ (.xd _)=>true
 |.cN _ (.ext _)=>true
 |_=>false
def hide(H:Hp):Hp:=fun a=>match H a with
 |some o=>if eP o then some o else none
 |none=>none
def joined(H H':Hp):Hp:=fun a=>match H a with
 |some o=>if eP o then H' a else some o
 |none=>H' a
section
variable {P:Ψ} {w:af} {H H':Hp} {h h':Ξ} {a b:ε} {o:HO} {fs:List ε}
theorem uz(e:H a=none):hide H a=none:=by simp[hide,e]
theorem pL(e:H a=some o)(v:eP o=true):hide H a=some o:=by simp[hide,e,v]
theorem DO(e:H a=some o)(v:eP o=false):hide H a=none:=by simp[hide,e,v]
theorem DN(e:hide H a=some o):H a=some o/\eP o=true:=by
 unfold hide at e;cases q:H a with
 |none=>simp[q] at e
 |some u=>
  simp only[q] at e;cases v:eP u with
  |true=>
   rw[v,if_pos rfl] at e;cases e;exact⟨rfl,v⟩
  |false=>
   rw[v] at e;simp at e
theorem pK(e:H a=none):joined H H' a=H' a:=by simp[joined,e]
theorem qD(e:H a=some o)(v:eP o=true):joined H H' a=H' a:=by simp[joined,e,v]
theorem kH(e:H a=some o)(v:eP o=false):joined H H' a=some o:=by simp[joined,e,v]
theorem Iy{H2:Hp}(v:eP o=true)(x:bH P w H h a o):bH P w H2 h a o:=by
 cases o with
 |tup xs=>obtain⟨z,its,r,p⟩:=x;exact⟨z,its,r,p⟩
 |cN ob u=>
  cases u with
  |lst xs=>obtain⟨e,z,its,n,r,p⟩:=x;exact⟨e,z,its,n,r,p⟩
  |tup xs=>obtain⟨e,z,its,r,p⟩:=x;exact⟨e,z,its,r,p⟩
  |xd fs=>obtain⟨e,mA,r,p⟩:=x;exact⟨e,mA,r,p⟩
  |ext φ=>exact x
  |_=>cases v
 |_=>cases v
theorem Iw(ok:dJ P w H h):dJ P w (hide H) h:=fun a o e=>by
 obtain⟨e1,v⟩:=DN e;exact Iy v (ok a o e1)
variable (ok:dJ P w H h) (hfs:∀b∈fs,H b=none) (u:Un fs [] (hide H) H' h h') (ok':dJ P w H' h')
include ok u
theorem Iv(e:H b=some o)(v:eP o=false):H' b=none:=by
 obtain⟨ob,q⟩:=bH.there (ok b o e);exact u.free b ob q (DO e v) (by simp)
theorem sj(e:H' b=some o):joined H H' b=some o:=by
 cases q:H b with
 |none=>rw[pK q];exact e
 |some x=>
  cases v:eP x with
  |true=>rw[qD q v];exact e
  |false=>
   rw[Iv ok u q v] at e;cases e
include hfs ok'
theorem zq:Un fs [] H (joined H H') h h'/\dJ P w (joined H H') h':=by
 have kept:∀b x ob,H b=some x->eP x=false->h.get? b=some ob->h'.get? b=some ob:=fun b x ob e v q=>
  u.keep b ob q (DO e v) (fun z=>by rw[hfs b z] at e;cases e) (by simp)
 refine⟨⟨fun b ob q n h3 h4=>u.keep b ob q (uz n) h3 h4,fun b ob q n h3 h4=>u.slot b ob q (uz n) h3 h4,fun b ob q n h3=>by rw[pK n];exact u.free b ob q (uz n) h3,
  fun b ob q h3=>u.there b ob q h3,fun b xs e=>sj ok u (u.gX b xs (pL e rfl)),fun b ob x e=>?_,fun b ps e=>⟨#[],by rw[tG];exact kH e rfl⟩⟩,fun b x e=>?_⟩
 ·cases v:eP (.cN ob x) with
  |true=>exact sj ok u (u.gZ b ob x (pL e v))
  |false=>exact kH e v
 ·have mono:H' b=some x->bH P w (joined H H') h' b x:=fun z=>(ok' b x z).kf (fun _ _ _ q=>q) (fun c q=>sj ok u q) (fun c xs q=>sj ok u q);cases q:H b with
  |none=>
   rw[pK q] at e;exact mono e
  |some y=>
   cases v:eP y with
   |true=>
    rw[qD q v] at e;exact mono e
   |false=>
    rw[kH q v] at e;obtain rfl:=ao e;refine (ok b _ q).kf (fun c ob hc z=>?_) (fun c z=>kH z rfl) (fun c xs z=>sj ok u (u.gX c xs (pL z rfl)));rcases hc with rfl|hc
    ·exact kept _ _ _ q v z
    ·exact kept _ _ _ hc rfl z
end
section
variable {K:PySem.W.Frag} {H:Hp}
theorem bZ.mI{a:ε}{xs:List V}(h:bZ K H a xs):bZ K (hide H) a xs:=by
 rcases h with (h|⟨o,h⟩)|h
 ·exact .inl (.inl (pL h rfl))
 ·exact .inl (.inr ⟨o,pL h rfl⟩)
 ·exact .inr h
theorem ku.mI{a:ε}{xs:List V}(h:ku K H a xs):ku K (hide H) a xs:=by
 rcases h with⟨o,h⟩|h
 ·exact .inl ⟨o,pL h rfl⟩
 ·exact .inr h
mutual
theorem Hv.mI:∀{d:D} {v:V},Hv K H d v->Hv K (hide H) d v
 |.az,_,h=>by simpa [Hv] using h
 |.bl _,_,h=>by simpa [Hv] using h
 |.int _,_,h=>by simpa [Hv] using h
 |.str _,_,h=>by simpa [Hv] using h
 |.obj _,_,h=>by simpa [Hv] using h
 |.dc a,v,h=>by
  unfold Hv at h ⊢;obtain⟨e,ob,φ,q,c⟩:=h;exact⟨e,ob,φ,pL q rfl,c⟩
 |.tup ds,v,h=>by
  unfold Hv at h ⊢;obtain⟨a,vs,e,q,r⟩:=h;exact⟨a,vs,e,bZ.mI q,aw.mI r⟩
 |.eN ds,v,h=>by
  unfold Hv at h ⊢;obtain⟨a,vs,e,q,r⟩:=h;exact⟨a,vs,e,ku.mI q,aw.mI r⟩
theorem aw.mI:∀{ds:List D} {vs:List V},aw K H ds vs->aw K (hide H) ds vs
 |[],_,h=>by simpa [aw] using h
 |d::ds,vs,h=>by
  unfold aw at h ⊢;obtain⟨v,r,e,q,z⟩:=h;exact⟨v,r,e,Hv.mI q,aw.mI z⟩
end
end
abbrev dk:Gp:=fun _=>none
def both(G1 G':Gp):Gp:=fun a=>match G1 a with
 |some o=>some o
 |none=>G' a
abbrev E3:=ι->List (ι×Int)->Prop
def dz(K:PySem.W.Frag)(x:ι)(C:ε):Prop:=PySem.W.nsIn K aL x=some (some (.ref C))
def sX(H:Hp)(dx:Option ε)(fs:List (ι×Int)):Prop:=(dx=none/\fs=[])∨∃d o,dx=some d/\H d=some (.cN o (.xd (fs.map fun p=>(p.1,V.int p.2))))
def ie(K:PySem.W.Frag)(E:E3):XK:=fun cls dx H=>∃x C fs,cls=.ref C/\dz K x C/\E x fs/\sX H dx fs
abbrev kv:=List D->V3->E3->Prop
def DV(K:PySem.W.Frag)(sp:kv):Sp:=fun vs H Q E=>∃ds Q3 E',aw K H ds vs/\(∀a o,H a=some o->eP o=true)/\sp ds Q3 E'/\(∀v H' d G',Hv K H' d v->Step H dk H' G'->aD K G' H'->Q3 d G'->Q v H')/\∀cls dx H',ie K E' cls dx H'->E cls dx H'
abbrev lA(P:Ψ)(w:af)(K:PySem.W.Frag)(mg:ι->Option Value)(base:Ξ)(k:Nat)(f:ε)(fd:ae)(ps:List ι)(sp:kv):Prop:=iG P w K mg base (eS P w base) k f fd ps (DV K sp)
structure Joins(G1 G' G2:Gp):Prop where
 old:Sub G1 G2
 new:Sub G' G2
 out:∀a,G' a≠none->G1 a=none
def jc(sp:kv)(E:E3)(t:b9):ax:=fun τ G Q=>t τ G fun ds G1=>sp ds (fun d G'=>∀G2,Joins G1 G' G2->Q d G2) E
section
variable {X:Cx} {k:Nat} {f:ε} {fd:ae} {ps:List ι} {sp:kv} {E:E3} {x:ι} {p pos:ay} {e:ο} {es:List ο} {t:b9}
theorem DM{K:PySem.W.Frag}{P:Ψ}{w:af}{fs:List ε}{H H':Hp}{h h':Ξ}{G1 G':Gp}{d:D}{v:V}(ok:dJ P w H h)(hfs:∀b∈fs,H b=none)(u:Un fs [] (hide H) H' h h')(ok':dJ P w H' h')
  (R1:aD K G1 H) (hv:Hv K H' d v) (S:Step (hide H) dk H' G') (R':aD K G' H'):
  Hv K (joined H H') d v/\Step H G1 (joined H H') (both G1 G')/\aD K (both G1 G') (joined H H')/\Joins G1 G' (both G1 G'):=by
 have E2:Ext H' (joined H H'):=⟨fun b xs e=>sj ok u e,fun b o x e=>sj ok u e⟩;have E1:Ext H (joined H H'):=by
  obtain⟨u2,_⟩:=zq ok hfs u ok';exact⟨u2.gX,u2.gZ⟩
 have outG:∀a,G' a≠none->H a=none:=fun a n=>by
  have z:hide H a=none:=S.new a rfl n;cases q:H a with
  |none=>rfl
  |some o=>
   cases v:eP o with
   |true=>rw[pL q v] at z;cases z
   |false=>
    have:=Iv ok u q v;cases q':G' a with
    |none=>exact absurd q' n
    |some g=>
     obtain⟨o',z',_⟩:=(R' a g q').mut;rw[this] at z';cases z'
 have out1:∀a,G' a≠none->G1 a=none:=fun a n=>R1.free (outG a n);refine⟨hv.ext E2,⟨fun a o e n=>?_,fun a n=>?_,fun a n q=>?_⟩,fun a g e=>?_,⟨fun a o e=>by simp[both,e],fun a o e=>by simp[both,out1 a (by rw[e];simp),e],out1⟩⟩
 ·cases v:eP o with
  |true=>
   rw[qD e v];exact S.fr a o (pL e v) rfl
  |false=>exact kH e v
 ·cases q:H a with
  |none=>exact absurd q n
  |some o=>
   cases v:eP o with
   |true=>
    rw[qD q v];exact S.mE a (by rw[pL q v];simp)
   |false=>rw[kH q v];simp
 ·simp only[both,n] at q;exact outG a q
 ·cases q:G1 a with
  |some o=>
   simp only[both,q] at e;cases e;obtain⟨o',z,h1,h2⟩:=(R1 a g q).mut;have hv:eP o'=false:=by
    cases o' with
    |tup xs=>exact absurd rfl (h1 xs)
    |cN ob y=>exact absurd rfl (h2 ob y)
    |_=>rfl
   exact (R1 a g q).ext E1 (by rw[kH z hv,z])
  |none=>
   simp only[both,q] at e;have hn:=outG a (by rw[e];simp);exact (R' a g e).ext E2 (by rw[pK hn])
theorem Iu(G1:Gp):both G1 dk=G1:=by
 funext a;unfold both;cases G1 a<;>rfl
theorem Rm{H H':Hp}{fs:List ε}{h h':Ξ}(u:Un fs [] (hide H) H' h h'):Step (hide H) dk H' dk:=by
 have fr:∀a o,hide H a=some o->H' a=some o:=fun a o e=>by
  obtain⟨_,v⟩:=DN e;cases o with
  |tup xs=>exact u.gX a xs e
  |cN ob y=>exact u.gZ a ob y e
  |_=>cases v
 refine⟨fun a o e _=>fr a o e,fun a n=>?_,fun a _ q=>absurd rfl q⟩;cases q:hide H a with
 |none=>exact absurd q n
 |some o=>rw[fr a o q];simp
def uZ(K:PySem.W.Frag)(E:E3)(H:Hp)(G:Gp):XK:=fun cls dx H'=>ie K E cls dx H'/\aD K G H'/\Step H G H' G
theorem eS.mono{P:Ψ}{w:af}{base:Ξ}{outer:List cB}{H:Hp}{s s':ζ}{E E':XK}{ev:Value}(h:eS P w base outer H s E ev s')(m:∀cls dx H',E cls dx H'->E' cls dx H'):eS P w base outer H s E' ev s':=by
 obtain⟨e,T,C,dx,H',a1,a2,a3,a4,a5,a6,a7,a8,a9,q⟩:=h;exact⟨e,T,C,dx,H',a1,a2,a3,a4,a5,a6,a7,a8,a9,m _ _ _ q⟩
theorem eS.mI{P:Ψ}{w:af}{K:PySem.W.Frag}{base:Ξ}{outer:List cB}{H:Hp}{s s':ζ}{G1:Gp}{ev:Value}(ok:dJ P w H s.heap)(hfs:∀b∈fb outer,H b=none)(R1:aD K G1 H)(h:eS P w base outer (hide H) s (ie K E) ev s'):
  eS P w base outer H s (uZ K E H G1) ev s':=by
 obtain⟨e,T,C,dx,H',rfl,os,bare,u,ok',tr,⟨hHe,hHT⟩,hen,⟨he0,hT0⟩,x,C',fs,ec,cn,q,dd⟩:=h;obtain⟨u2,ok2⟩:=zq ok hfs u ok';obtain⟨_,z2,z3,_⟩:=DM (G':=dk) (d:=.az) (v:=.az) ok hfs u ok' R1 (by simp[Hv]) (Rm u) (fun _ _ e=>nomatch e);rw[Iu] at z2 z3;have out:∀b,s.heap.get? b=none->H' b=none->joined H H' b=none:=fun b hb hn=>by
  cases hq:H b with
  |none=>rw[pK hq];exact hn
  |some o=>
   obtain⟨ob,e'⟩:=bH.there (ok b o hq);rw[hb] at e';cases e'
 refine⟨e,T,C,dx,joined H H',rfl,os,bare,u2,ok2,tr,⟨out _ he0 hHe,out _ hT0 hHT⟩,hen,⟨he0,hT0⟩,⟨x,C',fs,ec,cn,q,?_⟩,z3,z2⟩;rcases dd with⟨d1,d2⟩|⟨d,o,d1,d2⟩
 ·exact .inl ⟨d1,d2⟩
 ·exact .inr ⟨d,o,d1,sj ok u d2⟩
theorem Rl{pins:List (ε×aA)}{σ:L2.St}{H:Hp}{s:ζ}{Q:VK}{G1:Gp}{Q3:V3}{ds:List D}{us:List Value}{vs:List V}{XE:Value->ζ->Prop}(F:lA X.prog X.w X.K X.mg X.base k f fd ps sp)(hr:dy k X.A)(hb:Binds X.K fd ps [])
  (hx:∀ev s',eS X.prog X.w X.base X.stack H s (uZ X.K E H G1) ev s'->XE ev s')
  (I:Inv X pins σ H s) (r:aS vs us) (hd:aw X.K H ds vs) (R1:aD X.K G1 H) (h:sp ds (fun d G'=>∀G2,Joins G1 G' G2->Q3 d G2) E) (kk:∀v H' d G',Hv X.K H' d v->Step H G1 H' G'->aD X.K G' H'->Q3 d G'->Q v H'):
  μ (model X.prog X.w) X.A (call (.ref f) us) (EP X pins σ Q) XE s:=by
 have hq:DV X.K sp vs (hide H) (fun v H'=>∃d G',Hv X.K H' d v/\Step (hide H) dk H' G'/\aD X.K G' H'/\∀G2,Joins G1 G' G2->Q3 d G2) (ie X.K E):=
  ⟨ds,_,E,hd.mI,fun a o e=>(DN e).2,h,fun v H' d G' a b c q=>⟨d,G',a,b,c,q⟩,fun _ _ _ z=>z⟩
 have hl:(us++[]).length=ps.length:=by rw[bw,←r.length];exact F.len _ _ _ _ hq
 have e0:nV X.prog X.w X.K X.mg X.base X.A X.stack s (hide H):=⟨I.ok.frames,I.ok.mod,fun b o e=>⟨(I.bs b o e).1,uz (I.bs b o e).2⟩,aG I.ok.oP I.sz,I.stack,fun b hb=>uz (I.eY b hb),Iw I.bf,I.bare⟩;have hb':=hb s us I.fC hl;rw[bw] at hb';refine eV (cZ (F.run X.A X.stack s (hide H) ⟨us,[]⟩ us vs _ (ie X.K E) hr e0 hb' r hq) fun r s' hq'=>?_);cases r with
 |error e=>exact hx e s' (eS.mI I.bf I.eY R1 hq')
 |ok fl=>
  cases fl with
  |ret u=>
   obtain⟨v,H',os,bare,un,bf,rv,d,G',a,b,c,q⟩:=hq';obtain⟨un2,ok2⟩:=zq I.bf I.eY un bf;obtain⟨z1,z2,z3,z4⟩:=DM I.bf I.eY un bf R1 a b c;exact I.after ⟨v,joined H H',os,bare,un2,ok2,rv,kk v _ d _ z1 z2 z3 (q _ z4)⟩
  |next=>exact bo hq'
  |brk=>exact bo hq'
  |cont=>exact bo hq'
theorem Rk(F:lA X.prog X.w X.K X.mg X.base k f fd ps sp)(hr:dy k X.A)(hx:jg (eS X.prog X.w X.base) X (ie X.K E))(hm:X.mg x=some (.ref f))(hk:PySem.W.keepIn X.K (.ref f)=true)(hb:Binds X.K fd ps [])(ha:gS X (e::es) t)(hg:Gl X x:=by rfl)
  (hdb:(x==("__debug__":ι))=false:=by decide) (he:notStar e=true:=by rfl) (hpl:es.all notStar=true:=by rfl):
  bE X (.Call (.Name x p) (e::es) [] pos) (jc sp E t):=by
 intro pins s σ H Q I ⟨τ,G,Q3,RS,RG,h,kk⟩;refine cQ (pF I hg hm ?_ hdb);refine PySem.W.callWith_K (h₀:=X.base) I.ok.mod.nR hk (br (ha pos pins s σ H (fun vs H1=>∃ds G1,aw X.K H1 ds vs/\Step H G H1 G1/\aD X.K G1 H1/\sp ds (fun d G'=>∀G2,Joins G1 G' G2->Q3 d G2) E) I
  ⟨τ,G,_,RS,RG,h,fun vs H1 ds G1 a b c q=>⟨ds,G1,a,b,c,q⟩⟩) fun us s1 ⟨vs,H1,I1,r,ds,G1,hd,S1,R1,q⟩=>⟨I1.fC,?_⟩) (dB he) (iM hpl)
 exact Rl F hr hb (fun ev s' h=>hx pins σ H1 s1 ev s' I1 (eS.mono h fun _ _ _ z=>z.1)) I1 r hd R1 q fun v H' d G' a b c q=>kk v H' d G' a (S1.trans b) c q
end
section
variable {P:Ψ} {w:af} {K:PySem.W.Frag} {mg:ι->Option Value} {base:Ξ}
theorem fnX{x qual:ι}{st:aB}{f:ε}{fd:ae}{N ps:List ι}{k:Nat}{sp:kv}(F:di K x qual st f fd)(S:aU N ps (ρ st))(hN:ps.length≤N.length)(len:∀ds Q E,sp ds Q E->ds.length=ps.length)(tb:E3->ar)
  (eR:∀(cdv:Value) (A:aq) (outer:List cB) (s:ζ) (H:Hp) (E:XK) (E':E3),dy k (A.deeper (envOfC qual (ρ st) s.heap.objs.size f cdv))->(∀cls dx H',ie K E' cls dx H'->E cls dx H') ->
   jh (gH (eS P w base) P w K mg base N qual (ρ st) f cdv A outer s H E) (dO st) (tb E'))
  (mH:∀ds Q E,sp ds Q E->tb E (aT Q) (aO N ds) dk):lA P w K mg base (k+1) f fd ps sp:=by
 obtain⟨oc,od,kV,doc,pm,an,cdv,ct,osl,rfl,lk,gQ⟩:=F.ex;refine KI lk gQ S (fun vs H Q E h=>?_) (fun A outer s H vs Q E hr h=>?_)
 ·obtain⟨ds,Q3,E',h1,_,h3,_⟩:=h;rw[←h1.length];exact len _ _ _ h3
 ·obtain⟨ds,Q3,E',h1,h2,h3,h4,h5⟩:=h;refine⟨_,eR cdv A outer s H E E' hr h5,aO N ds,dk,aT Q3,.start h1 ?_,(fun _ _ e=>nomatch e),mH _ _ _ h3,⟨?_,?_,?_,?_⟩⟩
  ·rw[←h1.length,len _ _ _ h3];exact hN
  ·exact fun τ σ G' H' a b c ⟨G0,s0,q⟩=>h4 _ H' .az G0 (by simp[Hv]) (b.trans (.sub s0)) (c.sub s0) q
  ·exact fun τ σ G' H' a b c q=>q.elim
  ·exact fun τ σ G' H' a b c q=>q.elim
  ·exact fun d v G' H' a b c ⟨G0,s0,q⟩=>h4 _ H' d G0 a (b.trans (.sub s0)) (c.sub s0) q
end
theorem mT{P:Ψ}{w:af}{K:PySem.W.Frag}{mg:ι->Option Value}{base:Ξ}{N:List ι}{qual:ι}{scope:ee}{f:ε}{cd:Value}{A:aq}{outer:List cB}{s:ζ}{H:Hp}{E:XK}{E':E3}(h:∀cls dx H',ie K E' cls dx H'->E cls dx H'):
  jg (eS P w base) (gH (eS P w base) P w K mg base N qual scope f cd A outer s H E) (ie K E'):=fun pins σ H1 s1 ev s' I q=>Ro pins σ H1 s1 ev s' I (eS.mono q h)
end L3
namespace L2
open PySem PySem.Spec PyProof.Rows
structure cY(k:Nat)(A:aq):Prop where
 dp:A.depth+3*k+5<recursionLimit
 un:A.units+16*k+200<cLine
theorem cY.mono{j k:Nat}{A:aq}(r:cY k A)(h:j≤k):cY j A:=⟨by have:=r.dp;lia,by have:=r.un;lia⟩
theorem cY.deeper{k:Nat}{A:aq}(r:cY (k+1) A)(env:cB):cY k (A.deeper env):=
 ⟨by have:=r.dp;show A.depth+1+3*k+5<_;lia,by have:=r.un;show A.units+3+16*k+200<_;lia⟩
theorem cY.depth{k:Nat}{A:aq}(r:cY k A):A.depth<recursionLimit:=by have:=r.dp;lia
theorem cY.units{k:Nat}{A:aq}(r:cY k A):A.units+64<cLine:=by have:=r.un;lia
theorem cY.mark{k:Nat}{A:aq}{v:Option Value}(r:cY k A):cY k (A.mark v):=⟨r.dp,r.un⟩
theorem dy.h{k:Nat}{A:aq}(r:dy k A):cY k A:=⟨r.dp,r.un⟩
structure mZ(P:Ψ)(w:af)(K:PySem.W.Frag)(mg:ι->Option Value)(base:Ξ)(k:Nat)(f:ε)(fd:ae)(ps:List ι)(sp:Sp):Prop where
 len:∀vs H Q E,sp vs H Q E->vs.length=ps.length
 run:∀(A:aq) (outer:List cB) (s:ζ) (H:Hp) (args:Args) (us:List Value) (vs:List V) (Q:VK) (E:XK),cY k A->nV P w K mg base A outer s H->lQ s fd args (ps.zip us)->aS vs us->sp vs H Q E ->
  fF (model P w) A (.call (.ref f) args) (CR mM outer P w H s Q E) s
section
variable {P:Ψ} {w:af} {K:PySem.W.Frag} {mg:ι->Option Value} {base:Ξ} {j k:Nat} {f:ε} {fd:ae} {ps:List ι} {sp:Sp}
theorem mZ.calm(F:mZ P w K mg base k f fd ps sp):iG P w K mg base mM k f fd ps sp:=⟨F.len,fun A outer s H args us vs Q E hr=>F.run A outer s H args us vs Q E hr.h⟩
theorem mZ.mono(F:mZ P w K mg base j f fd ps sp)(h:j≤k):mZ P w K mg base k f fd ps sp:=⟨F.len,fun A outer s H args us vs Q E hr=>F.run A outer s H args us vs Q E (hr.mono h)⟩
end
def yI(P:Ψ)(w:af)(K:PySem.W.Frag)(mg:ι->Option Value)(base:Ξ)(N:List ι)(qual:ι)(scope:ee)(f:ε)(cd:Value)(A:aq)(outer:List cB)(s:ζ)(H:Hp)(E:XK):Cx:=
 { gH mM P w K mg base N qual scope f cd A outer s H E with calm:=false,xe:=fun _ _=>False }
section
variable {P:Ψ} {w:af} {K:PySem.W.Frag} {mg:ι->Option Value} {base:Ξ} {N:List ι} {qual:ι} {scope:ee} {f:ε} {cd:Value} {A:aq} {outer:List cB} {s s1:ζ} {H H1:Hp} {E:XK} {pins:List (ε×aA)} {σ:St}
theorem Inv.loud(I:Inv (gH mM P w K mg base N qual scope f cd { A with handled:=none } outer s H E) pins σ H1 s1)(hf:A.frames=some outer):Inv (yI P w K mg base N qual scope f cd A outer s H E) pins σ H1 s1:=by
 obtain⟨ok,a1,a2,a3,a4,a5,a6,a7,a8,a9,a10⟩:=I;obtain⟨o1,o2,o3,o4,o5,o6,o7,o8,_,_,o11,o12,o13,o14,o15,o16,o17,o18⟩:=ok;exact⟨⟨o1,o2,o3,o4,o5,o6,o7,o8,(fun z=>nomatch z),rH hf,o11,o12,o13,o14,o15,o16,o17,o18⟩,a1,a2,a3,a4,a5,a6,a7,a8,a9,a10⟩
end
theorem Rj{P:Ψ}{w:af}{K:PySem.W.Frag}{mg:ι->Option Value}{base:Ξ}{k:Nat}{x qual:ι}{st:aB}{f:ε}{fd:ae}{N ps:List ι}{sp:Sp}(F:di K x qual st f fd)(S:aU N ps (ρ st))(len:∀vs H Q E,sp vs H Q E->vs.length=ps.length)
  (eR:∀(cdv:Value) (A:aq) (outer:List cB) (s:ζ) (H:Hp) (vs:List V) (Q:VK) (E:XK),cY k (A.deeper (envOfC qual (ρ st) s.heap.objs.size f cdv))->sp vs H Q E ->
   ∃t,kS (yI P w K mg base N qual (ρ st) f cdv A outer s H E) (dO st) t/\t { nx:=fun _ H'=>Q .az H',rt:=Q } (start N vs) H):
  mZ P w K mg base (k+1) f fd ps sp:=by
 obtain⟨oc,od,kV,doc,pm,an,cdv,ct,osl,rfl,lk,gQ⟩:=F.ex;refine⟨len,fun A outer s H args us vs Q E hr e0 hb r oJ=>?_⟩;have hl:=len _ _ _ _ oJ;have KX:K.In s.heap:=e0.mod.nR.keeps fun b o e=>(e0.bs b o e).1;have lim:s.heap.NoLimit:=e0.mod.nolimit.keeps fun b o e=>(e0.bs b o e).1;have hkind:∀y∈ps.zip us,(ρ st).names.lookup y.1=some .local∨((ρ st).names.lookup y.1=some .cell/\((cellsFrom (s.heap.objs.size+1) (ρ st).names []).lookup y.1).isSome=true):=fun⟨n,v⟩ hy=>by
  rcases S.par n (eW hy).1 with q|q
  ·exact .inl q
  ·exact .inr ⟨q,PySem.W.cellsFrom_some _ _ _ (.inl q)⟩
 refine g6 hr.depth (KX _ _ lk) rfl S.co S.gen rfl (PySem.W.codeRec_of KX gQ) (hb _ _ _ _ ?_);refine fI S.kind hkind fun env he s1 x=>?_;subst he;refine⟨lim.keeps x.toInCall.keep,nZ ?_⟩;obtain⟨t,ht,hq⟩:=eR cdv A outer s H vs Q E (hr.deeper _) oJ;have e1:nV P w K mg base { A with handled:=none } outer s H:=⟨e0.frames,e0.mod,e0.bs,e0.oP,e0.kg,e0.vc,e0.bf,e0.bare⟩;have I0:Inv (gH mM P w K mg base N qual (ρ st) f cdv { A with handled:=none } outer s H E) [] (start N vs) H s1:=DI S rfl e1 hl r x;have I:=I0.loud (A:=A) e0.frames;refine cp (ht [] s1 (start N vs) H _ I hq) (fun fl s' hs=>?_) fun e s' hs=>hs.elim;have fin:∀{σ':St} {H':Hp} {v:V} {u:Value},Inv (yI P w K mg base N qual (ρ st) f cdv A outer s H E) [] σ' H' s'->RelV v u->Q v H'->CE outer P w H s Q u s':=
  fun {σ' H' v u} J rv q=>⟨v,H',J.os,J.bare,J.base,J.bf,rv,q⟩
 cases fl with
 |ret u=>
  obtain⟨v,σ',H',J,rv,q⟩:=hs;exact fin J rv q
 |next=>
  obtain⟨σ',H',J,q⟩:=hs;exact fin (v:=V.az) (u:=Value.none) J rfl q
 |brk=>
  obtain⟨_,_,_,q⟩:=hs;exact bo q
 |cont=>
  obtain⟨_,_,_,q⟩:=hs;exact bo q
section
variable {X:Cx} {k:Nat} {f:ε} {fd:ae} {ps:List ι} {sp:Sp} {E:XK} {x:ι} {p pos:ay} {e:ο} {es:List ο} {t:TA}
theorem Ri{pins:List (ε×aA)}{σ:St}{H:Hp}{s:ζ}{Q:VK}{us:List Value}{vs:List V}(F:mZ X.prog X.w X.K X.mg X.base k f fd ps sp)(hr:cY k X.A)(hb:Binds X.K fd ps [])
  (I:Inv X pins σ H s) (r:aS vs us) (h:sp vs H Q E):μ (model X.prog X.w) X.A (call (.ref f) us) (EP X pins σ Q) X.xe s:=by
 have hl:(us++[]).length=ps.length:=by rw[bw,←r.length];exact F.len _ _ _ _ h
 have hb':=hb s us I.fC hl;rw[bw] at hb';refine eV (cZ (F.run X.A X.stack s H ⟨us,[]⟩ us vs Q E hr I.Ed hb' r h) fun r s' hq=>?_);cases r with
 |error e=>exact bo hq
 |ok fl=>
  cases fl with
  |ret u=>exact I.after hq
  |next=>exact bo hq
  |brk=>exact bo hq
  |cont=>exact bo hq
theorem Rh(F:mZ X.prog X.w X.K X.mg X.base k f fd ps sp)(hr:cY k X.A)(hg:Gl X x)(hm:X.mg x=some (.ref f))(hk:PySem.W.keepIn X.K (.ref f)=true)(hb:Binds X.K fd ps [])
  (ha:PA X (e::es) t) (hdb:(x==("__debug__":ι))=false:=by decide) (he:bx (e::es) X.env=(false,eval e X.env)::bx es X.env:=by rfl) (hpl:(backTo pos (bx es X.env)).any (·.1)=false:=by rfl):
  PE X (.Call (.Name x p) (e::es) [] pos) (wo sp [] E t):=by
 intro pins s σ H Q I h;refine cQ (pF I hg hm ?_ hdb);refine PySem.W.callWith_K (h₀:=X.base) I.ok.mod.nR hk (br (ha pos pins s σ H _ I h) fun us s1 ⟨vs,H1,I1,r,q⟩=>⟨I1.fC,?_⟩) he hpl;have q':sp (vs++[]) H1 Q E:=q;rw[bw] at q';exact Ri F hr hb I1 r q'
end
end L2
namespace L3
open PySem PySem.Spec PyProof.Rows L2
abbrev uL(P:Ψ)(w:af)(K:PySem.W.Frag)(mg:ι->Option Value)(base:Ξ)(k:Nat)(f:ε)(fd:ae)(ps:List ι)(sp:dC):Prop:=mZ P w K mg base k f fd ps (j6 K sp)
theorem Qu{X:Cx}{k:Nat}{f:ε}{fd:ae}{ps:List ι}{sp:dC}{x:ι}{p pos:ay}{e:ο}{es:List ο}{t:b9}(F:uL X.prog X.w X.K X.mg X.base k f fd ps sp)(hr:cY k X.A)(hm:X.mg x=some (.ref f))(hk:PySem.W.keepIn X.K (.ref f)=true)(hb:Binds X.K fd ps [])(ha:gS X (e::es) t)(hg:Gl X x:=by rfl)
  (hdb:(x==("__debug__":ι))=false:=by decide) (he:notStar e=true:=by rfl) (hpl:es.all notStar=true:=by rfl):
  bE X (.Call (.Name x p) (e::es) [] pos) (bt sp t):=gP (Rh (E:=E0) F hr hg hm hk hb ha hdb (dB he) (iM hpl)) fun σ H Q h=>DE h
theorem Zx{P:Ψ}{w:af}{K:PySem.W.Frag}{mg:ι->Option Value}{base:Ξ}{x qual:ι}{st:aB}{f:ε}{fd:ae}{N ps:List ι}{k:Nat}{sp:dC}(F:di K x qual st f fd)(S:aU N ps (ρ st))(hN:ps.length≤N.length)(len:∀ds G Q,sp ds G Q->ds.length=ps.length)(tb:ar)
  (eR:∀(cdv:Value) (A:aq) (outer:List cB) (s:ζ) (H:Hp) (E:XK),cY k (A.deeper (envOfC qual (ρ st) s.heap.objs.size f cdv)) ->
   jh (yI P w K mg base N qual (ρ st) f cdv A outer s H E) (dO st) tb)
  (mH:∀ds G Q,sp ds G Q->tb (aT Q) (aO N ds) G):uL P w K mg base (k+1) f fd ps sp:=by
 refine Rj F S (fun vs H Q E h=>?_) (fun cdv A outer s H vs Q E hr h=>?_)
 ·obtain⟨ds,G,Q3,h1,h2,h3,h4⟩:=h;rw[←h1.length];exact len _ _ _ h3
 ·obtain⟨ds,G,Q3,h1,h2,h3,h4⟩:=h;refine⟨_,eR cdv A outer s H E hr,aO N ds,G,aT Q3,.start h1 ?_,h2,mH _ _ _ h3,⟨?_,?_,?_,?_⟩⟩
  ·rw[←h1.length,len _ _ _ h3];exact hN
  ·exact fun τ σ G' H' a b c ⟨G0,s0,q⟩=>h4 _ H' .az G0 (by simp[Hv]) (b.trans (.sub s0)) (c.sub s0) q
  ·exact fun τ σ G' H' a b c q=>q.elim
  ·exact fun τ σ G' H' a b c q=>q.elim
  ·exact fun d v G' H' a b c ⟨G0,s0,q⟩=>h4 _ H' d G0 a (b.trans (.sub s0)) (c.sub s0) q
end L3
namespace L3
open PySem PySem.Spec PyProof.Rows L2
abbrev yL:=S3->Gp->E3
abbrev yM:=yL->ax
abbrev ub:=yL->ar
def vm(X:Cx)(pins:List (ε×aA))(H:Hp)(G:Gp)(KX:yL)(XE:Value->ζ->Prop):Prop:=
 ∀(σ1:L2.St) (τ1:S3) (H1:Hp) (s1:ζ) (G1:Gp) (ev:Value) (s':ζ),Inv X pins σ1 H1 s1->dI X.K τ1 σ1 H1->aD X.K G1 H1->Step H G H1 G1->eS X.prog X.w X.base X.stack H1 s1 (uZ X.K (KX τ1 G1) H1 G1) ev s'->XE ev s'
theorem vm.step{X:Cx}{pins:List (ε×aA)}{H H1:Hp}{G G1:Gp}{KX:yL}{XE:Value->ζ->Prop}(x:vm X pins H G KX XE)(S:Step H G H1 G1):vm X pins H1 G1 KX XE:=
 fun σ1 τ1 H2 s2 G2 ev s' a b c d e=>x σ1 τ1 H2 s2 G2 ev s' a b c (S.trans d) e
def Lz(X:Cx)(e:ο)(t:yM):Prop:=
 ∀(pins:List (ε×aA)) (s:ζ) (σ:L2.St) (H:Hp) (Q:VK) (XE:Value->ζ->Prop) (τ:S3) (G:Gp) (Q3:V3) (KX:yL),Inv X pins σ H s->dI X.K τ σ H->aD X.K G H->t KX τ G Q3 ->
  (∀v H' d G',Hv X.K H' d v->Step H G H' G'->aD X.K G' H'->Q3 d G'->Q v H')->vm X pins H G KX XE->μ (model X.prog X.w) X.A (eval e X.env) (EP X pins σ Q) XE s
def Cd(X:Cx)(st:List aB)(t:ub):Prop:=
 ∀(pins:List (ε×aA)) (s:ζ) (σ:L2.St) (H:Hp) (D2:Ends) (XE:Value->ζ->Prop) (τ:S3) (G:Gp) (D3:kT) (KX:yL),Inv X pins σ H s->dI X.K τ σ H->aD X.K G H->t KX D3 τ G->nv X.K H G D3 D2->vm X pins H G KX XE ->
  μ (model X.prog X.w) X.A (execs st X.env) (SP X pins D2) XE s
section
variable {X:Cx} {k:Nat} {f:ε} {fd:ae} {ps:List ι} {sp:kv} {x:ι} {p pos:ay} {a b e c:ο} {es:List ο} {t:b9} {te:ax} {tx:yM} {tax:TAX} {tc:cF} {ta tb tr:ub} {sa sb rest:List aB}
def wQ(tx:yM)(tr:ub):ub:=fun KX D τ G=>tx KX τ G fun _ G1=>tr KX D τ G1
theorem Qt(h:Lz X e tx)(hr:Cd X rest tr)(hs:swapsWith e none pos.line X.env=pure false:=by rfl):Cd X (.Expr e pos::rest) (wQ tx tr):=by
 intro pins s σ H D2 XE τ G D3 KX I RS RG ht EL xx;refine ik (wpAny_Expr_any (br (h pins s σ H (fun v H1=>∃d G1,Hv X.K H1 d v/\Step H G H1 G1/\aD X.K G1 H1/\tr KX D3 τ G1) XE τ G _ KX I RS RG ht (fun v H' d G' a b c q=>⟨d,G',a,b,c,q⟩) xx) fun v s1 ⟨x,H1,I1,r1,d,G1,hd,S1,R1,q1⟩=>?_) I.quiet hs);exact hr pins s1 σ H1 D2 XE τ G1 D3 KX I1 (RS.ext (S1.ext RG)) R1 q1 (EL.step S1) (xx.step S1)
def wO:ub:=fun _ D τ G=>D.nx τ G
theorem Qs:Cd X [] wO:=fun _ _ σ H D2 XE τ G D3 KX I RS RG h EL _=>eU ⟨σ,H,I,EL.nx τ σ G H RS (.refl H G) RG h⟩
end
end L3
namespace L2
open PySem PySem.Spec PyProof.Rows
open Builtin Builtin.ObjectAttr
open Sem (wp)
abbrev gW:List Value:=[.type "ValueError",.type "Exception",.type "BaseException",.type "object"]
def wR(es:Array tD):Bool:=es.toList.all fun e=>match e.key with
 |.str _ _=>true
 |_=>false
theorem Qr{es:Array tD}(h:wR es=true):StrKeys es:=fun e he=>by
 have:=eI.mp h e (by simpa using he);cases q:e.key with
 |str n t=>exact⟨n,t,rfl⟩
 |_=>rw[q] at this;cases this
def KS(K:PySem.W.Frag)(N:ε)(init:Option Value):Bool:=match K.lookup N with
 |some ⟨_,_,.dict es _,_⟩=>wR es&&nsFind es "__init__" == init
 |_=>false
theorem Qq{K:PySem.W.Frag}{h:Ξ}{N:ε}{init:Option Value}(X:K.In h)(e:KS K N init=true):∃m,h.Ns N m/\m "__init__" = init:=by
 unfold KS at e;split at e
 ·rename_i c d es ep sl ho;rw[bF] at e;exact⟨nsFind es,⟨_,es,ep,X _ _ ho,rfl,Qr e.1,fun _=>rfl⟩,beq_iff_eq.mp e.2⟩
 ·cases e
def excIn(K:PySem.W.Frag)(C:ε)(bm:List Value)(init:Option Value)(newId:String):Bool:=match K.lookup C with
 | some ⟨.type "type",_,.cls cd,sl⟩=>(match cd.mro,sl.toList with
  |.ref C'::bm',[_,_,_,_,some (.builtin n),_]=>C'==C&&bm'==bm && !cd.hasDel&&cd.hasDict&&n==newId&&KS K cd.ns init
  | _,_=>false)
 |_=>false
theorem zp{K:PySem.W.Frag}{h:Ξ}{C:ε}{bm:List Value}{init:Option Value}{newId:String}(X:K.In h)(q:excIn K C bm init newId=true):∃nm qn N bs sn sub ab col dd k0 k1 k2 k3 k5 mN,
  h.get? C=some (excClassObj nm qn C N bs bm true sn sub ab col dd k0 k1 k2 k3 k5 newId)/\h.Ns N mN/\mN "__init__" = init:=by
 unfold excIn at q;split at q
 ·rename_i dd cd sl ho;split at q
  ·rename_i C' bm' k0 k1 k2 k3 n k5 hm hs;simp only[bF,beq_iff_eq,Bool.not_eq_true'] at q;obtain⟨⟨⟨⟨⟨rfl,rfl⟩,hdel⟩,hdct⟩,rfl⟩,hns⟩:=q;obtain⟨nm,bs,mro,ns,qn,hd,sn,sub,ab,col,del⟩:=cd;dsimp only at hm hdel hdct hns;subst hm hdel hdct;have hsl:sl = #[k0,k1,k2,k3,some (.builtin n),k5]:=by
    obtain⟨l⟩:=sl;simp only at hs;rw[hs]
   subst hsl;obtain⟨m,h1,h2⟩:=Qq X hns;exact⟨nm,qn,ns,bs,sn,sub,ab,col,dd,k0,k1,k2,k3,k5,m,X _ _ ho,h1,h2⟩
  ·cases q
 ·cases q
structure vp(K:PySem.W.Frag)(C B:ε)(init:Option Value):Prop where
 cls:excIn K C (.ref B::gW) init "ValueError.__new__" = true
 base:excIn K B gW none "ValueError.__new__" = true
theorem vp.own{K:PySem.W.Frag}{C B:ε}{init:Option Value}(x:vp K C B init){h:Ξ}(X:K.In h):∃nm qn N bs sn sub ab col dd k0 k1 k2 k3 k5 mN,
  h.get? C=some (excClassObj nm qn C N bs (.ref B::gW) true sn sub ab col dd k0 k1 k2 k3 k5 "ValueError.__new__")/\h.Ns N mN/\mN "__init__" = init/\OwnTail h gW (.ref B::gW):=by
 obtain⟨nm,qn,N,bs,sn,sub,ab,col,dd,k0,k1,k2,k3,k5,mN,h1,h2,h3⟩:=zp X x.cls;obtain⟨nm',qn',N',bs',sn',sub',ab',col',dd',k0',k1',k2',k3',k5',mN',h1',h2',h3'⟩:=zp X x.base;exact⟨nm,qn,N,bs,sn,sub,ab,col,dd,k0,k1,k2,k3,k5,mN,h1,h2,h3,.own h1' h2' h3' .base⟩
structure vn(K:PySem.W.Frag)(C B:ε)(names:List ι):Prop where
 sa:PySem.W.findIn K (.ref C) "__setattr__" = some (some (.builtin "object.__setattr__"))
 obj:PySem.W.mroIn K C (.type "object")=some true
 mro:∃cd,PySem.W.clsIn K C=some cd/\cd.mro=.ref C::.ref B::gW/\cd.hasDict=true
 nm:∀n∈names,PySem.W.findIn K (.ref C) n=some none
section
variable {prog:Ψ} {w:af} {A:aq} {E:Value->ζ->Prop} {s:ζ} {K:PySem.W.Frag} {C B x:ε} {names:List ι} {name:ι} {v:Value} {mA:ι->Option Value}
theorem Qp{h:Ξ}(I:h.Inst x C mA):∃ox od,PySem.W.InstAt h x ox C od:=by
 obtain⟨o,hx,hc,hnc,hd⟩:=I;have hn:PySem.W.notCls o=true:=by
  unfold PySem.W.notCls;split
  ·rename_i c q;exact absurd q (hnc c)
  ·rfl
 rcases hd with⟨hd,_⟩|⟨d,hd,_,od,es,ep,hod,_⟩
 ·exact⟨o,none,hx,hc,hn,by rw[hd];trivial⟩
 ·exact⟨o,some od,hx,hc,hn,by rw[hd];exact hod⟩
theorem Qo{ns:List ι}{Q:Unit->ζ->Prop}(S:vn K C B names)(hn:name∈names)(X:K.In s.heap)(I:s.heap.Inst x C mA)(hw:Within mA ns)(hsz:ns.length≤1000)
  (hq:∀h' tk',h'.Inst x C (fun y=>if y=name then some v else mA y) ->
   (∀b o,b≠x->(∀o₀ dx,s.heap.get? x=some o₀->o₀.dict=some dx->b≠dx)->s.heap.get? b=some o->h'.get? b=some o) ->
   (∀o₀,s.heap.get? x=some o₀->∃o₁,h'.get? x=some o₁/\o₁.cls=o₀.cls/\o₁.data=o₀.data/\o₁.slots=o₀.slots/\(∀dx,o₀.dict=some dx->o₁.dict=some dx)/\(o₀.dict=none->o₁.dict=some s.heap.objs.size))->Q () { s with heap:=h',toks:=tk' }):
  μ (model prog w) A (setAttr (.ref x) name v) Q E s:=by
 obtain⟨ox,od,IA⟩:=Qp I;obtain⟨cd,gQ,hmro,hdct⟩:=S.mro;refine PySem.W.set_plain X IA S.sa ?_;have X':K.In ({ s with toks:=s.toks+1 }:ζ).heap:=X;have IA':PySem.W.InstAt ({ s with toks:=s.toks+1 }:ζ).heap x ox C od:=IA;have SF:=PySem.F.store_object;have sub:PySem.W.Looks (model prog w) ({ s with toks:=s.toks+1 }:ζ).heap (isInstance (.ref x) (.type "object")) true:=IA'.type.andThen (PySem.W.looks_mroIn X' S.obj);have hm:PySem.W.Looks (model prog w) ({ s with toks:=s.toks+1 }:ζ).heap (mroOf (.ref C)) cd.mro:=(PySem.W.looks_clsIn X' gQ).andThen .now;refine il SF.slot.plain SF.entry (@PySem.W.check_slot (model prog w) _ _ { s with toks:=s.toks+1 } "object.__setattr__" "object" "__setattr__" (.ref x) [.str name s.toks,v] [] _ SF.kind SF.split sub (SF.args (.ref x) (.str name s.toks) v) ?_);rw[PySem.W.osa_eq,refuse_eq];refine δ (δ (IA'.type.here (δ (hm.here ?_))));rw[hmro,refuseLoop_ref,refuseLoop_ref,PySem.F.store_ValueError.passes];refine θ (δ (IA'.type.here (δ ((PySem.W.looks_findIn X' (S.nm name hn)).here (δ (θ ?_))))));obtain⟨o,hx,hc,hnc,hd⟩:=I;obtain⟨hp,g,dr,tk0,os⟩:=s;dsimp only at hx X IA hq hd X' IA';have LC:=PySem.W.looks_clsIn (M:=model prog w) X' gQ;obtain⟨oc,odi,oda,osl⟩:=o;dsimp only at hc hnc hd;subst hc;show μ _ _ (storeInOwnDict (.ref x) (.ref C) (.str name tk0) name v false) _ _ _;refine δ (θ (δ (δ (wpAny_loadPart hx (δ (LC.here ?_))))));rw[hdct];rcases hd with⟨hdn,hmA⟩|⟨dx,hdx,cy,hns⟩
 ·subst hdn;have hx₁:(hp.push { cls:=.type "dict",data:=.dict #[]}).get? x=some ⟨.ref C,none,oda,osl⟩:=η _ hx;have hxs:x≠hp.objs.size:=av (χ hx);have hgd:((hp.push { cls:=.type "dict",data:=.dict #[]}).update x fun o=>{ o with dict:=some hp.objs.size }).get? hp.objs.size
     = some { cls:=.type "dict",data:=.dict #[]}:=
    (rZ _ _ _ _ hxs.symm).trans (Ξ.get?_push_at rfl rfl)
  have hnd:((hp.push { cls:=.type "dict",data:=.dict #[]}).update x fun o=>{ o with dict:=some hp.objs.size }).Ns hp.objs.size (fun _=>none):=
    ⟨_,#[],_,hgd,rfl,fun e he=>absurd he (by simp),fun _=>rfl⟩
  have core:μ (model prog w) A.in1 (storeInDict hp.objs.size (.str name tk0) name v) (fun fin s'=>match fin with | .done f=>(match f with | .ret _=>Q () s' | _=>False) | .again c'=>False) (fun e s'=>E e s') ⟨(hp.push { cls:=.type "dict",data:=.dict #[]}).update x fun o=>{ o with dict:=some hp.objs.size },g,dr,tk0+1,os⟩:=by
   unfold storeInDict newKeyGuard;refine δ (θ (δ (wpAny_nsSet1 (Ξ.Ns1.of_empty hnd) fun h' hn' hs=>?_)));obtain⟨oD,esD,epD,hoD,hdD,hcD⟩:=hn'.count (uf name v Within.nil);refine δ (wpAny_lookBehind hoD (by rw[hdD];exact pastItsLine_dict (aG hcD (by rw[aj,dF,bI];omega))) ?_);refine θ ?_;have hx':h'.get? x=some ⟨.ref C,some hp.objs.size,oda,osl⟩:=by
    refine (hs.2 x hxs).trans (bJ _ hx₁ ?_);have kO:=(Ξ.get?_some_iff.mp hx).2;cases oda<;>first|rfl|exact kO
   refine hq h' _ ⟨_,hx',rfl,hnc,.inr ⟨hp.objs.size,rfl,hxs.symm,?_⟩⟩ (fun b ob hbx _ hb=>?_)
    (fun o₀ h₀=>by obtain rfl:=ao (hx.symm.trans h₀);exact⟨_,hx',rfl,rfl,rfl,fun dx e=>(nomatch e),fun _=>rfl⟩)
   ·obtain⟨o',es,ep,e1,e2,e3,eu,e4⟩:=hn';exact⟨o',es,ep,e1,e2,e3,eu,fun y=>by rw[e4 y];by_cases hy:y=name<;>simp[hy,hmA]⟩
   ·exact (hs.2 b (av (χ hb))).trans ((rZ _ _ _ _ hbx).trans (η _ hb))
  rw[if_neg (by decide)];dsimp only;rw[if_neg (by simp[typeHasDict])];split
  ·first
    | (rename_i q;exact absurd q (hnc _))
    | (rename_i q _;exact absurd q (hnc _))
    | (rename_i q _ _;exact absurd q (hnc _))
    | (exfalso;simp_all)
  ·refine δ (wpAny_alloc' ?_);refine δ (wpAny_update' hx₁ ?_);refine θ (a:=some hp.objs.size) ?_;show μ _ _ (storeInDict hp.objs.size (.str name tk0) name v) _ _ _;refine cp core (fun fin s' z=>?_) fun _ _ z=>z;cases fin with
   |done f=>
    cases f with
    |ret r=>exact z
    |_=>exact z.elim
   |again c=>exact z.elim
 ·subst hdx;refine θ (a:=some dx) ?_;show μ _ _ (storeInDict dx (.str name tk0) name v) _ _ _;unfold storeInDict newKeyGuard;refine δ (θ (δ (wpAny_nsSet1 hns fun h' hn' hs=>?_)));obtain⟨oD,esD,epD,hoD,hdD,hcD⟩:=hn'.count (uf name v hw);refine δ (wpAny_lookBehind hoD (by rw[hdD];exact pastItsLine_dict (aG hcD (by rw[aj,bI];omega))) ?_);refine θ ?_;have hx':=(hs.2 x cy.symm).trans hx;refine hq h' _ ⟨_,hx',rfl,hnc,.inr ⟨dx,rfl,cy,hn'⟩⟩ (fun b ob _ hbd hb=>(hs.2 b (hbd _ dx hx rfl)).trans hb)
   (fun o₀ h₀=>by obtain rfl:=ao (hx.symm.trans h₀);exact⟨_,hx',rfl,rfl,rfl,fun _ e=>e,fun e=>(nomatch e)⟩)
end
end L2
namespace L2
open PySem PySem.Spec PyProof.Rows
open Sem (wp)
structure E6(l:List cB)(e T:ε)(h h':Ξ):Prop where
 keep:∀b o,b≠e->b≠T->b∉fb l->h.get? b=some o->h'.get? b=some o
 slot:∀b o,b∈fb l->h.get? b=some o->∃sl,h'.get? b=some { o with slots:=sl }
theorem rj.LM{base:Ξ}{l:List cB}{e T:ε}{cls:Value}{dx:Option ε}{h h':Ξ}(L:rj base l e T cls dx h h'):E6 l e T h h':=⟨L.keep,L.slot⟩
section
variable {M:Model} {A:aq} {E:Value->ζ->Prop} {s:ζ}
theorem Qn{base:Ξ}{env:cB}{outer:List cB}{L e T:ε}{cls:Value}{dx:Option ε}{Q:Unit->ζ->Prop}
  (kO:A.frames=some (env::outer)) (hl:s.heap.FunFrames base (env::outer)) (hf:env.frame=some L) (ht:nu base s.heap e T cls dx) (hkb:base.StaysIn s.heap) (hen:base.get? e=none)
  (h:∀h',rj base (env::outer) e T cls dx s.heap h'->Q () { s with heap:=h' }):μ M A (noteFrame (.ref e) env) (fun _ s'=>μ M A (setFlight (.ref e) none) Q E s') E s:=by
 obtain⟨⟨oe,vs,he,hcls,hdx,hd,h1,h2⟩,hnT,hTe,oT,ts,hT,hdT,h3⟩:=ht;subst hcls hdx;unfold noteFrame;simp only[hf];refine δ (aX he hd h1 ?_);rw[if_pos (show (Value.ref T != Value.none)=true from by simp)];refine δ (aX hT hdT h3 ?_);rw[if_neg (show ¬((Value.none==rawInt L)=true) from by simp[rawInt])];refine δ (eJ hT hdT (aC.mp h3).1 ?_);have other:∀b,b≠T->(s.heap.update T (fK (·.setIfInBounds 3 Value.none))).get? b=s.heap.get? b:=fun b hb=>bq _ _ (da hb);have noRecord:∀b o,s.heap.get? b=some o->(∀vs,o.data≠.fields vs)->b≠T:=fun b o hb hnf q=>by
  rw[q,hT] at hb;injection hb with hb;subst hb;exact hnf ts hdT
 have hTf:T∉fb (env::outer):=fun hm=>by
  obtain⟨_,o,ho,hnf⟩:=hl.mem hm;rw[hT] at ho;injection ho with ho;subst ho;exact hnf ts hdT
 refine sF kO (hl.of_keeps fun b o hb hnf=>⟨o,(other b (noRecord b o hb hnf)).trans hb,rfl⟩) hf ((other e (da hTe)).trans he)
  (fun b o hbo=>(other b fun q=>by rw[q,hnT] at hbo;cases hbo).trans (hkb b o hbo)) hen hd (aC.mp h1).1 h2
  fun h' ⟨x1,x2,⟨T',x3,x3'⟩,x4,x5⟩=>h h' ⟨x1,x2,⟨T',x3,?_⟩,fun b o hbe hbT hbf hb=>x4 b o hbe hbe hbf ((other b hbT).trans hb),fun b o hbf hb=>x5 b o hbf ((other b fun q=>hTf (q▸hbf)).trans hb)⟩
 by_cases hq:T'=T
 ·subst hq;obtain⟨o2,e2⟩:∃o2,(s.heap.update T' (fK (·.setIfInBounds 3 Value.none))).get? T'=some o2:=⟨_,bJ _ hT (dH (cR hdT _))⟩;rw[e2] at x3';cases x3'
 ·rw[←other T' hq];exact x3'
theorem FE{base:Ξ}{e T:ε}{cls:Value}{dx:Option ε}{Q:Unit->ζ->Prop}(ht:nu base s.heap e T cls dx)
  (h:∀h',(∀b o,b≠T->s.heap.get? b=some o->h'.get? b=some o)->nu base h' e T cls dx->Q () { s with heap:=h' }):μ M A (setFlight (.ref e) none) Q E s:=by
 obtain⟨⟨oe,vs,he,hcls,hdx,hd,h1,h2⟩,hnT,hTe,oT,ts,hT,hdT,h3⟩:=ht;unfold setFlight;refine δ (aX he hd h1 ?_);rw[if_pos (show (Value.ref T != Value.none)=true from by simp)];have hz:=(aC.mp h3).1;refine eJ hT hdT hz (h _ (fun b o hb q=>(bq _ _ (da hb)).trans q) ⟨⟨oe,vs,(bq _ _ hTe).trans he,hcls,hdx,hd,h1,h2⟩,hnT,hTe,_,_,bJ _ hT (dH (cR hdT _)),cR hdT _,?_⟩);simp[hz]
theorem yv{nm q:ι}{C N B:ε}{bs bm:List Value}{hdct:Bool}{sn:List ι}{sub:List Value}{ab:Bool}{col:Option Bool}{dd:Option ε}{k0 k1 k2 k3 k5:Option Value}{newId:String}
  {nm' q':ι} {N':ε} {bs' bm':List Value} {hdct':Bool} {sn':List ι} {sub':List Value} {ab':Bool} {col':Option Bool} {dd':Option ε} {k0' k1' k2' k3' k5':Option Value} {newId':String}
  {h:Ξ} {g:Array GenState} {d:Drawn} {t:Nat} {os:OsState} {e:ε} {oe:aA} {Q:Bool->ζ->Prop}
  (hC:h.get? C=some (excClassObj nm q C N bs bm hdct sn sub ab col dd k0 k1 k2 k3 k5 newId)) (hB:h.get? B=some (excClassObj nm' q' B N' bs' bm' hdct' sn' sub' ab' col' dd' k0' k1' k2' k3' k5' newId'))
  (he:h.get? e=some oe) (hcls:oe.cls=.ref C) (qX:bm'.contains (.type "BaseException")=true) (hsub:(Value.ref C::bm).contains (.ref B)=true)
  (hq:Q true ⟨h,g,d,t,os⟩):μ M A (excMatches (.ref e) (.ref B)) Q E ⟨h,g,d,t,os⟩:=by
 have hcB:(Value.ref B::bm').contains (.type "BaseException")=true:=by rw[mq,qX,tE]
 have f:=tc_notTuple;unfold excMatches
 repeat (first|(with_reducible refine e6 he ?_;rw[hcls])|with_reducible refine e6 hB ?_|(with_reducible refine iH hB ?_;rw[hcB])|(with_reducible refine iH hC ?_;rw[hsub])|wp_step)
 exact hq
end
section
variable {X:Cx} {pins:List (ε×aA)} {σ:St} {H:Hp} {s:ζ} {h':Ξ} {e T:ε}
structure Frame(X:Cx):Prop where
 ex:X.ex=[]
 st:X.stack=X.env::X.outer
 fr:X.env.frame=some X.env.locals
theorem Inv.yA(I:Inv X pins σ H s)(F:Frame X)(L:E6 X.stack e T s.heap h')(he:X.s₀.heap.get? e=none)(hT:X.s₀.heap.get? T=none)(hHe:H e=none)(hHT:H T=none)
  (hp:∀p∈X.pn++pins,p.1≠e/\p.1≠T) (eo:∃oe vs,s.heap.get? e=some oe/\oe.data=.fields vs) (To:∃oe vs,s.heap.get? T=some oe/\oe.data=.fields vs):Inv X pins σ H { s with heap:=h' }:=by
 have hloc:X.s₀.heap.get? X.env.locals=none:=eX I.ok.above;have sub:∀b,b∈fb X.stack->b=X.env.locals∨b∈fb X.outer:=fun b hb=>Φ.mp (I.se b hb);have ne:∀{b c:ε} {o:aA},X.s₀.heap.get? b=some o->X.s₀.heap.get? c=none->b≠c:=fun h1 h2 z=>by
  rw[z,h2] at h1;cases h1
 have ly:∀b:ε,b∉X.ex:=fun b z=>by
  rw[F.ex] at z;cases z
 have inStk:X.env.locals∈fb X.stack:=by
  rw[F.st];unfold fb;rw[cV,F.fr];exact Δ
 have supF:∀b,b∈fb X.outer->b∈fb X.stack:=fun b hb=>by
  rw[F.st];unfold fb;rw[cV,F.fr];exact ω _ hb
 have noF:∀{b:ε} {o:aA},s.heap.get? b=some o->(∀vs,o.data≠.fields vs)->b≠e/\b≠T:=fun {b o} hb hn=>⟨fun z=>by
  obtain⟨oe,vs,q1,q2⟩:=eo;rw[z,q1] at hb;cases hb;exact hn vs q2,fun z=>by
  obtain⟨oe,vs,q1,q2⟩:=To;rw[z,q1] at hb;cases hb;exact hn vs q2⟩
 have cellK:∀c v,s.heap.IsCell c v->h'.IsCell c v:=fun c v hc=>by
  obtain⟨o,ho,hd⟩:=hc;by_cases hb:c∈fb X.stack
  ·obtain⟨sl,k2⟩:=L.slot c o hb ho;exact⟨_,k2,hd⟩
  ·obtain⟨n1,n2⟩:=noF ho (fun vs q=>by rw[hd] at q;cases q);exact⟨o,L.keep c o n1 n2 hb ho,hd⟩
 refine⟨I.ok,I.os,I.bare,⟨fun b o h1 h2 h3 _=>?_,fun b o h1 h2 h3 _=>?_,I.base.free,fun b o h1 hx=>?_,I.base.gX,I.base.gZ,I.base.mr⟩,?_,fun x c hc=>?_,I.free,I.jA,fun p hp'=>?_,fun a o ha=>?_,I.len⟩
 ·have k1:=I.base.keep b o h1 h2 h3 (ly b);refine L.keep b o (ne h1 he) (ne h1 hT) (fun z=>?_) k1;rcases sub b z with z|z
  ·exact ne h1 hloc z
  ·exact h3 z
 ·obtain⟨sl,k1⟩:=I.base.slot b o h1 h2 h3 (ly b);obtain⟨sl',k2⟩:=L.slot b _ (supF b h3) k1;exact⟨sl',k2⟩
 ·obtain⟨o',k1⟩:=I.base.there b o h1 (ly b);by_cases hb:b∈fb X.stack
  ·obtain⟨sl,k2⟩:=L.slot b o' hb k1;exact⟨_,k2⟩
  ·exact⟨o',L.keep b o' (ne h1 he) (ne h1 hT) hb k1⟩
 ·obtain⟨m,⟨o,es,ep,ho,r⟩,hl⟩:=I.loc;obtain⟨sl,k2⟩:=L.slot _ o inStk ho;refine⟨m,⟨_,es,ep,k2,r⟩,fun i x v h1 h2 h3=>?_⟩;obtain⟨u,ru,lk⟩:=hl i x v h1 h2 h3;refine⟨u,ru,?_⟩;rcases lk with lk|⟨kd,c,hc,ic⟩
  ·exact .inl lk
  ·exact .inr ⟨kd,c,hc,cellK c _ ic⟩
 ·obtain⟨v,hv⟩:=I.cell x c hc;exact⟨v,cellK c v hv⟩
 ·obtain⟨q1,q2,q3,q4,q5⟩:=I.pin p hp';refine⟨L.keep p.1 p.2 (hp p hp').1 (hp p hp').2 (fun z=>?_) q1,q2,q3,q4,q5⟩;rcases sub _ z with z|z
  ·exact q3 z
  ·exact q4 z
 ·refine (I.bf a o ha).kf (fun b u hb q=>?_) (fun _ q=>q) fun _ _ q=>q;have hHb:H b≠none:=by
   rcases hb with rfl|hb
   ·rw[ha];simp
   ·rw[hb];simp
  exact L.keep b u (fun z=>hHb (z▸hHe)) (fun z=>hHb (z▸hHT)) (fun z=>hHb (I.eY b z)) q
theorem Inv.forget{m':ι->Option Value}{t':Nat}(I:Inv X pins σ H s)(hs:dn X.env.locals s.heap h')(hn:h'.Ns X.env.locals m'):Inv X pins (bj X.N.length none) H { s with heap:=h',toks:=t' }:=by
 have hloc:X.s₀.heap.get? X.env.locals=none:=eX I.ok.above;have k:∀b o,b≠X.env.locals->s.heap.get? b=some o->h'.get? b=some o:=fun b o hb q=>(hs.2 b hb).trans q;have ne:∀{b:ε} {o:aA},X.s₀.heap.get? b=some o->b≠X.env.locals:=fun h1 z=>by
  rw[z,hloc] at h1;cases h1
 refine⟨I.ok,I.os,I.bare,⟨fun b o h1 h2 h3 h4=>k b o (ne h1) (I.base.keep b o h1 h2 h3 h4),fun b o h1 h2 h3 h4=>?_,I.base.free,fun b o h1 h2=>?_,I.base.gX,I.base.gZ,I.base.mr⟩,⟨m',hn,fun i x v h1 h2 h3=>?_⟩,fun x c hc=>?_,I.free,I.jA,fun p hp=>?_,fun a o ha=>?_,by simp⟩
 ·obtain⟨sl,q⟩:=I.base.slot b o h1 h2 h3 h4;exact⟨sl,k _ _ (ne h1) q⟩
 ·obtain⟨o',q⟩:=I.base.there b o h1 h2;exact⟨o',k _ _ (ne h1) q⟩
 ·rw[jM] at h2;split at h2<;>cases h2
 ·obtain⟨v,o,ho,hd⟩:=I.cell x c hc;exact⟨v,o,k _ _ (I.wb x c hc) ho,hd⟩
 ·obtain⟨q1,q2,q3,q4,q5⟩:=I.pin p hp;exact⟨k _ _ q3 q1,q2,q3,q4,q5⟩
 ·refine (I.bf a o ha).kf (fun b u hb q=>k b u (fun z=>?_) q) (fun _ q=>q) fun _ _ q=>q;rcases hb with hb|hb
  ·rw[←hb,z,I.free] at ha;cases ha
  ·rw[z,I.free] at hb;cases hb
abbrev Cx.kQ(X:Cx)(e:ε):Cx:={ X with A:=X.A.mark (some (.ref e)),calm:=false,xe:=fun _ _=>False }
theorem Inv.kQ(I:Inv X pins σ H s)(e:ε):Inv (X.kQ e) pins σ H s:=by
 obtain⟨ok,a1,a2,a3,a4,a5,a6,a7,a8,a9,a10⟩:=I;obtain⟨o1,o2,o3,o4,o5,o6,o7,o8,_,o10,o11,o12,o13,o14,o15,o16,o17,o18⟩:=ok;exact⟨⟨o1,o2,o3,o4,o5,o6,o7,o8,(fun z=>nomatch z),o10,o11,o12,o13,o14,o15,o16,o17,o18⟩,a1,a2,a3,a4,a5,a6,a7,a8,a9,a10⟩
theorem Inv.uncaught{e:ε}(I:Inv (X.kQ e) pins σ H s)(ok:X.Ok):Inv X pins σ H s:=by
 obtain⟨_,a1,a2,a3,a4,a5,a6,a7,a8,a9,a10⟩:=I;exact⟨ok,a1,a2,a3,a4,a5,a6,a7,a8,a9,a10⟩
theorem Cm{P:Ψ}{w:af}{h:Ξ}{a:ε}{o:HO}(ok:dJ P w H h)(hn:H a=none)(new:bH P w (upd H a o) h a o):dJ P w (upd H a o) h:=fun b u e=>by
 by_cases z:b=a
 ·subst z;rw[gh] at e;cases e;exact new
 ·rw[dj z] at e;refine (ok b u e).kf (fun _ _ _ q=>q) (fun c q=>?_) fun c xs q=>?_
  ·rw[dj (fun z=>by rw[z,hn] at q;cases q)];exact q
  ·rw[dj (fun z=>by rw[z,hn] at q;cases q)];exact q
theorem Inv.Ez{a:ε}{o:HO}(I:Inv X pins σ H s)(hn:H a=none)(h0:X.s₀.heap.get? a=none)(new:bH X.prog X.w (upd H a o) s.heap a o)(hl:a≠X.env.locals)(hc:∀x c,X.env.cells.lookup x=some c->c≠a)(hp:∀p∈X.pn++pins,p.1≠a):Inv X pins σ (upd H a o) s:=by
 refine⟨I.ok,I.os,I.bare,⟨I.base.keep,I.base.slot,fun b ob h1 h2 h3=>?_,I.base.there,fun b xs e=>?_,fun b x u e=>?_,fun b ps e=>?_⟩,I.loc,I.cell,by rw[dj hl.symm];exact I.free,fun x c e=>by rw[dj (hc x c e)];exact I.jA x c e,fun p hp'=>?_,Cm I.bf hn new,I.len⟩
 ·rw[dj (fun z=>by rw[z,h0] at h1;cases h1)];exact I.base.free b ob h1 h2 h3
 ·have:=I.base.gX b xs e;rw[dj (fun z=>by rw[z,hn] at this;cases this)];exact this
 ·have:=I.base.gZ b x u e;rw[dj (fun z=>by rw[z,hn] at this;cases this)];exact this
 ·obtain⟨more,q⟩:=I.base.mr b ps e;refine⟨more,?_⟩;rw[dj (fun z=>by rw[z,hn] at q;cases q)];exact q
 ·obtain⟨q1,q2,q3,q4,q5⟩:=I.pin p hp';exact⟨q1,by rw[dj (hp p hp')];exact q2,q3,q4,q5⟩
end
end L2
namespace L3
open PySem PySem.Spec PyProof.Rows L2
def sO(a C:ε)(dx:Option ε):Ξ->Prop:=fun h=>∃oe vs,h.get? a=some oe/\oe.cls=.ref C/\oe.dict=dx/\oe.data=.fields vs/\vs[2]?=some .none
def i7(x:ι)(fs:List (ι×Int)):PySem.W.Frag->ε->Hp->Prop:=fun K a H=>∃C dx,dz K x C/\H a=some (.ext (sO a C dx))/\sX H dx fs
theorem sX.keep{H H':Hp}{dx:Option ε}{fs:List (ι×Int)}(h:sX H dx fs)(k:∀b o u,H b=some (.cN o u)->H' b=some (.cN o u)):sX H' dx fs:=by
 rcases h with h|⟨d,o,h1,h2⟩
 ·exact .inl h
 ·exact .inr ⟨d,o,h1,k _ _ _ h2⟩
theorem Qm{K:PySem.W.Frag}{H:Hp}{a:ε}{x:ι}{fs:List (ι×Int)}(h:i7 x fs K a H):sW K H a (.gen (i7 x fs)):=
 ⟨h,by obtain⟨C,dx,_,e,_⟩:=h;exact⟨_,e,fun _=>nofun,fun _ _=>nofun⟩,fun H1 H2 t f e ⟨C,dx,h1,h2,h3⟩=>⟨C,dx,h1,e.trans h2,h3.keep f⟩⟩
def Bx(K:PySem.W.Frag)(names:List ι)(B:ε):Prop:=∀x∈names,∀C,dz K x C->∃init,vp K C B init
def yS(names:List ι)(i:Nat)(tx:ub)(th:ε->ar)(tr:ar):ar:=fun D τ G=>
 tx (fun τ1 G1 x fs=>x∈names/\∀p G2,fc G1 p (.gen (i7 x fs)) G2->th p { nx:=fun _ _=>False,rt:=D.rt } (jO τ1 i (.obj p)) G2) { D with nx:=tr D } τ G
theorem Ql{X:Cx}{i:Nat}{cx en:ι}{names:List ι}{body suite rest:List aB}{b₀:aB}{np hpos pos:ay}{tx:ub}{th:ε->ar}{tr:ar}{B:ε}(F:Frame X)(T7:Bx X.K names B)(hm:X.mg cx=some (.ref B))(hN:X.N.Nodup)(hb:Cd X body tx)(hh:∀e,jh (X.kQ e) (b₀::suite) (th e))(hr:jh X rest tr)
  (hi:X.N[i]?=some en:=by rfl) (hl:X.env.scope.names.lookup en=some .local:=by rfl) (hg:Gl X cx:=by rfl) (hdb:(cx==("__debug__":ι))=false:=by decide):
  jh X (.Try body [.ExceptHandler (some (.Name cx np)) (some en) (b₀::suite) hpos] [] [] pos::rest) (yS names i tx th tr):=by
 intro pins s σ H D2 I ⟨τ,G,D3,RS,RG,ht,EL⟩;refine ik (wpAny_Try_except ?_);have EL':nv X.K H G { D3 with nx:=tr D3 } { D2 with nx:=fun σ' H'=>DW X.K tr D2 σ' H' }:=⟨fun τ' σ' G' H' a b c q=>⟨τ',G',D3,a,c,q,EL.step b⟩,EL.bk,EL.ct,EL.rt⟩;refine cp (hb pins s σ H _ _ τ G _ _ I RS RG ht EL' ?exc) (fun fl s1 q=>?fin) (fun e s1 q=>q)
 case fin=>
  cases fl with
  |next=>
   obtain⟨σ',H',I',q⟩:=q;exact eU (hr pins s1 σ' H' D2 I' q)
  |ret u=>exact q
  |brk=>exact q
  |cont=>exact q
 case exc=>
  intro σ1 τ1 H1 s1 G1 ev s' I1 RS1 R1 S1 cxx;obtain⟨e,T,C,dx,H',rfl,os,bare,u,ok,tr',⟨hHe,hHT⟩,hen,⟨he0,hT0⟩,⟨x,C',fs,ec,cn,⟨hxn,kq⟩,dd⟩,R2,S2⟩:=cxx;cases ec;have I':Inv X pins σ1 H' s':=I1.Bt (ch:=[]) os u ok bare (fun b z=>absurd z (by simp));have s0:∀{b:ε},s1.heap.get? b=none->X.s₀.heap.get? b=none:=fun {b} hb=>by
   cases hq:X.s₀.heap.get? b with
   |none=>rfl
   |some o=>
    obtain⟨o',e'⟩:=I1.base.there b o hq (by rw[F.ex];simp);rw[hb] at e';cases e'
  have pne:∀p∈X.pn++pins,p.1≠e/\p.1≠T:=fun p hp=>by
   have q:=(I1.pin p hp).1;refine⟨fun z=>?_,fun z=>?_⟩
   ·rw[z,he0] at q;cases q
   ·rw[z,hT0] at q;cases q
  have eo:=tr'.obj;have To:=tr'.ent;refine Qn (base:=X.base) (by rw[I'.ok.frames,F.st]) (by rw[←F.st];exact I'.stack) F.fr tr' I'.bk hen fun h2 L=>?_;rw[←F.st] at L;have I2:=I'.yA F L.LM (s0 he0) (s0 hT0) hHe hHT pne (by obtain⟨oe,vs,q1,_,_,q2,_⟩:=eo;exact⟨oe,vs,q1,q2⟩) (by obtain⟨oe,vs,q1,q2,_⟩:=To;exact⟨oe,vs,q1,q2⟩);obtain⟨T2,tr2,hT2⟩:=L.wM;obtain⟨oe,vs,q1,q2,q3,q4,q5,q6⟩:=tr2.obj;obtain⟨oT,ts,r1,r2,r3⟩:=tr2.ent;have Ic:=I2.kQ e;obtain⟨init,ec⟩:=T7 x hxn C cn;refine wpAny_handleBy_cons (codeAny_handlers_test (pF (X:=X.kQ e) Ic hg hm ?_ hdb)) (by intro q;cases q);obtain⟨nm,qn,N,bs,sn,sub,ab,col,dd',k0,k1,k2,k3,k5,mN,hC,_⟩:=zp Ic.fC ec.cls;obtain⟨nm',qn',N',bs',sn',sub',ab',col',dd'',k0',k1',k2',k3',k5',mN',hB,_⟩:=zp Ic.fC ec.base;refine yv hC hB q1 q2 (by decide +kernel) (by simp) ?_;refine codeAny_handlers_suite_as ?_;refine FE tr2 fun h3 kp tr3=>?_;have sT2:X.s₀.heap.get? T2=none:=by
   cases hq:X.s₀.heap.get? T2 with
   |none=>rfl
   |some o=>
    obtain⟨o',e'⟩:=I'.base.there T2 o hq (by rw[F.ex];simp);rw[hT2] at e';cases e'
  have hHT2:H' T2=none:=by
   cases hq:H' T2 with
   |none=>rfl
   |some o=>
    obtain⟨ob,e'⟩:=bH.there (I'.bf T2 o hq);rw[hT2] at e';cases e'
  have I3:=I2.yA (h':=h3) F (e:=e) (T:=T2) ⟨fun b o _ hT _ q=>kp b o hT q,fun b o hb q=>⟨o.slots,kp b o (fun z=>by
   obtain⟨_,o',ho',hd⟩:=I2.stack.mem hb;rw[z,r1] at ho';cases ho';exact hd _ r2) q⟩⟩ (s0 he0) sT2 hHe hHT2 (fun p hp=>⟨(pne p hp).1,fun z=>by
   have:=(I'.pin p hp).1;rw[z,hT2] at this;cases this⟩) ⟨oe,vs,q1,q4⟩ ⟨oT,ts,r1,r2⟩
  obtain⟨oe,vs,q1,q2,q3,q4,q5,q6⟩:=tr3.obj;refine DJ (X:=X.kQ e) (i:=i) (v:=.ref e) (I3.kQ e) hN hi (.inl hl) rfl (fun s4 I4 sb=>?_) (.inr hl);have nl:e≠X.env.locals:=fun z=>by
   obtain⟨m,⟨o,es,ep,ho,hd,_⟩,_⟩:=I3.loc;rw[←z] at ho;rw[show h3.get? e=_ from q1] at ho;cases ho;rw[q4] at hd;cases hd
  have nc:∀y c,X.env.cells.lookup y=some c->c≠e:=fun y c hc z=>by
   obtain⟨v,o,ho,hd⟩:=I3.cell y c hc;rw[z] at ho;rw[show h3.get? e=_ from q1] at ho;cases ho;rw[q4] at hd;cases hd
  obtain⟨a,sb1,sb2⟩:=sb;have q1':s4.heap.get? e=some oe:=(sb1.2 e (fun z=>by
   rcases sb2 with sb2|sb2
   ·exact nl (z.trans sb2)
   ·exact nc _ _ sb2 z.symm)).trans q1
  have I5:=I4.Ez (o:=.ext (sO e C dx)) hHe (s0 he0) ⟨⟨oe,vs,q1',q2,q3,q4,q6⟩,⟨oe,q1'⟩,fun h1 h2 ⟨oe,vs,a,b⟩ k=>⟨oe,vs,k _ a,b⟩⟩ nl nc (fun p hp=>(pne p hp).1);have E2:=S2.ext R1;have RG5:aD X.K (dX G1 e (.gen (i7 x fs))) (upd H' e (.ext (sO e C dx))):=R2.gr hHe (Qm ⟨C,dx,cn,gh,dd.keep (Ext.laid hHe).cN⟩);have S5:Step H1 G1 (upd H' e (.ext (sO e C dx))) (dX G1 e (.gen (i7 x fs))):=S2.trans (.gr hHe);have RS5:dI X.K (jO τ1 i (.obj e)) (σ1.set i (some (.ref e))) (upd H' e (.ext (sO e C dx))):=((RS1.ext E2).ext (.laid hHe)).set (by simp[Hv]);refine cp (hh e pins s4 _ _ { nx:=fun _ _=>False,rt:=D2.rt } I5 ⟨_,_,{ nx:=fun _ _=>False,rt:=D3.rt },RS5,RG5,kq e _ (.mk' (R2.free hHe)),⟨fun _ _ _ _ _ _ _ q=>q.elim,fun _ _ _ _ _ _ _ q=>q.elim,fun _ _ _ _ _ _ _ q=>q.elim,fun d v G' H' a b c q=>EL.rt d v G' H' a (S1.trans (S5.trans b)) c q⟩⟩) (fun fl s5 q=>?_) (fun _ _ z=>z.elim);cases fl with
  |ret u=>
   obtain⟨v,σ',H6,I6,rv,qv⟩:=q;obtain⟨m,hn,_⟩:=I6.loc;refine wpAny_nameGoes hl hn (by rw[I.ok.kind];rfl) fun h7 m7 hn7 hs7=>?_;exact⟨v,_,H6,(I6.uncaught I.ok).forget hs7 hn7,rv,qv⟩
  |next=>
   obtain⟨_,_,_,q⟩:=q;exact q.elim
  |brk=>
   obtain⟨_,_,_,q⟩:=q;exact q.elim
  |cont=>
   obtain⟨_,_,_,q⟩:=q;exact q.elim
end L3
namespace L2
open PySem PySem.Spec PyProof.Rows
open Sem (wp)
structure qh(s1:Ξ)(e C:ε)(mA:ι->Option Value)(h:Ξ):Prop where
 keep:∀b o,b≠e->s1.get? b=some o->h.get? b=some o
 inst:h.Inst e C mA
 obj:∃o1 o2,s1.get? e=some o1/\h.get? e=some o2/\o2.cls=o1.cls/\o2.data=o1.data
 fresh:∀o dx,h.get? e=some o->o.dict=some dx->s1.get? dx=none
def putN(mA:ι->Option Value)(p:ι×Value):ι->Option Value:=fun y=>if y=p.1 then some p.2 else mA y
def yO(n:ι)(st:aB):Prop:=∃p1 p2 p3 p4,st=.Assign [.Attribute (.Name "self" p1) n p2] (.Name n p3) p4
section
variable {prog:Ψ} {w:af} {A:aq} {E:Value->ζ->Prop} {K:PySem.W.Frag} {C B e:ε} {names:List ι} {env:cB} {s1:Ξ} {m:ι->Option Value}
theorem qh.store{mA:ι->Option Value}{ns:List ι}{n:ι}{v:Value}{Q:Unit->ζ->Prop}{s:ζ}(S:vn K C B names)(hn:n∈names)(X:K.In s.heap)(T:qh s1 e C mA s.heap)(hw:Within mA ns)(hsz:ns.length≤1000)
  (hq:∀h' tk',qh s1 e C (putN mA (n,v)) h'->Q () { s with heap:=h',toks:=tk' }):μ (model prog w) A (setAttr (.ref e) n v) Q E s:=by
 refine Qo S hn X T.inst hw hsz fun h' tk' I' hk hs=>hq h' tk' ⟨fun b o hb q=>?_,I',?_,fun o dx q1 q2=>?_⟩
 ·exact hk b o hb (fun o₀ dx h0 hd z=>by
   have:=T.fresh o₀ dx h0 hd;rw[←z,q] at this;cases this) (T.keep b o hb q)
 ·obtain⟨o1,o2,a1,a2,a3,a4⟩:=T.obj;obtain⟨o3,b1,b2,b3,_⟩:=hs o2 a2;exact⟨o1,o3,a1,b1,b2.trans a3,b3.trans a4⟩
 ·obtain⟨o1,o2,a1,a2,a3,a4⟩:=T.obj;obtain⟨o3,b1,b2,b3,b4,b5,b6⟩:=hs o2 a2;rw[b1] at q1;cases q1;cases hd:o2.dict with
  |some dx0=>
   rw[b5 dx0 hd] at q2;obtain rfl:=ao q2;exact T.fresh o2 _ a2 hd
  |none=>
   rw[b6 hd] at q2;cases q2;cases q3:s1.get? s.heap.objs.size with
   |none=>rfl
   |some o=>
    have cy:s.heap.objs.size≠e:=fun z=>by
     have:=χ a2;rw[←z] at this;exact absurd this (cf _)
    have:=χ (T.keep _ _ cy q3);exact absurd this (cf _)
theorem Qk{L:ε}(S:vn K C B names)(hk:env.scope.kind=.function)(hloc:env.locals=L)(hLe:L≠e)(hself:env.kindOf "self" = some .local)(hds:(("self":ι)==("__debug__":ι))=false)(hms:m "self" = some (.ref e))(hns:s1.Ns L m)(nR:∀h:Ξ,(∀b o,b≠e->s1.get? b=some o->h.get? b=some o)->K.In h):
  ∀(nvs:List (ι×Value)) (body:List aB),Paired (fun (p:ι×Value) st=>yO p.1 st/\(p.1==("__debug__":ι))=false) nvs body->(∀p∈nvs,env.kindOf p.1=some .local/\m p.1=some p.2/\p.1∈names) ->
   ∀(mA:ι->Option Value) (ns:List ι) (s:ζ) (Q:Flow->ζ->Prop),qh s1 e C mA s.heap->Within mA ns->ns.length+nvs.length≤1000 ->
   (∀h' tk',qh s1 e C (nvs.foldl putN mA) h'->Q .next { s with heap:=h',toks:=tk' })->μ (model prog w) A (execs body env) Q E s:=by
 intro nvs
 induction nvs with
 |nil=>
  intro body hp _ mA ns s Q T _ _ hq;cases hp;exact eU (hq s.heap s.toks T)
 |cons p nvs ih=>
  intro body hpr hp mA ns s Q T hw hz hq;cases hpr with
  |@cons _ st0 _ bd hst r=>
   obtain⟨⟨p1,p2,p3,p4,rfl⟩,hdb⟩:=hst;obtain⟨k1,k2,k3⟩:=hp p Δ;have hnsH:s.heap.Ns env.locals m:=by
    obtain⟨o,es,ep,ho,rr⟩:=hns;rw[hloc];exact⟨o,es,ep,T.keep _ _ hLe ho,rr⟩
   have e1:μ (model prog w) A (eval (.Name p.1 p3) env) (fun v s₁=>μ (model prog w) A (eval (.Name "self" p1) env) (fun ov s₂=>μ (model prog w) A (setAttr ov p.1 v) (fun _ s3=>μ (model prog w) A (execs bd env) Q E s3) E s₂) E s₁) E s:=by
    refine m4 (kW hk k1 hnsH k2 ?_) hdb;refine m4 (kW hk hself hnsH hms ?_) hds;refine T.store S k3 (nR _ T.keep) hw (by rw[aj] at hz;omega) fun h' tk' T'=>?_;exact ih _ r (fun q hq'=>hp q (ω _ hq')) (putN mA p) (p.1::ns) { s with heap:=h',toks:=tk' } Q T' (uf p.1 p.2 hw) (by rw[aj] at hz ⊢;omega) fun h'' tk'' T''=>hq h'' tk'' T''
   exact ik (plainObj_wpAny_Assign_Attribute e1 rfl)
end
end L2
namespace L2
open PySem PySem.Spec PyProof.Rows
open Sem (wp)
structure tW(K:PySem.W.Frag)(C B f:ε)(fd:ae)(qual:ι)(st:aB)(names:List ι):Prop where
 ex:vp K C B (some (.ref f))
 set:vn K C B names
 fn:di K "__init__" qual st f fd
 sc:aU ("self" :: names) ("self" :: names) (ρ st)
 body:Paired (fun n st=>yO n st/\(n==("__debug__":ι))=false) names (dO st)
 loc:∀n∈(("self":ι)::names),(ρ st).names.lookup n=some .local
 bi:Binds K fd ("self" :: names) []
 kp:PySem.W.keepIn K (.ref C)=true
 MW:names.length≤10
 ty:∃o,K.lookup f=some o/\o.cls=.type "function"
structure MN(h h':Ξ)(e d C:ε)(mA:ι->Option Value):Prop where
 keep:∀b o,h.get? b=some o->h'.get? b=some o
 KW:h.get? e=none
 newD:h.get? d=none
 ne:d≠e
 obj:∃oe t,h'.get? e=some oe/\oe.cls=.ref C/\oe.dict=some d/\oe.data=.fields #[.ref t,.none,.none,.none,.bool false,.none]
 ns:h'.Ns1 d mA
theorem Ir{α β γ:Type}{R:α->β->Prop}:∀{as:List α} {bs:List β} {cs:List γ},Paired R as bs->as.length=cs.length->Paired (fun (p:α×γ) b=>R p.1 b) (as.zip cs) bs
 |_,_,[],.nil,_=>.nil
 |_,_,c::cs,.cons h r,e=>.cons h (Ir r (by simpa using e))
theorem Qj{P:Ψ}{w:af}{K:PySem.W.Frag}{C B f:ε}{fd:ae}{qual:ι}{st:aB}{names:List ι}{A:aq}{E:Value->ζ->Prop}{s:ζ}{us:List Value}{Q:Value->ζ->Prop}
  (O:tW K C B f fd qual st names) (X:K.In s.heap) (lim:s.heap.NoLimit) (hl:us.length=names.length) (cy:names≠[]) (hdp:A.depth+4<recursionLimit)
  (hq:∀e d h' tk,MN s.heap h' e d C ((names.zip us).foldl putN fun _=>none)->Q (.ref e) { s with heap:=h',toks:=tk }):μ (model P w) A (call (.ref C) us) Q E s:=by
 obtain⟨nm,qn,N,bs,sn,sub,ab,col,dd,k0,k1,k2,k3,k5,mN,hC,hn,hni,T⟩:=O.ex.own X;obtain⟨oc,od,kV,doc,pm,an,cdv,ct,osl,rfl,lk,gQ⟩:=O.fn.ex;obtain⟨h,g,dr,t,os⟩:=s;have hf:=X _ _ lk;have hsz:us.length≤ai:=by rw[hl];exact aG O.MW (by decide)
 have keepE:∀b o,h.get? b=some o->(fD h C us).get? b=some o:=fun b o q=>η _ (η _ q);have XE:K.In (fD h C us):=X.keeps keepE;have limE:(fD h C us).NoLimit:=lim.keeps keepE;have hsE:(fD h C us).objs.size=h.objs.size+2:=by
  unfold fD;rw[de,de]
 have heE:(fD h C us).get? (h.objs.size+1)=some { cls:=.ref C,data:=.fields #[.ref h.objs.size,.none,.none,.none,.bool false,.none]}:=by
  unfold fD
  heap_get
 refine QL (f:=f) PySem.F.excBase_ValueError T hC hn hni hf (by obtain⟨o,e,c⟩:=O.ty;rw[lk] at e;cases e;exact c) ?_ hsz;have hb:=O.bi ⟨fD h C us,g,dr,t,os⟩ (.ref (h.objs.size+1)::us) XE (by simp[hl]);rw[bw] at hb;have hkind:∀y∈(("self":ι)::names).zip (.ref (h.objs.size+1)::us),(ρ st).names.lookup y.1=some .local∨((ρ st).names.lookup y.1=some .cell/\((cellsFrom ((fD h C us).objs.size+1) (ρ st).names []).lookup y.1).isSome=true):=fun⟨n,v⟩ hy=>
  .inl (O.loc n (eW hy).1)
 refine g6 (by rw[VL];lia) (XE _ _ lk) rfl O.sc.co O.sc.gen rfl (PySem.W.codeRec_of XE gQ) (hb _ _ _ _ ?_);refine fI O.sc.kind hkind fun env he s1 x=>?_;subst he;refine⟨limE.keeps x.toInCall.keep,nZ ?_⟩;have ndP:(("self":ι)::names).Nodup:=O.sc.nd;have hne1:(fD h C us).objs.size≠h.objs.size+1:=by rw[hsE];lia
 have e1:=x.toInCall.keep _ _ heE;have hloc:∀n∈(("self":ι)::names),(envOfC qual (ρ st) (fD h C us).objs.size f cdv).kindOf n=some .local:=fun n hn=>O.loc n hn;have inst0:s1.heap.Inst (h.objs.size+1) C (fun _=>none):=⟨_,e1,rfl,fun c=>nofun,.inl ⟨rfl,fun _=>rfl⟩⟩;have T0:qh s1.heap (h.objs.size+1) C (fun _=>none) s1.heap:=⟨fun _ _ _ q=>q,inst0,⟨_,_,e1,e1,rfl,rfl⟩,fun o dx q1 q2=>by
  rw[e1] at q1;cases q1;cases q2⟩
 have hNK:∀b o,K.lookup b=some o->b≠h.objs.size+1:=fun b o q z=>by
  have:=χ (X _ _ q);rw[z] at this;exact absurd this (by show ¬_<h.objs.size;lia)
 obtain⟨tk,hs1⟩:∃tk,s1=⟨s1.heap,g,dr,tk,os⟩:=by
  obtain⟨h1,tk,q,_⟩:=x.done;exact⟨tk,by rw[q]⟩
 refine Qk (L:=(fD h C us).objs.size) (s1:=s1.heap) (e:=h.objs.size+1) (m:=_) O.set O.sc.kind rfl hne1 (hloc "self" Δ) (by decide) ?_ x.toInCall.ns (fun h2 k b o q=>k b o (hNK b o q) (x.toInCall.keep _ _ (XE _ _ q))) (names.zip us) (dO st) (Ir O.body hl.symm) (fun p hp=>?_) (fun _=>none) [] s1 _ T0 Within.nil ?_ fun h' tk' T'=>?_
 ·exact zU (i:=0) ndP rfl rfl (hloc "self" Δ)
 ·obtain⟨i,hi,ei⟩:=lC hp;have hpm:=eW hp;refine⟨hloc p.1 (ω _ hpm.1),?_,hpm.1⟩;have hi2:i<names.length:=by rw[iT] at hi;lia
  have hi3:i<us.length:=by lia
  have ep:p=(names[i],us[i]):=by rw[←ei,List.getElem_zip]
  refine zU (i:=i+1) ndP ?_ ?_ (hloc p.1 (ω _ hpm.1))
  ·rw[oE,ep,aK hi2]
  ·rw[oE,ep,aK hi3]
 ·rw[dF,iT];have:=O.MW;lia
 ·refine⟨rfl,?_⟩;obtain⟨o1,o2,a1,a2,a3,a4⟩:=T'.obj;rw[e1] at a1;cases a1;obtain⟨oe,b1,b2,b3,b4⟩:=T'.inst;rw[a2] at b1;cases b1;rw[hs1];rcases b4 with⟨_,z⟩|⟨d,c1,c2,c3⟩
  ·exfalso;cases names with
   |nil=>exact cy rfl
   |cons n0 ns0=>
    have key:∀(l:List (ι×Value)) (m0:ι->Option Value) (y:ι),(∃v,m0 y=some v)->∃v,l.foldl putN m0 y=some v:=fun l=>by
     induction l with
     |nil=>exact fun m0 y q=>q
     |cons p l ih=>
      intro m0 y q;refine ih (putN m0 p) y ?_;unfold putN;by_cases z:y=p.1
      ·exact⟨_,if_pos z⟩
      ·rw[if_neg z];exact q
    cases us with
    |nil=>cases hl
    |cons u0 us0=>
     obtain⟨v,hv⟩:=key (ns0.zip us0) (putN (fun _=>none) (n0,u0)) n0 ⟨u0,if_pos rfl⟩;have z0:=z n0;have z1:(ns0.zip us0).foldl putN (putN (fun _=>none) (n0,u0)) n0=none:=z0;rw[hv] at z1;cases z1
  ·have fr:=T'.fresh o2 d a2 c1;refine hq (h.objs.size+1) d h' tk' ⟨fun b o q=>T'.keep b o (fun z=>?_) (x.toInCall.keep _ _ (keepE b o q)),eX (Nat.le_succ _),?_,c2,⟨o2,h.objs.size,a2,b2,c1,a4⟩,c3⟩
   ·have:=χ q;rw[z] at this;exact absurd (show h.objs.size+1<h.objs.size from this) (by lia)
   ·cases q:h.get? d with
    |none=>rfl
    |some o=>
     rw[x.toInCall.keep _ _ (keepE d o q)] at fr;cases fr
end L2
namespace L2
open PySem PySem.Spec PyProof.Rows PySem.W
open Builtin Builtin.ObjectAttr
structure qi(K:Frag)(C:ε):Prop where
 ga:findIn K (.ref C) "__getattribute__" = some (some (.builtin "BaseException.__getattribute__"))
 gn:findIn K (.ref C) "__getattr__" = some none
 be:mroIn K C (.type "BaseException")=some true
section
variable {prog:Ψ} {w:af} {A:aq} {E:Value->ζ->Prop} {K:Frag} {x C:ε} {ox:aA} {od:Option aA} {name:ι} {s:ζ}
theorem Qi:builtinKind "BaseException.__getattribute__" = some .slot:=by decide +kernel
theorem Qh:splitId "BaseException.__getattribute__" = some ("BaseException","__getattribute__"):=by decide +kernel
theorem Qg:plainId "BaseException.__getattribute__" = true:=by decide +kernel
theorem Qf(self:Value):bindSpecial (.builtin "BaseException.__getattribute__") self=pure (.builtin "BaseException.__getattribute__",[self]):=by kernel_rfl
theorem Iq{tk:dG}{fill expr:Bool}{f:cM.ObjectAttr.Found}{Q:Value->ζ->Prop}(a:qi K C)(X:K.In s.heap)(I:InstAt s.heap x ox C od)(hf:findObj K C od name=some f)
  (h:μ (model prog w) A.in1 (match f with | .value v=>ret v | .bind g b=>bindTo g b (.ref x) (.ref C) | .missing=>unsupported "") (fun fin s'=>match fin with | .done (.ret v)=>μ (model prog w) A (handedOut v) Q E s' | _=>False) (fun _ _=>False) s) (hm:f≠.missing):
  μ (model prog w) A (getAttrBy (.ref x) (.str name tk) fill expr) Q E s:=by
 obtain⟨hh,g,d,t,os⟩:=s;have L0:=I.type (M:=model prog w);have L1:=looks_findIn (M:=model prog w) X a.ga;have L2:=looks_findIn (M:=model prog w) X a.gn;have L3:=looks_find (M:=model prog w) X I hf;have sub:Looks (model prog w) hh (isInstance (.ref x) (.type "BaseException")) true:=I.type.andThen (looks_mroIn X a.be);unfold getAttrBy;refine aZ (δ (L0.at (δ (L1.at ?_))));have hx2:(Value.builtin "BaseException.__getattribute__" == Value.builtin "object.__getattribute__")=false:=by decide +kernel
 show μ _ _ (if (onTheHeap (Value.ref C)&&Value.builtin "BaseException.__getattribute__" == Value.builtin "object.__getattribute__")=true then _ else getAttrByItsOwn _ _ _ _ _ _) _ _ _;rw[hx2,if_neg (by simp)];unfold getAttrByItsOwn;refine δ ?_;show μ _ _ (typeLookup (.ref C) "__getattr__") _ _ _;refine L2.at ?_;refine δ (fJ (aZ ?_));have hx0:(expr&&onTheHeap (Value.builtin "BaseException.__getattribute__"))=false:=by cases expr<;>rfl
 show μ _ _ (if (expr&&onTheHeap (Value.builtin "BaseException.__getattribute__"))=true then _ else boundAndCalled _ _ _) _ _ _;rw[hx0,if_neg (by simp)];unfold boundAndCalled;rw[Qf];refine δ (θ (eV ?_));refine il Qg F.entry_bexc_ga (@check_slot (model prog w) _ _ ⟨hh,g,d,t,os⟩ "BaseException.__getattribute__" "BaseException" "__getattribute__" (.ref x) [.str name tk] [] _ Qi Qh sub (F.args_bexc_ga (.ref x) (.str name tk)) ?_);unfold cM.«object.__getattribute__»;refine δ (θ (δ (θ (δ (L0.at (δ (L3.at ?_)))))));cases f with
 |missing=>exact absurd rfl hm
 |value v=>
  refine cp h (fun fin s' z=>?_) fun _ _ z=>z.elim;rcases fin with (_|_|_|_)|_<;>first|exact z|exact z.elim
 |bind g b=>
  refine cp h (fun fin s' z=>?_) fun _ _ z=>z.elim;rcases fin with (_|_|_|_)|_<;>first|exact z|exact z.elim
theorem exc_value{expr:Bool}{v:Value}{Q:Value->ζ->Prop}(a:qi K C)(X:K.In s.heap)(I:InstAt s.heap x ox C od)(hf:findObj K C od name=some (.value v))(hh:handedIn v=true)(h:Q v { s with toks:=s.toks+1 }):
  μ (model prog w) A (getAttr (.ref x) name expr) Q E s:=by
 unfold getAttr;refine δ (wpAny_mkText (Iq (s:={ s with toks:=s.toks+1 }) a X I hf (θ ?_) (by simp)));show μ _ _ (handedOut v) _ _ _;rw[handedOut_of hh];exact θ h
theorem Qe{Q:Option Value->ζ->Prop}(a:qi K C)(hc:(clsIn K C).isSome=true)(ha:findIn K (.ref C) "__class__" = some (some (.builtin "object.__class__")))(hn:specialIn K (.builtin "object.__class__") "__get__" = some (some (.builtin "getset_descriptor.__get__")))
  (Le:takesIn K (.builtin "object.__class__")=some true) (hm:mroIn K C (.type "object")=some true) (X:K.In s.heap) (I:InstAt s.heap x ox C od) (h:Q (some (.ref C)) { s with toks:=s.toks+1 }):μ (model prog w) A (getAttr? (.ref x) "__class__") Q E s:=by
 have hf:findObj K C od "__class__" = some (.bind (.builtin "getset_descriptor.__get__") (.builtin "object.__class__")):=by
  obtain⟨cd,gQ⟩:=jm.mp hc;unfold findObj;rw[gQ,ip,ha,ip];simp[hn,Le]
 unfold getAttr? getAttrBy?;refine δ (wpAny_mkText (δ (fJ ?_)));refine Iq (s:={ s with toks:=s.toks+1 }) a X I hf ?_ (by simp);show μ _ _ (holding [_] (call (.builtin "getset_descriptor.__get__") [.builtin "object.__class__",.ref x,.ref C]) >>= ret) _ _ _;refine δ (aZ (eV (class_get (s:={ s with toks:=s.toks+1 }) (ox:=ox) (od:=od) X I hm ?_)));exact θ (handed_on rfl (θ h))
theorem Qd(a:qi K C)(hc:(clsIn K C).isSome=true)(ha:findIn K (.ref C) "__class__" = some (some (.builtin "object.__class__")))(hn:specialIn K (.builtin "object.__class__") "__get__" = some (some (.builtin "getset_descriptor.__get__")))
  (Le:takesIn K (.builtin "object.__class__")=some true) (hm:mroIn K C (.type "object")=some true):KitX K (.ref x) (.ref C) (fun h=>InstAt h x ox C od):=by
 obtain⟨cd,gQ⟩:=jm.mp hc;obtain⟨o,ho,hcl⟩:∃o,K.lookup C=some o/\∃c,o.data=.cls c:=by
  unfold clsIn at gQ;split at gQ
  ·rename_i q;exact⟨_,q,_,rfl⟩
  ·cases gQ
 obtain⟨oc,odd,oda,osl⟩:=o;obtain⟨c,e⟩:=hcl;dsimp only at e;subst e;refine⟨fun _ _ _ I=>I.type,fun _ _ X _=>?_,fun h tp dd its n sl X htp=>?_,fun X I k=>Qe a hc ha hn Le hm X I k⟩
 ·intro A' Q' E' s' k q;unfold isType loadHead;exact δ (wpAny_loadPart (k _ _ (X _ _ ho)) (θ q))
 ·refine Bool.eq_false_iff.mpr fun q=>?_;have e:C=tp:=Value.ref.inj (beq_iff_eq.mp q);subst e;have z:=(X _ _ ho).symm.trans htp;cases z
end
end L2
namespace L3
open PySem PySem.Spec PyProof.Rows L2
structure fO(K:PySem.W.Frag)(C:ε):Prop where
 ge:qi K C
 hd:(PySem.W.clsIn K C).isSome=true
 ha:PySem.W.findIn K (.ref C) "__class__" = some (some (.builtin "object.__class__"))
 hn:PySem.W.specialIn K (.builtin "object.__class__") "__get__" = some (some (.builtin "getset_descriptor.__get__"))
 ht:PySem.W.takesIn K (.builtin "object.__class__")=some true
 hm:PySem.W.mroIn K C (.type "object")=some true
theorem Qc{P:Ψ}{w:af}{K:PySem.W.Frag}{H:Hp}{h:Ξ}{p:ε}{x:ι}{fs:List (ι×Int)}(ok:dJ P w H h)(e:i7 x fs K p H):∃C oe od,dz K x C/\PySem.W.InstAt h p oe C od:=by
 obtain⟨C,dx,cn,e1,dd⟩:=e;obtain⟨⟨oe,vs,q1,q2,q3,q4,_⟩,_⟩:=(show bH P w H h p (.ext (sO p C dx)) from ok p _ e1);have hn:PySem.W.notCls oe=true:=by
  unfold PySem.W.notCls;rw[q4]
 rcases dd with⟨rfl,_⟩|⟨d,o,rfl,e2⟩
 ·exact⟨C,oe,none,cn,q1,q2,hn,by rw[q3];trivial⟩
 ·obtain⟨r1,_⟩:=(show bH P w H h d (.cN o (.xd _)) from ok d _ e2);exact⟨C,oe,some o,cn,q1,q2,hn,by rw[q3];exact r1⟩
theorem Qb{P:Ψ}{w:af}{K:PySem.W.Frag}{H:Hp}{h:Ξ}{p:ε}{x:ι}{fs:List (ι×Int)}(ok:dJ P w H h)(e:i7 x fs K p H)(cy:fs≠[]):
  ∃C oe od mA d,dz K x C/\PySem.W.InstAt h p oe C (some od)/\h.get? d=some od/\h.Ns1 d mA/\∀f,rf ((fs.map fun p=>(p.1,V.int p.2)).lookup f) (mA f):=by
 obtain⟨C,dx,cn,e1,dd⟩:=e;obtain⟨⟨oe,vs,q1,q2,q3,q4,_⟩,_⟩:=(show bH P w H h p (.ext (sO p C dx)) from ok p _ e1);rcases dd with⟨_,z⟩|⟨d,o,rfl,e2⟩
 ·exact absurd z cy
 ·obtain⟨r1,mA,r2,r3⟩:=(show bH P w H h d (.cN o (.xd _)) from ok d _ e2);refine⟨C,oe,o,mA,d,cn,⟨q1,q2,?_,by rw[q3];exact r1⟩,r1,r2,r3⟩;unfold PySem.W.notCls;rw[q4]
section
variable {X:Cx} {a:ο} {ta:ax} {pos p p2:ay}
def pS(rs:List ι)(y:ι)(ta:ax):ax:=fun τ G Q=>ta τ G fun x G1=>match x with
 |.obj p=>∃z fs,G1 p=some (.gen (i7 z fs))/\z∈rs/\Q (.bl (z==y)) G1
 |_=>False
theorem Ip{c:Value}{cv:V}(hc:RelV cv c)(hu:∀c',RelV cv c'->c'=c):gB X (.builtin "isinstance") (fun vs H Q=>∃q z fs b,vs=[.ref q,cv]/\i7 z fs X.K q H/\(∀C,dz X.K z C->fO X.K C/\PySem.W.kitOne X.K (.ref C) c=some b)/\Q (.bl b) H):=by
 intro pins s σ H vs us Q I r h;obtain⟨q,z,fs,b,rfl,hx,hk,qq⟩:=h;obtain⟨u,c',rfl,ru,rc⟩:=vals2 r;cases (show u=Value.ref q from ru);cases hu c' rc;obtain⟨C,oe,od,cn,J⟩:=Qc I.bf hx;obtain⟨K1,K2⟩:=hk C cn;exact PySem.W.kia_one (Qd K1.ge K1.hd K1.ha K1.hn K1.ht K1.hm) I.fC J K2 (fun z=>nomatch z) fun tk=>⟨.bl b,H,I.tok tk,rfl,qq⟩
theorem Qa{rs:List ι}{y:ι}{c:Value}{cv:V}(hk:∀z∈rs,∀C,dz X.K z C->fO X.K C/\PySem.W.kitOne X.K (.ref C) c=some (z==y)){σ:L2.St}{H:Hp}{Q:VK}(h:low X.K (pS rs y ta) σ H Q):
  BL (fun vs H Q=>∃q z fs b,vs=[.ref q,cv]/\i7 z fs X.K q H/\(∀C,dz X.K z C->fO X.K C/\PySem.W.kitOne X.K (.ref C) c=some b)/\Q (.bl b) H) (yQ (low X.K ta) (yQ (tC cv) FQ)) σ H Q:=by
 obtain⟨τ,G,Q3,RS,RG,h,k⟩:=h;refine⟨τ,G,_,RS,RG,h,fun v H1 d G1 h1 S1 R1 q1=>?_⟩;cases d with
 |obj q=>
  obtain⟨z,fs,e1,hz,q2⟩:=q1;rw[hJ h1];exact⟨q,z,fs,_,rfl,(R1 q _ e1).1,fun C cn=>hk z hz C cn,k _ H1 (.bl (z==y)) G1 oH S1 R1 q2⟩
 |_=>exact q1.elim
theorem P9{rs:List ι}{y:ι}{C:ε}(hk:∀z∈rs,∀D,dz X.K z D->fO X.K D/\PySem.W.kitOne X.K (.ref D) (.ref C)=some (z==y))(ha:bE X a ta)(hm:X.mg "isinstance" = none)(hmy:X.mg y=some (.ref C))(hgy:Gl X y:=by rfl)(hdy:(y==("__debug__":ι))=false:=by decide)(hg:Gl X "isinstance":=by rfl)(he:notStar a=true:=by rfl):
  bE X (.Call (.Name "isinstance" p) [a,.Name y p2] [] pos) (pS rs y ta):=
 gP (pq (Ip (c:=.ref C) (cv:=.ref C) rfl fun c' r=>r) hg hm rfl (lG ha (lG (Kv (v:=.ref C) hgy hmy rfl hdy) pz (dB rfl)) (dB he)) (he:=dB he) (hpl:=iM rfl)) fun σ H Q h=>Qa hk h
def Ef(rs:List ι)(ta:ax):ax:=fun τ G Q=>ta τ G fun x G1=>match x with
 |.obj p=>∃z fs,G1 p=some (.gen (i7 z fs))/\z∈rs/\Q (.bl true) G1
 |_=>False
theorem P8{rs:List ι}(hk:∀z∈rs,∀D,dz X.K z D->fO X.K D/\PySem.W.kitOne X.K (.ref D) (.type "ValueError")=some true)(ha:bE X a ta)(hm:X.mg "isinstance" = none)(hmy:X.mg "ValueError" = none)(hgy:Gl X "ValueError":=by rfl)(hg:Gl X "isinstance":=by rfl)(he:notStar a=true:=by rfl):
  bE X (.Call (.Name "isinstance" p) [a,.Name "ValueError" p2] [] pos) (Ef rs ta):=
 gP (pq (Ip (c:=.type "ValueError") (cv:=.ty "ValueError") rfl fun c' r=>r) hg hm rfl (lG ha (lG (Ku (v:=.ty "ValueError") hgy hmy rfl rfl (by decide) (by decide)) pz (dB rfl)) (dB he)) (he:=dB he) (hpl:=iM rfl)) fun σ H Q h=>by
  obtain⟨τ,G,Q3,RS,RG,h,k⟩:=h;refine⟨τ,G,_,RS,RG,h,fun v H1 d G1 h1 S1 R1 q1=>?_⟩;cases d with
  |obj q=>
   obtain⟨z,fs,e1,hz,q2⟩:=q1;rw[hJ h1];exact⟨q,z,fs,_,rfl,(R1 q _ e1).1,fun C cn=>hk z hz C cn,k _ H1 (.bl true) G1 oH S1 R1 q2⟩
  |_=>exact q1.elim
end
end L3
namespace L3
open PySem PySem.Spec PyProof.Rows L2
theorem DL:∀{bs:List Bool} {its:List Value},aS (bs.map V.bl) its->its=bs.map Value.bool
 |[],_,h=>h.zero
 |b::bs,_,h=>by
  cases h with
  |cons r1 r2=>rw[DL r2,show _=Value.bool b from r1];rfl
def yE:V->List V->Hp->VK->Prop:=fun x vs H Q=>∃(l:ε) (bs:List Bool),x=.ref l/\vs=[.bl true]/\H l=some (.lst (bs.map V.bl))/\Q (.int ((bs.countP id:Nat):Int)) H
def yD:V->List V->Hp->VK->Prop:=fun x vs H Q=>∃(l:ε) (bs:List Bool) (j:Nat),x=.ref l/\vs=[.bl true]/\H l=some (.lst (bs.map V.bl))/\bs[j]?=some true/\(∀i,i<j->bs[i]?=some false)/\j<1000/\Q (.int ((j:Nat):Int)) H
def ET:Value->Bool
 |.bool b=>b
 |_=>false
section
variable {X:Cx}
theorem P7:Cg X "list.count" yE:=by
 intro pins s σ H x vs v us Q I rx rv h;obtain⟨l,bs,rfl,rfl,hH,q⟩:=h;cases rx;obtain⟨u,rfl,ru⟩:=rv.one;cases (show u=Value.bool true from ru);obtain⟨z,its,n,r,hl,e⟩:=I.sG hH;rw[DL r] at e;refine kY F.slot_list_count ⟨_,e,rfl⟩ F.entry_list_count (F.args_list_count_2 _ _) (SeqAt.list_countAt l (bs.map Value.bool).toArray n none #[] (.bool true) ET) ⟨e,fun y hy=>?_,?_⟩
 ·obtain⟨b,_,rfl⟩:=ah.mp (fY.mpr hy);have:=rz (A:=X.A.in1) (s:=s) b true;cases b<;>exact this
 ·refine⟨.int ((bs.countP id:Nat):Int),H,I.tok _,⟨s.toks,?_⟩,q⟩;have e2:((bs.map Value.bool).toArray.toList).countP ET=bs.countP id:=by
   show (bs.map Value.bool).countP ET=_;rw[List.countP_map];rfl
  rw[e2]
theorem P6:Cg X "list.index" yD:=by
 intro pins s σ H x vs v us Q I rx rv h;obtain⟨l,bs,j,rfl,rfl,hH,h1,h2,h3,q⟩:=h;cases rx;obtain⟨u,rfl,ru⟩:=rv.one;cases (show u=Value.bool true from ru);obtain⟨z,its,n,r,hl,e⟩:=I.sG hH;rw[DL r] at e;have hj:j<bs.length:=(aN.mp h1).1;refine kY F.slot_list_index ⟨_,e,rfl⟩ F.entry_list_index (F.args_list_index_2 _ _) (SeqAt.list_indexAt l (bs.map Value.bool).toArray n none #[] (.bool true) ET j (by simpa using hj) (by omega) ?_ fun m hm hmj=>?_) ⟨e,fun y hy=>?_,?_⟩
 ·simp only[rE,List.getElem_map];rw[(aN.mp h1).2];rfl
 ·simp only[rE,List.getElem_map];rw[(aN.mp (h2 m hmj)).2];rfl
 ·obtain⟨b,_,rfl⟩:=ah.mp (fY.mpr hy);have:=rz (A:=X.A.in1) (s:=s) b true;cases b<;>exact this
 ·exact⟨.int ((j:Nat):Int),H,I.tok _,⟨_,rfl⟩,q⟩
end
section
variable {K:PySem.W.Frag}
def DK:D->List D->Gp->V3->Prop:=fun x ds G Q=>match x,ds with
 |.obj p,[.bl true]=>∃xs bs,G p=some (.lst xs)/\mX xs=some bs/\Q (.int ((bs.countP id:Nat):Int)) G
 |_,_=>False
def C6:D->List D->Gp->V3->Prop:=fun x ds G Q=>match x,ds with
 |.obj p,[.bl true]=>∃xs bs j,G p=some (.lst xs)/\mX xs=some bs/\bs[j]?=some true/\(∀i,i<j->bs[i]?=some false)/\j<1000/\Q (.int ((j:Nat):Int)) G
 |_,_=>False
theorem P5:v8 K DK yE:=fun x vx ds vs G H Q3 Q hx hs RG q k=>by
 unfold DK at q;split at q
 ·rename_i p;obtain⟨xs,bs,e1,e2,q⟩:=q;obtain⟨ys,e3,hv⟩:=RG p _ e1;obtain⟨v,r,rfl,hv1,hv2⟩:=hs.inv;rw[hv2.gi,qL hv1,hJ hx];exact⟨p,bs,rfl,rfl,by rw[e3,zy hv e2],k _ H (.int _) G mf (.refl H G) RG q⟩
 ·exact q.elim
theorem QJ:v8 K C6 yD:=fun x vx ds vs G H Q3 Q hx hs RG q k=>by
 unfold C6 at q;split at q
 ·rename_i p;obtain⟨xs,bs,j,e1,e2,q1,q2,q3,q⟩:=q;obtain⟨ys,e3,hv⟩:=RG p _ e1;obtain⟨v,r,rfl,hv1,hv2⟩:=hs.inv;rw[hv2.gi,qL hv1,hJ hx];exact⟨p,bs,j,rfl,rfl,by rw[e3,zy hv e2],q1,q2,q3,k _ H (.int _) G mf (.refl H G) RG q⟩
 ·exact q.elim
end
end L3
namespace L3
open PySem PySem.Spec PyProof.Rows L2
open Sem (wp)
def wW(x:ι)(names:List ι)(E:E3)(t:b9):ar:=fun _ τ G=>t τ G fun ds _=>∃is:List Int,ds=is.map D.int/\is.length=names.length/\E x (names.zip is)
theorem Io:∀(names:List ι) (is:List Int) (us:List Value) (m0:ι->Option Value) (fs0:List (ι×V)),aS (is.map V.int) us->names.length=is.length->(names.Nodup)->(∀n∈names,fs0.lookup n=none)->(∀f,rf (fs0.lookup f) (m0 f)) ->
  ∀f,rf ((((names.zip is).map fun p=>(p.1,V.int p.2))++fs0).lookup f) ((names.zip us).foldl putN m0 f)
 |[],[],us,m0,fs0,hv,_,_,_,h=>by
  rw[hv.zero];exact h
 |n::ns,i::is,us,m0,fs0,hv,hl,nd,hn,h=>by
  cases hv with
  |@cons v u vs us2 r1 r2=>
   have hnd:=df.mp nd;intro f;have key:=Io ns is us2 (putN m0 (n,u)) (fs0++[(n,V.int i)]) r2 (by simpa using hl) hnd.2 (fun y hy=>by
    rw[fz,hn y (ω _ hy),cg,oW];have:(y==n)=false:=by
     rw[beq_eq_false_iff_ne];intro z;exact hnd.1 (z▸hy)
    rw[this];rfl) (fun y=>by
    unfold putN;by_cases z:y=n
    ·subst z;rw[if_pos rfl,fz,hn y Δ,cg,beq_self_eq_true];exact r1
    ·rw[if_neg z,fz,cg,oW,beq_eq_false_iff_ne.mpr z];have:=h y;cases q:fs0.lookup y with
     |none=>rw[q] at this;exact this
     | some w=>rw[q] at this;exact this) f
   show rf ((((n,V.int i)::(ns.zip is).map fun p=>(p.1,V.int p.2))++fs0).lookup f) ((ns.zip us2).foldl putN (putN m0 (n,u)) f);have e:((((n,V.int i)::(ns.zip is).map fun p=>(p.1,V.int p.2))++fs0).lookup f)=((((ns.zip is).map fun p=>(p.1,V.int p.2))++(fs0++[(n,V.int i)])).lookup f):=by
    rw[List.cons_append,cg,fz,fz,fz,cg,oW];by_cases z:f=n
    ·subst z;have hz:((ns.zip is).map fun p=>(p.1,V.int p.2)).lookup f=none:=by
      rw[List.lookup_eq_none_iff];intro p hp;obtain⟨q,hq,rfl⟩:=ah.mp hp;rw[bne_iff_ne];intro z;exact hnd.1 (z▸(eW hq).1)
     rw[beq_self_eq_true,hz,hn f Δ];rfl
    ·rw[beq_eq_false_iff_ne.mpr z];cases ((ns.zip is).map fun p=>(p.1,V.int p.2)).lookup f<;>cases fs0.lookup f<;>rfl
   rw[e];exact key
theorem Im{K:PySem.W.Frag}{H:Hp}:∀{is:List Int} {vs:List V},aw K H (is.map D.int) vs->vs=is.map V.int
 |[],_,h=>h.gi
 |i::is,_,h=>by
  obtain⟨v,r,rfl,h1,h2⟩:=h.inv;rw[Im h2,ir h1];rfl
theorem C5{K:PySem.W.Frag}{C:ε}{bm:List Value}{init:Option Value}{newId:String}(q:excIn K C bm init newId=true):∃nm qn N bs sn sub ab col dd k0 k1 k2 k3 k5,K.lookup C=some (excClassObj nm qn C N bs bm true sn sub ab col dd k0 k1 k2 k3 k5 newId):=by
 unfold excIn at q;split at q
 ·rename_i dd cd sl ho;split at q
  ·rename_i C' bm' k0 k1 k2 k3 n k5 hm hs;simp only[bF,beq_iff_eq,Bool.not_eq_true'] at q;obtain⟨⟨⟨⟨⟨rfl,rfl⟩,hdel⟩,hdct⟩,rfl⟩,hns⟩:=q;obtain⟨nm,bs,mro,ns,qn,hd,sn,sub,ab,col,del⟩:=cd;dsimp only at hm hdel hdct hns;subst hm hdel hdct;have hsl:sl = #[k0,k1,k2,k3,some (.builtin n),k5]:=by
    obtain⟨l⟩:=sl;simp only at hs;rw[hs]
   subst hsl;exact⟨nm,qn,ns,bs,sn,sub,ab,col,dd,k0,k1,k2,k3,k5,ho⟩
  ·cases q
 ·cases q
theorem QH{prog:Ψ}{w:af}{A:aq}{E:Value->ζ->Prop}{s:ζ}{env:cB}{nm q:ι}{C N:ε}{bs bm:List Value}{hdct:Bool}{sn:List ι}{sub:List Value}{ab:Bool}{col:Option Bool}{dd:Option ε}{k0 k1 k2 k3 k5:Option Value}{newId:String}
  {x:hX Value} {Q:Flow->ζ->Prop} (qX:bm.contains (.type "BaseException")=true) (hh:A.handled=none)
  (h:μ (model prog w) A x (fun v s₁=>∃e oe t,v=.ref e/\s₁.heap.get? C=some (excClassObj nm q C N bs bm hdct sn sub ab col dd k0 k1 k2 k3 k5 newId)/\s₁.heap.get? e=some oe/\oe.cls=.ref C/\oe.data=.fields #[.ref t,.none,.none,.none,.bool false,.none]/\E (.ref e) s₁) E s):
  μ (model prog w) A (raiseStmt env (some x) none) Q E s:=by
 have hcB:(Value.ref C::bm).contains (.type "BaseException")=true:=by rw[mq,qX,tE]
 unfold raiseStmt;refine δ (cp h (fun v s₁ h₁=>?_) fun _ _ x=>x);obtain⟨e,oe,t,rfl,hC,he,h1,h2,hE⟩:=h₁;obtain⟨hp,g,d,tk,os⟩:=s₁;obtain⟨oc,od,oda,osl⟩:=oe;dsimp only at h1 h2;subst h1 h2
 repeat (first|with_reducible refine e6 he ?_|with_reducible refine e6 hC ?_|(with_reducible refine iH hC ?_;rw[hcB])|wp_step)
 exact wpAny_raiseNew_none hh hE
theorem QF{X:Cx}{E:XK}{E':E3}{x:ι}{C B f:ε}{fd:ae}{qual:ι}{st:aB}{names:List ι}{k:Nat}{e:ο}{es:List ο}{t:b9}{np cpos pos:ay}(hB:Body X E)(hE:∀cls dx H',ie X.K E' cls dx H'->E cls dx H')(O:tW X.K C B f fd qual st names)(cn:dz X.K x C)(hm:X.mg x=some (.ref C))(hr:dy k X.A)(hc:X.calm=true)(ha:gS X (e::es) t)
  (cy:names≠[]:=by decide) (hg:Gl X x:=by rfl) (hdb:(x==("__debug__":ι))=false:=by decide) (he:notStar e=true:=by rfl) (hpl:es.all notStar=true:=by rfl):
  mL X (.Raise (some (.Call (.Name x np) (e::es) [] cpos)) none pos) (wW x names E' t):=by
 intro pins s σ H D2 I ⟨τ,G,D3,RS,RG,h,EL⟩;rw[arm_exec_Raise];simp only[evalOpt,rA];refine δ (fH ?_);obtain⟨nm,qn,N,bs,sn,sub,ab,col,dd,k0,k1,k2,k3,k5,lk⟩:=C5 O.ex.cls;refine QH (C:=C) (nm:=nm) (q:=qn) (N:=N) (bs:=bs) (bm:=.ref B::gW) (hdct:=true) (sn:=sn) (sub:=sub) (ab:=ab) (col:=col) (dd:=dd) (k0:=k0) (k1:=k1) (k2:=k2) (k3:=k3) (k5:=k5) (newId:="ValueError.__new__") (by rw[mq,show gW.contains (.type "BaseException")=true by decide +kernel,tE]) (I.ok.hd hc) ?_;refine δ (br (Q:=fun v s₁=>∃e oe t,v=.ref e/\s₁.heap.get? C=some (excClassObj nm qn C N bs (.ref B::gW) true sn sub ab col dd k0 k1 k2 k3 k5 "ValueError.__new__")/\s₁.heap.get? e=some oe/\oe.cls=.ref C/\oe.data=.fields #[.ref t,.none,.none,.none,.bool false,.none]/\X.xe (.ref e) s₁) ?_ fun v s2 q=>δ (fH (θ q)));refine cQ (pF I hg hm ?_ hdb);refine PySem.W.callWith_K (h₀:=X.base) I.ok.mod.nR O.kp (br (ha cpos pins s σ H (fun vs H1=>∃is:List Int,vs=is.map V.int/\is.length=names.length/\E' x (names.zip is)) I
  ⟨τ,G,_,RS,RG,h,fun vs H1 ds G1 a b c q=>by obtain⟨is,rfl,hl,q⟩:=q;exact⟨is,Im a,hl,q⟩⟩) fun us s1 ⟨vs,H1,I1,r,is,ev,hl,q⟩=>⟨I1.fC,?_⟩) (dB he) (iM hpl)
 subst ev;have hlu:us.length=names.length:=by rw[←r.length,ν];exact hl
 refine Qj O I1.fC I1.nolimit hlu cy (by have:=hr.dp;omega) fun e1 d h' tk M=>?_;obtain⟨oe,t1,o1,o2,o3,o4⟩:=M.obj;obtain⟨od,es1,ep1,n1,nr⟩:=M.ns;have I1k:Inv X pins σ H1 { s1 with heap:=h',toks:=tk }:=I1.kept M.keep;have gone:∀{b:ε} {o:aA},s1.heap.get? b=some o->b≠d:=fun {b o} hb z=>by
  rw[z,M.newD] at hb;cases hb
 have I2:=I1k.Ez (a:=d) (o:=.cN od (.xd ((names.zip is).map fun p=>(p.1,V.int p.2)))) (IB I1 M.newD) (Iz hB I1 M.newD)
  ⟨n1,(names.zip us).foldl putN (fun _=>none),⟨od,es1,ep1,n1,nr⟩,fun f=>by
   have:=Io names is us (fun _=>none) [] r hl.symm (df.mp O.sc.nd).2 (fun _ _=>rfl) (fun _=>trivial) f;rw[bw] at this;exact this⟩
  (fun z=>by
   obtain⟨m,⟨o,_,_,ho,_⟩,_⟩:=I1.loc;exact gone ho z.symm)
  (fun y c hcc z=>by
   obtain⟨v,o,ho,_⟩:=I1.cell y c hcc;exact gone ho z)
  (fun p hp=>gone (I1.pin p hp).1)
 refine⟨e1,oe,t1,rfl,I2.fC _ _ lk,o1,o2,o4,?_⟩;have hne1:e1≠d:=M.ne.symm;refine hB.throw I2 o1 o2 o4 rfl rfl (Iz hB I1 M.KW) (by rw[dj hne1];exact IB I1 M.KW) (hE _ _ _ ⟨x,C,names.zip is,rfl,cn,q,.inr ⟨d,od,o3,gh⟩⟩)
end L3
namespace L3
open PySem PySem.Spec PyProof.Rows L2
structure MZ(X:Cx)(e:ο)(t:yM):Prop where
 of:Lz X e t
structure E8(X:Cx)(st:List aB)(t:ub):Prop where
 of:Cd X st t
section
variable {X:Cx} {k:Nat} {f:ε} {fd:ae} {ps:List ι} {sp:kv} {sp3:dC} {E':E3} {x:ι} {p pos:ay} {a b e c:ο} {es:List ο} {t:b9} {te:ax} {tx:yM} {tax:TAX} {tc:cF} {ta tb tr:ub} {sa sb rest:List aB}
theorem qC(F:lA X.prog X.w X.K X.mg X.base k f fd ps sp)(hr:dy k X.A)(hx:jg (eS X.prog X.w X.base) X (ie X.K E'))(hm:X.mg x=some (.ref f))(hk:PySem.W.keepIn X.K (.ref f)=true)(hb:Binds X.K fd ps [])(ha:QA X (e::es) t)(hg:Gl X x:=by rfl)
  (hdb:(x==("__debug__":ι))=false:=by decide) (he:notStar e=true:=by rfl) (hpl:es.all notStar=true:=by rfl):QE X (.Call (.Name x p) (e::es) [] pos) (jc sp E' t):=⟨Rk F hr hx hm hk hb ha.of hg hdb he hpl⟩
theorem xw(F:uL X.prog X.w X.K X.mg X.base k f fd ps sp3)(hr:cY k X.A)(hm:X.mg x=some (.ref f))(hk:PySem.W.keepIn X.K (.ref f)=true)(hb:Binds X.K fd ps [])(ha:QA X (e::es) t)(hg:Gl X x:=by rfl)
  (hdb:(x==("__debug__":ι))=false:=by decide) (he:notStar e=true:=by rfl) (hpl:es.all notStar=true:=by rfl):QE X (.Call (.Name x p) (e::es) [] pos) (bt sp3 t):=⟨Qu F hr hm hk hb ha.of hg hdb he hpl⟩
theorem QD(h:MZ X e tx)(hr:E8 X rest tr)(hs:swapsWith e none pos.line X.env=pure false:=by rfl):E8 X (.Expr e pos::rest) (wQ tx tr):=⟨Qt h.of hr.of hs⟩
theorem QB:E8 X [] wO:=⟨Qs⟩
theorem Qz{E:XK}{C B:ε}{qual:ι}{st:aB}{names:List ι}{np cpos:ay}(hB:Body X E)(hE:∀cls dx H',ie X.K E' cls dx H'->E cls dx H')(O:tW X.K C B f fd qual st names)(cn:dz X.K x C)(hm:X.mg x=some (.ref C))(hr:dy k X.A)(hc:X.calm=true)(ha:QA X (e::es) t)
  (cy:names≠[]:=by decide) (hg:Gl X x:=by rfl) (hdb:(x==("__debug__":ι))=false:=by decide) (he:notStar e=true:=by rfl) (hpl:es.all notStar=true:=by rfl):
  QS X (.Raise (some (.Call (.Name x np) (e::es) [] cpos)) none pos) (wW x names E' t):=⟨QF hB hE O cn hm hr hc ha.of cy hg hdb he hpl⟩
theorem uy{rs:List ι}{y:ι}{C:ε}{p2:ay}(hk:∀z∈rs,∀D,dz X.K z D->fO X.K D/\PySem.W.kitOne X.K (.ref D) (.ref C)=some (z==y))(ha:QE X a te)(hm:X.mg "isinstance" = none)(hmy:X.mg y=some (.ref C))(hgy:Gl X y:=by rfl)(hdy:(y==("__debug__":ι))=false:=by decide)(hg:Gl X "isinstance":=by rfl)(he:notStar a=true:=by rfl):
  QE X (.Call (.Name "isinstance" p) [a,.Name y p2] [] pos) (pS rs y te):=⟨P9 hk ha.of hm hmy hgy hdy hg he⟩
theorem Qy{rs:List ι}{p2:ay}(hk:∀z∈rs,∀D,dz X.K z D->fO X.K D/\PySem.W.kitOne X.K (.ref D) (.type "ValueError")=some true)(ha:QE X a te)(hm:X.mg "isinstance" = none)(hmy:X.mg "ValueError" = none)(hgy:Gl X "ValueError":=by rfl)(hg:Gl X "isinstance":=by rfl)(he:notStar a=true:=by rfl):
  QE X (.Call (.Name "isinstance" p) [a,.Name "ValueError" p2] [] pos) (Ef rs te):=⟨P8 hk ha.of hm hmy hgy hg he⟩
end
theorem Li{P:Ψ}{w:af}{K:PySem.W.Frag}{mg:ι->Option Value}{base:Ξ}{N:List ι}{qual:ι}{scope:ee}{f:ε}{cd:Value}{A:aq}{outer:List cB}{s:ζ}{H:Hp}{E:XK}:Frame (gH mM P w K mg base N qual scope f cd A outer s H E).ly:=⟨rfl,rfl,rfl⟩
theorem sh{P:Ψ}{w:af}{K:PySem.W.Frag}{mg:ι->Option Value}{base:Ξ}{x qual:ι}{st:aB}{f:ε}{fd:ae}{N ps:List ι}{k:Nat}{sp:kv}(F:di K x qual st f fd)(S:aU N ps (ρ st))(hN:ps.length≤N.length)(len:∀ds Q E,sp ds Q E->ds.length=ps.length)(tb:E3->ar)
  (eR:∀(cdv:Value) (A:aq) (outer:List cB) (s:ζ) (H:Hp) (E:XK) (E':E3),dy k (A.deeper (envOfC qual (ρ st) s.heap.objs.size f cdv))->(∀cls dx H',ie K E' cls dx H'->E cls dx H') ->
   mK (gH (eS P w base) P w K mg base N qual (ρ st) f cdv A outer s H E) (dO st) (tb E'))
  (mH:∀ds Q E,sp ds Q E->tb E (aT Q) (aO N ds) dk):lA P w K mg base (k+1) f fd ps sp:=fnX F S hN len tb (fun cdv A outer s H E E' hr hE=>(eR cdv A outer s H E E' hr hE).of) mH
theorem Dx{P:Ψ}{w:af}{K:PySem.W.Frag}{mg:ι->Option Value}{base:Ξ}{x qual:ι}{st:aB}{f:ε}{fd:ae}{N ps:List ι}{k:Nat}{sp:dC}(F:di K x qual st f fd)(S:aU N ps (ρ st))(hN:ps.length≤N.length)(len:∀ds G Q,sp ds G Q->ds.length=ps.length)(tb:ar)
  (eR:∀(cdv:Value) (A:aq) (outer:List cB) (s:ζ) (H:Hp) (E:XK),cY k (A.deeper (envOfC qual (ρ st) s.heap.objs.size f cdv)) ->
   mK (yI P w K mg base N qual (ρ st) f cdv A outer s H E) (dO st) tb)
  (mH:∀ds G Q,sp ds G Q->tb (aT Q) (aO N ds) G):uL P w K mg base (k+1) f fd ps sp:=Zx F S hN len tb (fun cdv A outer s H E hr=>(eR cdv A outer s H E hr).of) mH
end L3
namespace L3
open PySem PySem.Spec PyProof.Rows L2
structure nU(K:PySem.W.Frag)(C:ε)(f:ι):Prop where
 ge:qi K C
 hd:PySem.W.hasDictIn K C=true
 nm:PySem.W.findIn K (.ref C) f=some none
def tO(rs:List ι)(f:ι)(ta:ax):ax:=fun τ G Q=>ta τ G fun x G1=>match x with
 |.obj p=>∃z fs i,G1 p=some (.gen (i7 z fs))/\z∈rs/\fs.lookup f=some i/\Q (.int i) G1
 |_=>False
theorem Il(f:ι):∀fs:List (ι×Int),(fs.map fun p=>(p.1,V.int p.2)).lookup f=(fs.lookup f).map V.int
 |[]=>rfl
 |p::fs=>by
  rw[bP,cg,cg,Il f fs];cases f==p.1<;>rfl
theorem Qx{K:PySem.W.Frag}{C:ε}{od:aA}{f:ι}{u:Value}(a:nU K C f)(hl:PySem.W.lookIn f od=some (some u)):PySem.W.findObj K C (some od) f=some (.value u):=by
 obtain⟨cd,hc,hd⟩:=PySem.W.any_some a.hd;unfold PySem.W.findObj PySem.W.ownOf;rw[hc,ip,a.nm,ip];dsimp only[ip];rw[hd,if_pos rfl,hl];rfl
section
variable {X:Cx} {a:ο} {ta:ax} {pos:ay} {f:ι}
theorem Qw{rs:List ι}(hk:∀z∈rs,∀C,dz X.K z C->nU X.K C f)(ha:bE X a ta)(hb:attributeBase a f X.env (eval a X.env)=eval a X.env:=by rfl):bE X (.Attribute a f pos) (tO rs f ta):=by
 intro pins s σ H Q I ⟨τ,G,Q3,RS,RG,h,k⟩;refine VM hb (br (ha pins s σ H (fun v H1=>∃p z fs i,v=.ref p/\i7 z fs X.K p H1/\z∈rs/\fs.lookup f=some i/\Q (.int i) H1) I ⟨τ,G,_,RS,RG,h,fun v H1 d G1 h1 S1 R1 q1=>?_⟩) fun u s1 ⟨v,H1,I1,rv,p,z,fs,i,ev,ex,hz,hl,q⟩=>?_)
 ·cases d with
  |obj p=>
   obtain⟨z,fs,i,e1,hz,hl,q2⟩:=q1;exact⟨p,z,fs,i,hJ h1,(R1 p _ e1).1,hz,hl,k _ H1 (.int i) G1 mf S1 R1 q2⟩
  |_=>exact q1.elim
 ·subst ev;cases (show u=Value.ref p from rv);have cy:fs≠[]:=fun w=>by
   rw[w] at hl;cases hl
  obtain⟨C,oe,od,mA,d,cn,J,hod,hns,hrel⟩:=Qb I1.bf ex cy;obtain⟨od2,h2,lk⟩:=Vc hns;rw[hod] at h2;cases h2;have hf:=hrel f;rw[Il,hl] at hf;obtain⟨u,hu,ru⟩:=rf.some_of (v:=V.int i) (o:=mA f) hf;obtain⟨tk,rfl⟩:=(show ∃t,u=Value.int i t from ru);have A1:=hk z hz C cn;exact exc_value A1.ge I1.fC J (Qx A1 (by rw[lk,hu])) rfl ⟨.int i,H1,I1.tok _,⟨tk,rfl⟩,q⟩
theorem zo{rs:List ι}(hk:∀z∈rs,∀C,dz X.K z C->nU X.K C f)(ha:QE X a ta)(hb:attributeBase a f X.env (eval a X.env)=eval a X.env:=by rfl):QE X (.Attribute a f pos) (tO rs f ta):=⟨Qw hk ha.of hb⟩
end
end L3
namespace L3
open PySem PySem.Spec PyProof.Rows L2
theorem Qv{K:PySem.W.Frag}{C B:ε}{init:Option Value}{newId:String}(e:excIn K C (.ref B::gW) init newId=true):∃cd,PySem.W.clsIn K C=some cd/\cd.mro=.ref C::.ref B::gW/\cd.hasDict=true:=by
 obtain⟨nm,qn,N,bs,sn,sub,ab,col,dd,k0,k1,k2,k3,k5,lk⟩:=C5 e;unfold PySem.W.clsIn;rw[lk];exact⟨_,rfl,rfl,rfl⟩
theorem PQ{K:PySem.W.Frag}{C:ε}{bm:List Value}{init:Option Value}{newId:String}(e:excIn K C bm init newId=true):(PySem.W.clsIn K C).isSome=true:=by
 obtain⟨nm,qn,N,bs,sn,sub,ab,col,dd,k0,k1,k2,k3,k5,lk⟩:=C5 e;unfold PySem.W.clsIn;rw[lk];rfl
theorem PN{K:PySem.W.Frag}{f:ε}{T:Value}(h:PySem.W.typeIn K (.ref f)=some T):∃o,K.lookup f=some o/\o.cls=T:=by
 unfold PySem.W.typeIn at h;cases q:K.lookup f with
 |none=>simp[q] at h
 |some o=>
  simp[q] at h;exact⟨o,rfl,h⟩
def B3:E3:=fun _ _=>False
theorem wy{X:Cx}:jg (eS X.prog X.w X.base) X (ie X.K B3):=fun _ _ _ _ _ _ _ h=>by
 obtain⟨_,_,_,_,_,_,_,_,_,_,_,_,_,_,_,_,_,_,_,z,_⟩:=h;exact z.elim
theorem iE{us:List Value}(h:us.length=1):∃a,us=[a]:=jY.mp h
theorem i5{us:List Value}(h:us.length=2):∃a b,us=[a,b]:=by
 rcases us with _|⟨a,us⟩
 ·cases h
 ·obtain⟨b,rfl⟩:=iE (us:=us) (Nat.succ.inj h);exact⟨a,b,rfl⟩
theorem DY{us:List Value}(h:us.length=3):∃a b c,us=[a,b,c]:=by
 rcases us with _|⟨a,us⟩
 ·cases h
 ·obtain⟨b,c,rfl⟩:=i5 (us:=us) (Nat.succ.inj h);exact⟨a,b,c,rfl⟩
end L3
namespace My
open PySem L2 L3
def Known(G:Gp):D->Prop
 |.obj a=>∃o,G a=some o/\o.plain
 |_=>True
def nG:D->Bool
 |.int _=>true
 |_=>false
theorem du{Q:V3}{d:D}{G:Gp}(h:Q d G):(aT Q).rt d G:=⟨G,Sub.refl G,h⟩
theorem pJ{Q:V3}{d:D}{G G':Gp}(s:Sub G G')(h:Q d G):(aT Q).rt d G':=⟨G,s,h⟩
theorem jG{i:Int}(h1:-(10^80)<i)(h2:i<10^80):jJ i:=by
 have:i.natAbs<10^80:=by lia
 exact la this (by decide)
theorem Sub.Ck{G G':Gp}{a:ε}{o:GO}(s:Sub G G')(h:G a=none):Sub G (dX G' a o):=fun b u e=>by
 rw[oI (fun z=>by rw[z,h] at e;cases e)];exact s b u e
def si:dC:=fun ds G Q=>match ds with
 |[d]=>Known G d/\Q (.bl (nG d)) G
 |_=>False
def C4:ar:=bS (tP (oK "int" (π 0)) (A0 (oK "bool" (π 0))))
theorem Ij{nm:ι}:∀ds G Q,si ds G Q->C4 (aT Q) (aO [nm] ds) G:=by
 intro ds G Q h;rcases ds with _|⟨d,_|⟨d2,ds⟩⟩
 ·exact h.elim
 ·cases d with
  |int i=>exact⟨fun _=>du h.2,nofun⟩
  |bl b=>exact⟨fun _=>du h.2,nofun⟩
  |az=>exact⟨nofun,fun _=>du h.2⟩
  |str _=>exact⟨nofun,fun _=>du h.2⟩
  |tup _=>exact⟨nofun,fun _=>du h.2⟩
  |eN _=>exact⟨nofun,fun _=>du h.2⟩
  |dc _=>exact⟨nofun,fun _=>du h.2⟩
  |obj a=>
   obtain⟨o1,h1,hp⟩:∃o,G a=some o/\o.plain:=h.1;show match jz "int" G (.obj a) with
    |some b=>_
    |none=>_
   cases hG:G a with
   |none=>rw[h1] at hG;cases hG
   |some o=>
    cases o with
    |lst _=>simp only[jz,hG];exact⟨nofun,fun _=>du h.2⟩
    |kL=>simp only[jz,hG];exact⟨nofun,fun _=>du h.2⟩
    |eD=>simp only[jz,hG];exact⟨nofun,fun _=>du h.2⟩
    |gen R=>
     rw[h1] at hG;cases hG;exact hp.elim
 ·exact h.elim
abbrev PM:=@Ij "thing"
abbrev ux:=si
abbrev PL:=C4
abbrev PK:=@Ij "found"
def xV:dC:=fun ds G Q=>∃(ns:List Int) (k:Nat),ds=[.eN (ns.map .int),.int k]/\∀i:Int,Q (.int i) G
def Ii:ar:=bz (jV (bQ (bc qA (π 1) (dS lq (ξ (π 0) (aa))))) (bS (bc fj (π 0) (π 1))) (ft)) (bS (eC (.int 0)))
theorem PJ:∀ds G Q,xV ds G Q->Ii (aT Q) (aO ["script","k"] ds) G:=by
 rintro ds G Q ⟨ns,k,rfl,q⟩;refine⟨fun h=>?_,fun h=>du (q 0)⟩;have h':(k:Int)<((ns.map D.int).length:Nat):=of_decide_eq_true h;rw[ν] at h';have hk:k<ns.length:=by lia
 exact⟨.int ns[k],zS (by rw[aJ,aK hk];rfl),du (q _)⟩
def vL:dC:=fun ds G Q=>∃n:Int,ds=[.int n]/\0≤n/\∀r:Int,0≤r->r<2147483629->Q (.int r) G
def Ih:ar:=bz (cb (bc mS (bc eQ (π 0) (eC (.int 7919))) (eC (.int 2147483647))) (hName 0)) (bS (bc mS (bc eQ (bc eQ (bc kF (π 0) (π 0)) (bc kF (eC (.int 48271)) (π 0))) (eC (.int 12345))) (eC (.int 2147483629))))
theorem PH:∀ds G Q,vL ds G Q->Ih (aT Q) (aO ["seed"] ds) G:=by
 rintro ds G Q ⟨n,rfl,hn,q⟩;have h1:=gF (n+7919) (show (2147483647:Int)≠0 by decide);have h2:=fA (n+7919) (show (0:Int)<2147483647 by decide);have hb:jJ ((n+7919)%2147483647):=jG (by lia) (by lia);refine⟨(by decide:(0:Int)<2147483647),⟨hb,hb⟩,⟨jG (by decide) (by decide),hb⟩,(by decide:(0:Int)<2147483629),du (q _ ?_ ?_)⟩
 ·exact gF _ (by decide)
 ·exact fA _ (by decide)
def zm:dC:=fun ds G Q=>∃(p:ε) (m i j k:Int),ds=[.obj p,.int m]/\G p=some (.lst [.int i,.int j,.int k])/\tV i j k/\0<m/\jJ m ∧
 ∀r i' j' k':Int,tV i' j' k'->0≤r->r<m->Q (.int r) (dX G p (.lst [.int i',.int j',.int k']))
def mF:dC:=fun ds G Q=>∃(p:ε) (m:Int),ds=[.obj p,.int m]/\G p=some .kL/\(0<m/\jJ m)/\∀r:Int,0≤r->r<m->Q (.int r) G
def Ig:ar:=bz (jV (bQ (bc (fv false) (bc fj (π 0) (eC (.int 1))) (eC (.int 1)))) (bz (cb (bc mS (bc fj (π 0) (eC (.int 0))) (π 1)) (hName 2)) (bz (cb (bc tM (bc fj (π 0) (eC (.int 0))) (π 1)) (hSub (π 0) (eC (.int 0)))) (bS (π 2)))) (ft)) (bz (cb (bt vL (ξ (bc eQ (bt vL (ξ (bc fj (π 0) (eC (.int 2))) (aa))) (eC (.int 7))) (aa))) (hSub (π 0) (eC (.int 2)))) (bS (bc mS (bc tM (bc fj (π 0) (eC (.int 2))) (eC (.int 64))) (π 1))))
theorem PF:∀ds G Q,zm ds G Q->Ig (aT Q) (aO ["pen","many","found"] ds) G:=by
 rintro ds G Q ⟨p,m,i,j,k,rfl,hp,ok,hm,hb,q⟩;obtain⟨o1,o2,o3⟩:=ok;refine⟨_,_,hp,rfl,_,_,rfl,rfl,aY _,fun _=>?_,fun _=>?_⟩
 ·refine⟨_,_,hp,rfl,hm,_,_,hp,rfl,⟨hm,hb⟩,_,0,hp,rfl,?_⟩;refine du (q (i%m) (i / m) j k ⟨?_,o2,o3⟩ ?_ ?_)
  ·exact oZ o1 (by lia)
  ·exact gF _ (by lia)
  ·exact fA _ hm
 ·refine⟨_,_,hp,rfl,_,rfl,o2,fun r h1 h2=>⟨_,rfl,(by lia),fun r' h3 h4=>?_⟩⟩;refine⟨_,2,hp,rfl,_,_,lF,rfl,⟨by decide,jG (by decide) (by decide)⟩,hm,?_⟩;refine du (q _ i j r' ⟨o1,h3,by lia⟩ ?_ ?_)
  ·exact gF _ (by lia)
  ·exact fA _ hm
theorem PD{K:PySem.W.Frag}:∀vs H Q E,j6 K mF vs H Q E->j6 K zm vs H Q E:=by
 rintro vs H Q E ⟨ds,G,Q3,hd,RG,⟨p,m,rfl,hp,hm,q⟩,k⟩;obtain⟨i,j,l,e,ok⟩:=RG p _ hp;refine⟨_,dX G p (.lst [.int i,.int j,.int l]),fun d G'=>∃i' j' l',tV i' j' l'/\G'=dX G p (.lst [.int i',.int j',.int l'])/\Q3 d G,hd,?_,⟨p,m,i,j,l,rfl,lF,ok,hm.1,hm.2,fun r i' j' k' ok' h1 h2=>⟨i',j',k',ok',Vb,q r h1 h2⟩⟩,?_⟩
 ·intro a o ea;by_cases z:a=p
  ·subst z;rw[lF] at ea;cases ea;exact⟨_,e,.cons (by simp[Hv]) (.cons (by simp[Hv]) (.cons (by simp[Hv]) .nil))⟩
  ·rw[oI z] at ea;exact RG a o ea
 ·rintro v H' d G' hv S R ⟨i',j',l',ok',rfl,h3⟩;refine k v H' d G hv ⟨fun a o ea n=>S.fr a o ea ?_,S.mE,fun a n z=>absurd n z⟩ (fun a o ea=>?_) h3
  ·have:a≠p:=fun z=>by rw[z,hp] at n;cases n
   rw[oI this];exact n
  ·by_cases z:a=p
   ·subst z;rw[hp] at ea;cases ea;obtain⟨ws,e1,e2⟩:=R a _ lF;have:=sv e2 (ns:=[i',j',l']) rfl;subst this;exact⟨i',j',l',e1,ok'⟩
   ·exact R a o (by rw[oI z];exact ea)
def zl:dC:=fun ds G Q=>∃c:Int,ds=[.int c]/\∀p i j k G',fc G p (.lst [.int i,.int j,.int k]) G'->tV i j k->Q (.obj p) G'
def C2:dC:=fun ds G Q=>∃c:Int,ds=[.int c]/\∀p G',fc G p .kL G'->Q (.obj p) G'
def Ie:ar:=bz (cb (dS DB (ξ (π 0) (ξ (bc yW (eC (.int 0)) (π 0)) (aa)))) (hName 1)) (bS (i9 (ξ (π 1) (ξ (dS Aa (ξ (bc Gd (π 1) (bc yY (eC (.int 10)) (eC (.int 18)))) (aa))) (ξ (bc mS (π 1) (eC (.int 1000003))) (aa))))))
theorem PB:∀ds G Q,zl ds G Q->Ie (aT Q) (aO ["cell","left"] ds) G:=by
 rintro ds G Q ⟨c,rfl,q⟩;refine⟨⟨by decide,by decide,by decide⟩,(by decide:(0:Int)<1000003),fun p G' hp=>du (q p _ _ _ _ hp ⟨?_,?_,?_⟩)⟩
 ·split<;>lia
 ·exact gF _ (by decide)
 ·exact Int.lt_trans (fA _ (by decide)) (by decide)
theorem Pz{K:PySem.W.Frag}:∀vs H Q E,j6 K C2 vs H Q E->j6 K zl vs H Q E:=by
 rintro vs H Q E ⟨ds,G,Q3,hd,RG,⟨c,rfl,q⟩,k⟩;refine⟨_,G,fun d G'=>∃p i j l,tV i j l/\fc G p (.lst [.int i,.int j,.int l]) G'/\d=.obj p,hd,RG,⟨c,rfl,fun p i j l G' hp ok=>⟨p,i,j,l,ok,hp,rfl⟩⟩,?_⟩;rintro v H' d G' hv S R ⟨p,i,j,l,ok,hp,rfl⟩;refine k v H' _ (dX G' p .kL) hv ⟨S.fr,S.mE,fun a n z=>S.new a n ?_⟩ (fun a o ea=>?_) (q p _ ⟨hp.az,Sub.Ck hp.sub hp.az,lF⟩)
 ·by_cases y:a=p
  ·rw[y,hp.at_];simp
  ·rw[oI y] at z;exact z
 ·by_cases z:a=p
  ·subst z;rw[lF] at ea;cases ea;obtain⟨ws,e1,e2⟩:=R a _ hp.at_;have:=sv e2 (ns:=[i,j,l]) rfl;subst this;exact⟨i,j,l,e1,ok⟩
  ·rw[oI z] at ea;exact R a o ea
abbrev aH:=Int×Int
def cD(c:aH):D:=.tup [.int c.1,.int c.2]
def dQ(cs:List aH):D:=.tup (cs.map cD)
def Valid(c:aH):Prop:=0<c.1/\0≤c.2/\c.2<c.1
def rg(n:Int)(c:aH):Bool:=n%c.1==c.2
theorem cK{n:Nat}(h:n≤1000):n≤ai:=aG h (by decide)
theorem nM{α:Type}{guard:Gp->Prop}{g:gR}{tc:cF}{te:ax}{Q:List D->Gp->Prop}(I:S3->Prop)(h:α->D)(pr:α->Bool)(f:α->D){G:Gp}(hg:guard G):∀(xs:List α) (acc:List D) (τ:S3),I τ ->
  (∀x∈xs,∀τ (K1:S3->Gp->Prop) (K2:S3->D->Gp->Prop),I τ->(pr x=true->∀τ2,I τ2->K2 τ2 (f x) G)->(pr x=false->∀τ2,I τ2->K1 τ2 G)->g (h x) τ G fun τ2 G2=>tc τ2 G2 fun b G3=>Br b (te τ2 G3 fun v G4=>K2 τ2 v G4) (K1 τ2 G3)) ->
  Q (acc++(xs.filter pr).map f) G->g0 guard g tc te Q (xs.map h) acc τ G
 |[],acc,τ,_,_,q=>⟨hg,by simpa using q⟩
 |d::ds,acc,τ,hI,hs,q=>by
  refine⟨hg,hs d Δ τ (fun τ2 G3=>g0 guard g tc te Q (ds.map h) acc τ2 G3) (fun τ2 v G4=>g0 guard g tc te Q (ds.map h) (acc++[v]) τ2 G4) hI (fun hp τ2 h2=>?_) fun hp τ2 h2=>?_⟩
  ·refine nM I h pr f hg ds _ τ2 h2 (fun d' hd=>hs d' (ω _ hd)) ?_;rw[List.filter_cons_of_pos hp] at q;simpa using q
  ·refine nM I h pr f hg ds _ τ2 h2 (fun d' hd=>hs d' (ω _ hd)) ?_;rw[List.filter_cons_of_neg (by rw[hp];simp)] at q;exact q
end My
namespace My
open PySem L2 L3
def cX(c:aH):Dat.D:=.tup [.int c.1,.int c.2]
theorem C1:∀cs:List aH,dW (cs.map cD)=some (cs.map cX)
 |[]=>rfl
 |c::cs=>by
  show (match kD (cD c) with
   |some x=>match dW (cs.map cD) with
    |some xs=>some (x::xs)
    |none=>none
   | none=>none)=_
  rw[C1 cs];rfl
theorem pI{G:Gp}{a:ε}{ds:List D}{xs:List Dat.D}(h:G a=some (.lst ds))(e:dW ds=some xs):qx G (.obj a)=some (.lst xs):=by
 unfold qx;simp only[h,e]
theorem Ib:∀cs:List aH,Dat.fe (cs.map cX)≤1
 |[]=>aY _
 |c::cs=>by
  show max (cX c).iP (Dat.fe (cs.map cX))≤1;have h1:(cX c).iP=1:=rfl;have:=Ib cs;omega
theorem Ia(cs:List aH):(Dat.D.lst (cs.map cX)).iP≤50:=by
 show Dat.fe (cs.map cX)+1≤50;have:=Ib cs;omega
theorem zk(xs:List Dat.D):(Dat.D.lst xs).dZ (.lst [])=xs.isEmpty:=by
 cases xs with
 |nil=>rfl
 |cons x xs=>rfl
def gO(n:Int)(c:aH):Bool:=(n-c.2)%c.1==0
theorem Py{c:aH}(h:Valid c)(n:Int):gO n c=rg n c:=by
 obtain⟨h1,h2,h3⟩:=h;unfold rg gO;rw[fG];simp only[beq_iff_eq];constructor
 ·intro e;have h4:=Int.emod_emod_of_dvd n (Int.dvd_refl c.1);have:n%c.1=c.2%c.1:=iZ.mpr e;rw[this];exact Int.emod_eq_of_lt h2 h3
 ·intro e;refine iZ.mp ?_;rw[e];exact (Int.emod_eq_of_lt h2 h3).symm
end My
namespace My
open PySem L2 L3
def pT{α:Type}(xs:List α)(lo hi:Option Int):List α:=(xs.drop (HT.bV xs.length 0 lo)).take (HT.bV xs.length xs.length hi-HT.bV xs.length 0 lo)
theorem pH{α:Type}(f:α->D)(xs:List α)(lo hi:Option Int):fS (xs.map f) lo hi=(pT xs lo hi).map f:=by
 unfold fS pT;rw[ν,j7,j8]
theorem Px{α:Type}(xs:List α)(lo hi:Option Int):(pT xs lo hi).length≤xs.length:=by
 unfold pT;rw[ck,eH];lia
theorem xU{α:Type}(xs:List α)(k:Nat):pT xs none (some (k:Int))=xs.take k:=by
 unfold pT;rw[HT.wX,HT.yC];simp only[List.drop_zero,Nat.sub_zero];by_cases h:k≤xs.length
 ·rw[Nat.min_eq_left h]
 ·rw[Nat.min_eq_right (by lia),oj,fu (by lia)]
theorem zj{α:Type}(xs:List α)(k:Nat):pT xs (some (k:Int)) none=xs.drop k:=by
 unfold pT;rw[HT.wX,HT.yC];by_cases h:k≤xs.length
 ·rw[Nat.min_eq_left h];exact fu (by rw[eH];lia)
 ·rw[Nat.min_eq_right (by lia),List.drop_length,gL (by lia)];simp
def jk(M:Int)(cs:List aH):Prop:=∀c∈cs,Valid c/\c.1≤M
theorem Pw{s r k i:Int}(h:Valid (s,r))(h1:0≤i)(h2:i<k):Valid (s*k,r+s*i):=by
 obtain⟨a,b,c⟩:=h;simp only at a b c;have q:=Int.mul_le_mul_of_nonneg_left (show i≤k-1 by lia) (show 0≤s by lia);rw[Int.mul_sub,uj] at q;have q2:=Int.mul_nonneg (show 0≤s by lia) h1;refine⟨?_,?_,?_⟩
 ·exact Int.mul_pos a (by lia)
 ·show 0≤r+s*i;lia
 ·show r+s*i<s*k;lia
theorem IV{α:Type}(f:α->D){xs:List α}{r:Int}(h1:0≤r)(h2:r<(xs.length:Nat)):∃x,xs[r.toNat]?=some x/\x∈xs/\kr (xs.map f) r=some (f x):=by
 have hk:r.toNat<xs.length:=by lia
 refine⟨xs[r.toNat],aK hk,km hk,?_⟩;have e:r=((r.toNat:Nat):Int):=by lia
 have q:kr (xs.map f) ((r.toNat:Nat):Int)=some (f xs[r.toNat]):=zS (by rw[aJ];simp[hk]);rw[←e] at q;exact q
theorem IU{ns:List Int}{r:Int}(h1:0≤r)(h2:r<(ns.length:Nat)):∃n,n∈ns/\kr (ns.map D.int) r=some (.int n):=by
 obtain⟨x,_,h3,h4⟩:=IV D.int h1 h2;exact⟨x,h3,h4⟩
end My
namespace My
open PySem L2 L3
def gN(c:aH):List Int:=[c.1,c.2]
theorem C0(cs:List aH):(cs.map gN).map tupI=cs.map cD:=by
 rw[cE];rfl
theorem CZ{cs:List aH}:∀{mss:List (List Int)},(∀ns∈mss,ns∈cs.map gN)->∃cs':List aH,mss=cs'.map gN/\∀c∈cs',c∈cs
 |[],_=>⟨[],rfl,fun c hc=>nomatch hc⟩
 |ns::mss,h=>by
  obtain⟨cs',e,hc⟩:=CZ (mss:=mss) fun n hn=>h n (ω _ hn);obtain⟨c,h1,rfl⟩:=ah.mp (h ns Δ);refine⟨c::cs',by simp[e],fun d hd=>?_⟩;rcases Φ.mp hd with rfl|hd
  ·exact h1
  ·exact hc d hd
def EV(a b:aH):Prop:=a.1<b.1∨(a.1=b.1/\a.2<b.2)
def rb(cs:List aH):Prop:=cs.Pairwise EV
theorem xT{a b:aH}(h:gN a=gN b):a=b:=by
 obtain⟨s,r⟩:=a;obtain⟨s',r'⟩:=b;simp[gN] at h;simp[h]
theorem Pu{a b:aH}(h:oQ.lx (gN b) (gN a)=false)(cy:a≠b):EV a b:=by
 obtain⟨s,r⟩:=a;obtain⟨s',r'⟩:=b;unfold gN at h;simp only[oQ.lx] at h;by_cases e:s'=s
 ·rw[if_pos e] at h;by_cases e2:r'=r
  ·exact absurd (by rw[e,e2]) cy
  ·rw[if_neg e2] at h;have:=of_decide_eq_false h;exact .inr ⟨e.symm,by simp only;lia⟩
 ·rw[if_neg e] at h;have:=of_decide_eq_false h;exact .inl (by simp only;lia)
theorem IT{cs:List aH}(h:oR (cs.map gN))(nd:(cs.map gN).Nodup):rb cs:=by
 have h1:=cm.mp h;have h2:=cm.mp nd;exact (h1.and h2).imp fun {a b} q=>Pu q.1 fun z=>q.2 (by rw[z])
theorem rb.take{cs:List aH}(h:rb cs)(n:Nat):rb (cs.take n):=qu (jQ n cs) h
theorem Pt{cs:List aH}{mss:List (List Int)}(hmem:∀ns,ns∈mss↔ns∈cs.map gN)(nd:mss.Nodup)(hr:oR mss)(hl:mss.length≤(cs.map gN).length):
  ∃cs':List aH,mss=cs'.map gN/\(∀c,c∈cs'↔c∈cs)/\rb cs'/\cs'.length≤cs.length:=by
 obtain⟨cs',rfl,hc⟩:=CZ fun ns hn=>(hmem ns).mp hn;refine⟨cs',rfl,fun c=>⟨fun h=>hc c h,fun h=>?_⟩,IT hr nd,by simpa using hl⟩;obtain⟨c',h1,h2⟩:=ah.mp ((hmem (gN c)).mpr (ah.mpr ⟨c,h,rfl⟩));rw[←xT h2];exact h1
theorem IS{cs:List aH}:∀ns∈cs.map gN,ns≠[]:=fun ns hn=>by
 obtain⟨c,_,rfl⟩:=ah.mp hn;simp[gN]
theorem IQ{G:Gp}{a:ε}{cs:List aH}(e:G a=some (.lst (cs.map cD))):G a=some (.lst ((cs.map gN).map tupI)):=by rw[C0];exact e
end My
namespace My
open PySem L2 L3
theorem zi{guard:Gp->Prop}{g:gR}{tc:cF}{te:ax}{Q:List D->Gp->Prop}(I:List D->List D->S3->Gp->Prop)(hg:∀ds acc τ G,I ds acc τ G->guard G)
  (step:∀d ds acc τ G (K1:S3->Gp->Prop) (K2:S3->D->Gp->Prop),I (d::ds) acc τ G->(∀τ' v G',I ds (acc++[v]) τ' G'->K2 τ' v G')->(∀τ' G',I ds acc τ' G'->K1 τ' G')->g d τ G fun τ2 G2=>tc τ2 G2 fun b G3=>Br b (te τ2 G3 fun v G4=>K2 τ2 v G4) (K1 τ2 G3))
  (lI:∀acc τ G,I [] acc τ G->Q acc G):∀ds acc τ G,I ds acc τ G->g0 guard g tc te Q ds acc τ G
 |[],acc,τ,G,h=>⟨hg _ _ _ _ h,lI _ _ _ h⟩
 |d::ds,acc,τ,G,h=>⟨hg _ _ _ _ h,step d ds acc τ G (fun τ2 G3=>g0 guard g tc te Q ds acc τ2 G3) (fun τ2 v G4=>g0 guard g tc te Q ds (acc++[v]) τ2 G4) h
   (fun τ' v G' q=>zi I hg step lI ds _ τ' G' q) fun τ' G' q=>zi I hg step lI ds _ τ' G' q⟩
theorem wrote{G G1:Gp}{q:ε}{o o':GO}(n:fc G q o G1):fc G q o' (dX G1 q o'):=⟨n.az,Sub.Ck n.sub n.az,lF⟩
end My
namespace My
open PySem L2 L3
def IP:dC:=fun ds G Q=>∃a b:Nat,ds=[.int a,.int b]/\Q (.int (gd a b:Nat)) G
def Pr:ar:=yT 0 1 (ξ (π 1) (ξ (bc mS (π 0) (π 1)) (aa)))
def Pq:ar:=bS (π 0)
def IM:ar:=bz (uU (bQ (bc za (π 1) (eC (.int 0)))) (Pr)) Pq
theorem Pp:∀ds G Q,IP ds G Q->IM (aT Q) (aO ["one","other"] ds) G:=by
 rintro ds G Q ⟨a,b,rfl,q⟩;refine⟨fun m τ G'=>G'=G/\∃a':Nat,τ=[some (.int a'),some (.int (m:Nat))]/\gd a' m=gd a b,⟨b,rfl,a,rfl,rfl⟩,?_⟩;rintro m τ G' ⟨rfl,a',rfl,hg⟩;refine⟨fun h=>?_,fun h=>?_⟩
 ·have h':(0:Int)<(m:Int):=of_decide_eq_true h;refine⟨h',a'%m,by exact_mod_cast gE a' (by lia),rfl,m,?_,?_⟩
  ·show [some (D.int (m:Nat)),some (D.int ((a':Int)%(m:Int)))]=_;rw[←Int.natCast_emod]
  ·rw[←hg,oi a' m,Nat.gcd_rec m a',oi]
 ·have h':¬((0:Int)<(m:Int)):=of_decide_eq_false h;have:m=0:=by lia
  subst this;rw[Nat.gcd_zero_right] at hg;rw[←hg] at q;exact du q
def qz(cs:List aH)(a:Nat):Nat:=cs.foldl (fun a c=>gz a c.1.toNat) a
def bO(cs:List aH):Nat:=qz cs 1
theorem IL{n:Nat}(h:n<10^80):jJ (n:Int):=by
 show (n:Int).natAbs<2^4000;exact la (by simpa using h) (by decide)
def pG:dC:=fun ds G Q=>∃cs:List aH,ds=[dQ cs]/\jk 1000 cs/\cs.length≤12/\Q (.int (bO cs:Nat)) G
def Po:ar:=bS (π 1)
end My
namespace My
open PySem L2 L3
def xS:dC:=fun ds G Q=>∃a b:Nat,ds=[.int a,.int b]/\Q (.int (gd a b:Nat)) G
def Pn:ar:=cb (π 2) (hName 1)
def Pm:ar:=bz (cb (π 1) (hName 0)) Pn
def Pl:ar:=bz (cb (bc mS (π 0) (π 1)) (hName 2)) Pm
def Pk:ar:=bS (π 0)
def IK:ar:=bz (uU (bQ (bc (fv true) (π 1) (eC (.int 0)))) (Pl)) Pk
theorem Pj:∀ds G Q,xS ds G Q->IK (aT Q) (aO ["one","other","left"] ds) G:=by
 rintro ds G Q ⟨a,b,rfl,q⟩;refine⟨fun m τ G'=>G'=G/\∃(a':Nat) (x:Option D),τ=[some (.int a'),some (.int (m:Nat)),x]/\gd a' m=gd a b,⟨b,rfl,a,_,rfl,rfl⟩,?_⟩;rintro m τ G' ⟨rfl,a',x,rfl,hg⟩;refine⟨_,_,rfl,rfl,aY _,fun h=>?_,fun h=>?_⟩
 ·have h1:(!((m:Int)==0))=true:=h;have h':(0:Int)<(m:Int):=by simp at h1;lia
  refine⟨h',a'%m,by exact_mod_cast gE a' (by lia),rfl,m,some (.int (a'%m:Nat)),?_,?_⟩
  ·show [some (D.int (m:Nat)),some (D.int ((a':Int)%(m:Int))),some (D.int ((a':Int)%(m:Int)))]=_;rw[←Int.natCast_emod]
  ·rw[←hg,oi a' m,Nat.gcd_rec m a',oi]
 ·have h1:(!((m:Int)==0))=false:=h;have:m=0:=by simp at h1;lia
  subst this;rw[Nat.gcd_zero_right] at hg;rw[←hg] at q;exact du q
def nD(n:Nat):D:=.int (n:Nat)
def vT(ns:List Nat)(a:Nat):Nat:=ns.foldl gz a
def xR:dC:=fun ds G Q=>∃(p:ε) (ns:List Nat),ds=[.obj p]/\G p=some (.lst (ns.map nD))/\(∀n∈ns,0<n/\n≤1000)/\ns.length≤20/\Q (.int (vT ns 1:Nat)) G
def Ph:ar:=cb (bc kF (π 1) (bc tM (π 2) (bt xS (ξ (π 1) (ξ (π 2) (aa)))))) (hName 1)
def P4:ar:=bS (π 1)
def P2:ar:=bz (iD (i6 (π 0)) (hName 2) (Ph)) P4
def IJ:ar:=bz (cb (eC (.int 1)) (hName 1)) P2
theorem P1:∀ds G Q,xR ds G Q->IJ (aT Q) (aO ["numbers","least","number"] ds) G:=by
 rintro ds G Q ⟨p,ns,rfl,hp,ok,hl,q⟩;refine⟨_,hp,?_⟩;refine mw (fun ds τ G'=>G'=G/\∃(zs:List Nat) (a:Nat) (x2:Option D),ds=zs.map nD/\τ=[some (.obj p),some (.int a),x2]/\(∀n∈zs,0<n/\n≤1000)/\0<a/\a*1000^zs.length≤1000^20/\vT zs a=vT ns 1) (fun _ _ _ h=>by rw[h.1];exact hp) ?_ ?_ _ _ _ ⟨rfl,ns,1,none,rfl,rfl,ok,by decide,?_,rfl⟩
 ·rintro d ds τ G' N ⟨rfl,zs,a,x2,e,rfl,okz,ha,hb,hr⟩ hN;cases zs with
  |nil=>cases e
  |cons n zs=>
   cases e;obtain⟨hs1,hs2⟩:=okz _ Δ;have hg:0<gd a n:=oC _ ha;have hga:gd a n≤a:=fL ha (Nat.gcd_dvd_left _ _);have ha20:a≤1000^20:=aG (oB _ (Nat.pow_pos (by decide))) hb;have hbig:∀k:Nat,k≤1000^20->jJ (k:Int):=fun k hk=>IL (jo hk (by decide));refine⟨a,n,rfl,⟨by lia,hbig _ (aG hga ha20)⟩,⟨hbig _ ha20,?_⟩,?_⟩
   ·show jJ ((n:Int) / (gd a n:Nat));rw[←kn];exact hbig _ (aG (Nat.div_le_self _ _) (aG hs2 (by decide)))
   have el:a*(n / gd a n)=gz a n:=by
    unfold gz;rw[Nat.mul_div_assoc a (Nat.gcd_dvd_right a n)]
   refine hN _ _ ⟨rfl,zs,gz a n,some (nD n),rfl,?_,fun c hc=>okz c (ω _ hc),ug ha (by lia),?_,hr⟩
   ·show [some (D.obj p),some (D.int ((a:Int)*((n:Int) / (gd a n:Nat)))),_]=_;rw[←kn,←oY,el]
   ·refine aG ?_ hb;rw[aj,tf,jn (1000^zs.length) 1000,←Nat.mul_assoc];refine rC _ ?_;have:gz a n≤a*n:=fL (Nat.mul_pos ha (by lia)) (uh (Nat.dvd_mul_right _ _) (Nat.dvd_mul_left _ _));exact aG this (rT _ (by lia))
 ·rintro τ G' ⟨rfl,zs,a,x2,e,rfl,okz,ha,hb,hr⟩;have:zs=[]:=by cases zs with
   |nil=>rfl
   |cons z zs=>cases e
  subst this;have hr':a=vT ns 1:=hr;rw[←hr'] at q;exact du q
 ·rw[Nat.one_mul];exact kZ (by decide) hl
theorem P0(cs:List aH)(a:Nat):vT (cs.map fun c=>c.1.toNat) a=qz cs a:=by
 unfold vT qz;rw[List.foldl_map]
def uw:dC:=fun ds G Q=>∃cs:List aH,ds=[dQ cs]/\jk 1000 cs/\cs.length≤20/\Q (.int (bO cs:Nat)) G
def HM:ar:=bS (bt xR (ξ (fR ["clock"] [] (i6 (π 0)) (hName 0) (eE) (bc fj (π 0) (eC (.int 0)))) (aa)))
theorem filter_all{α:Type}(xs:List α):xs.filter (fun _=>true)=xs:=rY.mpr fun _ _=>rfl
theorem PZ:∀ds G Q,uw ds G Q->HM (aT Q) (aO ["clocks"] ds) G:=by
 rintro ds G Q ⟨cs,rfl,ok,hl,q⟩;refine⟨by show (cs.map cD).length≤ai;rw[ν];exact cK (by lia),?_⟩;refine nM (fun τ=>∃x,τ=[x]) cD (fun _=>true) (fun c=>nD c.1.toNat) (G:=G) trivial cs [] _ ⟨none,rfl⟩ ?_ ?_
 ·rintro⟨s,r⟩ hm τ K1 K2 ⟨x,rfl⟩ h1 h2;refine⟨fun _=>⟨_,rfl,?_⟩,nofun⟩;have hs:0<s:=(ok _ hm).1.1;have:=h1 rfl [some (cD (s,r))] ⟨_,rfl⟩;show K2 [some (cD (s,r))] (.int s) G;rw[show D.int s=nD (s,r).1.toNat by show D.int s=D.int ((s.toNat:Nat):Int);rw[gu (by lia)]];exact this
 ·intro p G' n;rw[filter_all,dU,show cs.map (fun c:aH=>nD c.1.toNat)=(cs.map fun c:aH=>c.1.toNat).map nD by rw[cE];rfl] at n;refine⟨p,_,rfl,n.at_,fun k hk=>?_,by rw[ν];exact hl,?_⟩
  ·obtain⟨c,hc,rfl⟩:=ah.mp hk;obtain⟨⟨a,_⟩,b⟩:=ok c hc;lia
  ·rw[P0];exact pJ n.sub q
end My
namespace My
open PySem L2 L3
theorem wY(n:Nat):fP 0 n=(ag n).map nD:=by
 unfold fP;refine fh fun i _=>?_;show D.int (0+(i:Int))=D.int (i:Int);rw[Int.zero_add]
end My
namespace My
open PySem L2 L3
def jW(G:Gp):D->Prop
 |.tup ds=>∀d∈ds,Known G d
 |.obj a=>∃o,G a=some o/\o.plain
 |_=>True
theorem Known.sub{G G':Gp}{d:D}(s:Sub G G')(h:Known G d):Known G' d:=by
 cases d with
 |obj a=>
  obtain⟨o,e,hp⟩:=h;exact⟨o,s a o e,hp⟩
 |_=>trivial
theorem jW.sub{G G':Gp}{d:D}(s:Sub G G')(h:jW G d):jW G' d:=by
 cases d with
 |obj a=>
  obtain⟨o,e,hp⟩:=h;exact⟨o,s a o e,hp⟩
 |tup ds=>exact fun d hd=>(h d hd).sub s
 |_=>trivial
theorem CY{G:Gp}{d:D}(h:jW G d)(hn:∀ds,d≠.tup ds):jz "tuple" G d=some false:=by
 cases d with
 |obj a=>
  obtain⟨o,hG,hp⟩:∃o,G a=some o/\o.plain:=h;cases o with
  |gen R=>exact hp.elim
  |_=>simp[jz,hG]
 |tup ds=>exact absurd rfl (hn ds)
 |_=>rfl
end My
namespace My
open PySem L2 L3
theorem PY{cs:List aH}{mss:List (List Int)}(hp:mss.Perm (cs.map gN))(nd:cs.Nodup)(hr:oR mss):∃cs':List aH,mss=cs'.map gN/\(∀c,c∈cs'↔c∈cs)/\rb cs'/\cs'.length=cs.length:=by
 obtain⟨cs',rfl,hc⟩:=CZ fun ns hn=>hp.mem_iff.mp hn;have hnd:(cs.map gN).Nodup:=by
  refine cm.mpr (nd.imp fun {a b} h z=>h (xT z))
 refine⟨cs',rfl,fun c=>⟨fun h=>hc c h,fun h=>?_⟩,IT hr (hp.nodup_iff.mpr hnd),by simpa using hp.length_eq⟩;obtain⟨c',h1,h2⟩:=ah.mp (hp.mem_iff.mpr (ah.mpr ⟨c,h,rfl⟩));rw[←xT h2];exact h1
abbrev uv:=IP
abbrev HL:=IM
abbrev HK:=Pp
def PX:ar:=cb (bc tM (bc kF (π 1) (π 2)) (bt uv (ξ (π 1) (ξ (π 2) (aa))))) (hName 1)
def PV:ar:=bz (iD (i6 (π 0)) (nS 2 (gU (hName 2) (gU (hName 3) (qY)))) (PX)) Po
def HJ:ar:=bz (cb (eC (.int 1)) (hName 1)) PV
theorem HI:∀ds G Q,pG ds G Q->HJ (aT Q) (aO ["clocks","found","step","rest"] ds) G:=by
 rintro ds G Q ⟨cs,rfl,ok,hl,q⟩;refine mw (fun ds τ G'=>G'=G/\∃(zs:List aH) (a:Nat) (x2 x3:Option D),ds=zs.map cD/\τ=[some (dQ cs),some (.int a),x2,x3]/\jk 1000 zs/\0<a/\a*1000^zs.length≤1000^12/\qz zs a=bO cs) (fun _ _ _ _=>trivial) ?_ ?_ _ _ _ ⟨rfl,cs,1,none,none,rfl,rfl,ok,by decide,?_,rfl⟩
 ·rintro d ds τ G' N ⟨rfl,zs,a,x2,x3,e,rfl,okz,ha,hb,hr⟩ hN;cases zs with
  |nil=>cases e
  |cons z zs=>
   cases e;obtain⟨s,r⟩:=z;obtain⟨v,hs⟩:=okz _ Δ;have hs1:0<s:=v.1;have hs2:s≤1000:=hs;obtain⟨n,rfl⟩:∃n:Nat,s=(n:Int):=⟨s.toNat,by lia⟩;have hg:0<gd a n:=oC _ ha;have hga:gd a n≤a:=fL ha (Nat.gcd_dvd_left _ _);have ha12:a≤1000^12:=aG (oB _ (Nat.pow_pos (by decide))) hb;have hbig:∀k:Nat,k≤1000^12->jJ (k:Int):=fun k hk=>IL (jo hk (by decide));refine⟨rfl,⟨hbig _ ha12,hbig _ (aG (show n≤1000 by lia) (by decide))⟩,a,n,rfl,⟨by lia,hbig _ (aG hga ha12)⟩,?_⟩;refine hN _ _ ⟨rfl,zs,gz a n,some (.int n),some (.int r),rfl,?_,fun c hc=>okz c (ω _ hc),ug ha (by lia),?_,hr⟩
   ·show [some (dQ cs),some (D.int ((a:Int)*(n:Int) / (gd a n:Nat))),_,_]=_;rw[←oY,←kn];rfl
   ·refine aG ?_ hb;rw[aj,tf,jn (1000^zs.length) 1000,←Nat.mul_assoc];refine rC _ ?_;have:gz a n≤a*n:=fL (Nat.mul_pos ha (by lia)) (uh (Nat.dvd_mul_right _ _) (Nat.dvd_mul_left _ _));exact aG this (rT _ (by lia))
 ·rintro τ G' ⟨rfl,zs,a,x2,x3,e,rfl,okz,ha,hb,hr⟩;have:zs=[]:=by cases zs with
   |nil=>rfl
   |cons z zs=>cases e
  subst this;have hr':a=bO cs:=hr;rw[←hr'] at q;exact du q
 ·rw[Nat.one_mul];exact kZ (by decide) hl
theorem xQ{α:Type}(f:α->Bool):∀xs:List α,mX (xs.map fun x=>D.bl (f x))=some (xs.map f)
 |[]=>rfl
 |x::xs=>by
  show rA _ (mX (xs.map fun x=>D.bl (f x)))=_;rw[xQ f xs];rfl
theorem all_map{α:Type}(f:α->Bool)(xs:List α):(xs.map f).all id=xs.all f:=by
 induction xs with
 |nil=>rfl
 |cons x xs ih=>simp
end My
namespace My
open PySem L2 L3
def Kn(G:Gp):Nat->D->Prop
 |0,d=>Known G d
 |n+1,.tup ds=>∀d∈ds,Kn G n d
 |_+1,d=>Known G d
def wj(G:Gp)(d:D):Prop:=∀n,Kn G n d
section
variable {G G':Gp}
theorem wj.el{ds:List D}{d:D}(h:wj G (.tup ds))(hd:d∈ds):wj G d:=fun n=>h (n+1) d hd
theorem wj.known{d:D}(h:wj G d):Known G d:=h 0
theorem wj.Lb{d:D}(h:wj G d):jW G d:=by
 cases d with
 |tup ds=>exact fun d hd=>(h.el hd).known
 |obj a=>exact h 0
 |_=>trivial
end
def vX(s r:Int):Bool:=(decide (1≤s)&&decide (s≤1000))&&(decide (0≤r)&&decide (r<s))
def Bs:D->Bool
 |.tup [.int s,.int r]=>vX s r
 |_=>false
def PU:dC:=fun ds G Q=>∃d:D,ds=[d]/\wj G d/\Q (.bl (Bs d)) G
def PR:ar:=bS (tP (qd wZ wZ (eC (.int 1)) (bc fj (π 0) (eC (.int 0))) (eC (.int 1000))) (qd wZ qA (eC (.int 0)) (bc fj (π 0) (eC (.int 1))) (bc fj (π 0) (eC (.int 0)))))
def O6:ar:=bz (jV (qc (kh (bQ (bt si (ξ (bc fj (π 0) (eC (.int 0))) (aa))))) (kh (bQ (bt si (ξ (bc fj (π 0) (eC (.int 1))) (aa)))))) (bS (eC (.bl false))) (ft)) PR
def HH:ar:=bz (jV (qc (kh (bQ (oK "tuple" (π 0)))) (bQ (bc (fv true) (dS lq (ξ (π 0) (aa))) (eC (.int 2))))) (bS (eC (.bl false))) (ft)) O6
theorem HG{ds:List D}(h:ds.length≠2):Bs (.tup ds)=false:=by
 unfold Bs;split
 ·rename_i h2;cases h2;exact absurd rfl h
 ·rfl
theorem aaE:∀ds G Q,PU ds G Q->HH (aT Q) (aO ["thing"] ds) G:=by
 rintro ds G Q ⟨d,rfl,hk,q⟩;have not_tup:(∀ds,d≠.tup ds)->HH (aT Q) (aO ["thing"] [d]) G:=by
  intro hn;have e:Bs d=false:=by
   cases d with
   |tup ds=>exact absurd rfl (hn ds)
   |_=>rfl
  rw[e] at q;show match jz "tuple" G d with
   |some b=>_
   |none=>False
  rw[CY hk.Lb hn];exact⟨fun _=>⟨fun _=>du q,nofun⟩,nofun⟩
 cases d with
 |tup ds=>
  refine⟨nofun,fun _=>⟨_,_,rfl,rfl,aY _,?_⟩⟩;rcases ds with _|⟨a,_|⟨b,_|⟨c,ds⟩⟩⟩
  ·exact⟨fun _=>du q,nofun⟩
  ·rw[HG (by simp)] at q;exact⟨fun _=>du q,nofun⟩
  ·refine⟨nofun,fun _=>⟨a,rfl,(hk.el (by simp)).known,?_⟩⟩;have hb:Known G b:=(hk.el (by simp)).known;cases a with
   |int s=>
    refine⟨nofun,fun _=>⟨b,rfl,hb,?_⟩⟩;cases b with
    |int r=>
     have fin:∀v,vX s r=v->(aT Q).rt (.bl v) G:=fun v e=>by
      rw[←e];exact du q
     refine⟨nofun,fun _=>⟨_,rfl,⟨fun h1=>⟨fun h2=>⟨_,rfl,fun h3=>⟨_,rfl,fin _ ?_⟩,fun h3=>fin _ ?_⟩,fun h2=>fin _ ?_⟩,fun h1=>⟨nofun,fun _=>fin _ ?_⟩⟩⟩⟩
     ·unfold vX;rw[h1,h2,h3];rfl
     ·unfold vX;rw[h1,h2,h3];rfl
     ·unfold vX;rw[h1,h2];rfl
     ·unfold vX;rw[h1];rfl
    |_=>exact⟨fun _=>du q,nofun⟩
   |_=>exact⟨fun _=>⟨fun _=>du q,nofun⟩,nofun⟩
  ·refine⟨fun _=>?_,fun h=>?_⟩
   ·rw[HG (by simp)] at q;exact du q
   have h':(!(((ds.length+1+1+1:Nat):Int)==2))=false:=h;simp at h';omega
 |_=>exact not_tup nofun
theorem HF{G:Gp}{te:ax}{Q:List D->Gp->Prop}{ds:List D}{f:D->Bool}{js:List Nat}{τ:S3}(hl:ds.length≤1000)
  (hs:∀x∈ds,∀y:Option D,∀K:V3,K (.bl (f x)) G->te (jO (y::js.map fun j=>iu τ j) 0 x) G K) (q:Q (ds.map fun x=>.bl (f x)) G):g0 (fun _=>True) (hName 0) eE te Q ds [] (none::js.map fun j=>iu τ j) G:=by
 have:=nM (α:=D) (guard:=fun _=>True) (g:=hName 0) (tc:=eE) (te:=te) (Q:=Q) (fun τ'=>∃x,τ'=x::js.map fun j=>iu τ j) (fun x=>x) (fun _=>true) (fun x=>.bl (f x)) (G:=G) trivial ds [] (none::js.map fun j=>iu τ j) ⟨none,rfl⟩ ?_ ?_
 ·rw[List.map_id'] at this;exact this
 ·rintro x hx τ' K1 K2 ⟨y,rfl⟩ h1 h2;exact⟨fun _=>hs x hx y _ (h1 rfl _ ⟨_,rfl⟩),nofun⟩
 ·rw[filter_all,dU];exact q
end My
namespace My
open PySem L2 L3
theorem CW{α β:Type}(f:α->D)(g:β->D):∀(as:List α) (bs:List β),qw (as.map f) (bs.map g)=(as.zip bs).map fun p=>D.tup [f p.1,g p.2]
 |[],_=>rfl
 |a::as,[]=>rfl
 |a::as,b::bs=>by
  show D.tup [f a,g b]::qw (as.map f) (bs.map g)=D.tup [f a,g b]::(as.zip bs).map _;rw[CW f g as bs]
theorem O5{β:Type}(g:β->D)(bs:List β):ve (bs.map g)=((ag bs.length).zip bs).map fun p=>D.tup [nD p.1,g p.2]:=by
 unfold ve;rw[ν,wY];exact CW nD g _ _
end My
namespace My
open PySem L2 L3
theorem HE{cs:List aH}{d:Nat}:∀{a:Nat},a∣d->(∀c∈cs,c.1.toNat∣d)->qz cs a∣d:=by
 induction cs with
 |nil=>exact fun h _=>h
 |cons c cs ih=>
  intro a h hc;exact ih (a:=gz a c.1.toNat) (uh h (hc c Δ)) fun c' h'=>hc c' (ω _ h')
theorem O4{cs:List aH}:∀{a:Nat},a∣qz cs a:=by
 induction cs with
 |nil=>exact Nat.dvd_refl _
 |cons c cs ih=>intro a;exact Nat.dvd_trans (Nat.dvd_lcm_left a c.1.toNat) (ih (a:=gz a c.1.toNat))
theorem O3{cs:List aH}{c:aH}:∀{a:Nat},c∈cs->c.1.toNat∣qz cs a:=by
 induction cs with
 |nil=>exact fun h=>nomatch h
 |cons d cs ih=>
  intro a h;rcases Φ.mp h with rfl|h
  ·exact Nat.dvd_trans (Nat.dvd_lcm_right a c.1.toNat) (O4 (cs:=cs) (a:=gz a c.1.toNat))
  ·exact ih (a:=gz a d.1.toNat) h
end My
namespace My
open PySem L2 L3
def yp(cs:List aH):Prop:=∀c∈cs,Valid c/\(c.1≤24/\c.1∣720)
theorem FA{s k:Int}(h0:0<s)(h:s∣720)(hk:k=2∨k=3)(hl:s*k<25):s*k∣720:=by
 obtain⟨n,rfl⟩:∃n:Nat,s=(n:Int):=⟨s.toNat,by lia⟩;have hn:n∣720:=gv.mp h;have h2:∀n:Nat,n<13->n∣720->(n*2<25->n*2∣720)/\(n*3<25->n*3∣720):=by decide
 rcases hk with rfl|rfl
 ·exact gv.mpr ((h2 n (by lia) hn).1 (by lia))
 ·exact gv.mpr ((h2 n (by lia) hn).2 (by lia))
def xP:dC:=fun ds G Q=>∃(p:ε) (t:Int),ds=[.obj p,.int t]/\G p=some .kL/\(0≤t/\t≤1000)/\∀q cs G',yp cs->1≤cs.length->cs.length≤12->fc G q (.lst (cs.map cD)) G'->Q (.obj q) G'
def O1:ar:=jV (A4 (bQ (bc qA (bc eQ (dS lq (ξ (π 2) (aa))) (π 5)) (eC (.int 13)))) (bQ (bc qA (bc kF (π 6) (π 5)) (eC (.int 25))))) (cb (bc eQ (bc eQ (rJ (π 2) (kM) (jy (π 4))) (fR ["part"] [6,5,7] (kN (ξ (π 5) (aa))) (hName 0) (eE) (eF (ξ (bc kF (π 1) (π 2)) (ξ (bc eQ (π 3) (bc kF (π 1) (π 0))) (aa)))))) (rJ (π 2) (jy (bc eQ (π 4) (eC (.int 1)))) (kM))) (hName 2)) (ft)
def O0:ar:=bz (cb (bc fj (π 2) (π 4)) (nS 2 (gU (hName 6) (gU (hName 7) (qY))))) O1
def OZ:ar:=bz (cb (sQ (ξ (eC (.int 2)) (ξ (eC (.int 2)) (ξ (eC (.int 3)) (aa)))) (bt mF (ξ (π 0) (ξ (eC (.int 3)) (aa))))) (hName 5)) O0
def OY:ar:=bz (cb (bt mF (ξ (π 0) (ξ (dS lq (ξ (π 2) (aa))) (aa)))) (hName 4)) OZ
def OX:ar:=bS (π 2)
def OW:ar:=bz (iD (kN (ξ (π 1) (aa))) (hName 3) (OY)) OX
def HD:ar:=bz (cb (i9 (ξ (eF (ξ (eC (.int 1)) (ξ (eC (.int 0)) (aa)))) (aa))) (hName 2)) OW
theorem OV:∀ds G Q,xP ds G Q->HD (aT Q) (aO ["pen","times","found","turn","spot","k","step","rest"] ds) G:=by
 rintro ds G Q ⟨p,t,rfl,hp,ht,q⟩;intro q0 G0 hq0;refine⟨⟨by lia,by lia⟩,?_⟩;refine mw (fun _ τ G'=>∃q cs x3 x4 x5 x6 x7,τ=[some (.obj p),some (.int t),some (.obj q),x3,x4,x5,x6,x7]/\fc G q (.lst (cs.map cD)) G'/\yp cs/\1≤cs.length/\cs.length≤12) (fun _ _ _ _=>trivial) ?_ ?_ _ _ _ ?_
 ·rintro d ds τ G1 N ⟨q1,cs,x3,x4,x5,x6,x7,rfl,n1,ok,l1,l2⟩ hN;have e1:=n1.at_;have hp1:=n1.sub p _ hp;refine⟨_,e1,p,_,rfl,hp1,⟨?_,?_⟩,fun spot h1 h2=>?_⟩
  ·rw[ν];lia
  ·exact jG (by rw[ν];lia) (by rw[ν];lia)
  rw[ν] at h2;refine⟨p,3,rfl,hp1,⟨by decide,jG (by decide) (by decide)⟩,fun r h3 h4=>?_⟩;obtain⟨k,hk,ek⟩:=IU (ns:=[2,2,3]) h3 h4;refine⟨.int k,ek,?_⟩;obtain⟨c,ec1,hc,ec⟩:=IV cD h1 h2;obtain⟨s,r'⟩:=c;refine⟨_,cD (s,r'),e1,ec,rfl,?_⟩;have hv:=(ok _ hc).1;have hs24:=(ok _ hc).2.1;have hs720:=(ok _ hc).2.2;have hk':k=2∨k=3:=by simp at hk;lia
  have again:N [some (.obj p),some (.int t),some (.obj q1),some d,some (.int spot),some (.int k),some (.int s),some (.int r')] G1:=
   hN _ _ ⟨q1,cs,_,_,_,_,_,rfl,n1,ok,l1,l2⟩
  refine⟨_,e1,fun h5=>⟨⟨jG ?_ ?_,jG ?_ ?_⟩,fun h6=>?_,fun h6=>again⟩,fun h5=>⟨nofun,fun _=>again⟩⟩
  ·have:=hv.1;simp only at this;lia
  ·simp only at hs24;lia
  ·lia
  ·lia
  have h5':((cs.map cD).length:Int)+k<13:=of_decide_eq_true h5;have h6':s*k<25:=of_decide_eq_true h6;rw[ν] at h5';refine⟨_,e1,fun p1 G2 a1=>⟨⟨by lia,by lia⟩,?_,?_⟩⟩
  ·show (fP 0 k.toNat).length≤ai;rw[sy];exact cK (by lia)
  refine nM (fun τ=>∃x,τ=[x,some (.int s),some (.int k),some (.int r')]) (fun i:Nat=>D.int (0+(i:Int))) (fun _=>true) (fun i:Nat=>cD (s*k,r'+s*(0+(i:Int)))) trivial (ag k.toNat) [] _ ⟨none,rfl⟩ ?_ ?_
  ·rintro i hi τ K1 K2 ⟨x,rfl⟩ g1 g2;have hi':(i:Int)<k:=by have:=aE.mp hi;lia
   have b1:jJ s:=jG (by have:=hv.1;simp only at this;lia) (by simp only at hs24;lia);refine⟨fun _=>⟨⟨b1,jG (by lia) (by lia)⟩,⟨b1,jG (by lia) (by lia)⟩,?_⟩,nofun⟩;exact g1 rfl _ ⟨_,rfl⟩
  ·intro p2 G3 a2;obtain⟨j,rfl⟩:∃j:Nat,spot=(j:Int):=⟨spot.toNat,by lia⟩;have hj:j<cs.length:=by lia
   have el:(fS (cs.map cD) none (some (j:Int))++([]++((ag k.toNat).filter fun _=>true).map fun i:Nat=>cD (s*k,r'+s*(0+(i:Int))))++fS (cs.map cD) (some ((j:Int)+1)) none) =
     (cs.take j++((ag k.toNat).map fun i:Nat=>(s*k,r'+s*(0+(i:Int))))++cs.drop (j+1)).map cD:=by
    rw[pH,pH,xU,show ((j:Int)+1)=((j+1:Nat):Int) by lia,zj,rY.mpr (fun _ _=>rfl)];simp[dg,cE]
   have hlen:(cs.take j++((ag k.toNat).map fun i:Nat=>(s*k,r'+s*(0+(i:Int))))++cs.drop (j+1)).length=cs.length-1+k.toNat:=by
    rw[aF,aF,ck,eH,ν,e8];lia
   have hle:(fS (cs.map cD) none (some (j:Int))++([]++((ag k.toNat).filter fun _=>true).map fun i:Nat=>cD (s*k,r'+s*(0+(i:Int))))++fS (cs.map cD) (some ((j:Int)+1)) none).length≤12:=by
    rw[el,ν,hlen];lia
   refine⟨_,_,a2.sub _ _ a1.at_,a2.at_,?_,fun p3 G4 a3=>?_⟩
   ·rw[aF,aF] at hle;exact cK (by lia)
   refine⟨_,a3.sub _ _ (a2.sub _ _ (a1.sub _ _ e1)),fun p4 G5 a4=>?_⟩;refine⟨_,_,a4.sub _ _ a3.at_,a4.at_,?_,fun p5 G6 a5=>?_⟩
   ·rw[←aF];exact cK (by lia)
   ·rw[el] at a5;have s4:=((n1.sub.trans a1.sub).trans a2.sub).trans (a3.sub.trans a4.sub);refine hN _ _ ⟨p5,_,_,_,_,_,_,rfl,⟨s4.of_none a5.az,s4.trans a5.sub,a5.at_⟩,fun c hc=>?_,by lia,by lia⟩;rcases bp.mp hc with hc|hc
    ·rcases bp.mp hc with hc|hc
     ·exact ok c (fW hc)
     ·obtain⟨i,hi,rfl⟩:=ah.mp hc;have:=aE.mp hi;exact⟨Pw hv (by lia) (by lia),by show s*k≤24;lia,FA hv.1 hs720 hk' h6'⟩
    ·exact ok c (List.mem_of_mem_drop hc)
 ·rintro τ G1 ⟨q1,cs,x3,x4,x5,x6,x7,rfl,n1,ok,l1,l2⟩;exact du (q q1 cs _ ok l1 l2 n1)
 ·exact⟨q0,[(1,0)],_,_,_,_,_,rfl,hq0,by intro c hc;simp at hc;subst hc;exact⟨⟨by decide,by decide,by decide⟩,by decide,by decide⟩,by decide,by decide⟩
end My
namespace My
open PySem L2 L3
def OU:dC:=fun ds G Q=>∃a b:Int,ds=[.int a,.int b]/\a≤b/\Q .az G
def nums(c:aH)(n:Nat):List Nat:=(ag (iF c.2 n c.1)).map fun i=>c.2.toNat+i*c.1.toNat
theorem HC{c:aH}(h:Valid c)(n:Nat):pe c.2 c.1 (iF c.2 n c.1)=(nums c n).map nD:=by
 unfold pe nums;rw[cE];refine fh fun i _=>?_;show D.int _=D.int ((c.2.toNat+i*c.1.toNat:Nat):Int);congr 1;have:=h.1;have:=h.2.1;rw[Int.natCast_add,oY,gu (by lia),gu (by lia)]
theorem vK{c:aH}(h:Valid c){n x:Nat}:x∈nums c n↔x<n/\rg x c=true:=by
 obtain⟨h1,h2,h3⟩:=h;unfold nums;rw[ah];obtain⟨s,hs⟩:∃s:Nat,c.1=(s:Int):=⟨c.1.toNat,by lia⟩;obtain⟨r,hr⟩:∃r:Nat,c.2=(r:Int):=⟨c.2.toNat,by lia⟩;have hrg:rg x c=true↔x%s=r:=by
  show ((x:Int)%c.1==c.2)=true↔_;rw[beq_iff_eq,hs,hr];constructor
  ·intro e;exact_mod_cast e
  ·intro e;exact_mod_cast e
 rw[hrg];have s0:0<s:=by lia
 have rs:r<s:=by lia
 have hc:∀i,i<iF c.2 n c.1↔r+i*s<n:=fun i=>by
  unfold iF;rw[hs,hr];split
  ·rename_i hlt;have hrn:r<n:=by lia
   rw[show ((n:Int)-(r:Int)-1) / (s:Int)+1=(((n-r-1) / s+1:Nat):Int) by
    rw[Int.natCast_add,kn,show ((n-r-1:Nat):Int)=(n:Int)-(r:Int)-1 by lia];rfl,bR,Nat.lt_succ_iff,Nat.le_div_iff_mul_le s0]
   lia
  ·rename_i hlt;have:¬r<n:=by lia
   constructor
   ·intro z;exact absurd z (Nat.not_lt_zero _)
   ·intro z;lia
 rw[hs,hr,bR,bR];constructor
 ·rintro⟨i,hi,rfl⟩;have hi:=aE.mp hi;rw[←hs,←hr] at hi;refine⟨(hc i).mp hi,?_⟩;rw[Nat.add_mul_mod_self_right,Nat.mod_eq_of_lt rs]
 ·rintro⟨hx,e⟩;have hd:s*(x / s)+x%s=x:=Nat.div_add_mod x s;refine⟨x / s,?_,?_⟩
  ·rw[aE,←hs,←hr,hc,jn];lia
  ·rw[jn];lia
theorem OT{c:aH}(h:Valid c)(n:Nat):(nums c n).Nodup:=by
 unfold nums;unfold List.Nodup;rw[cm];refine t7 ?_ (List.nodup_range (n:=iF c.2 n c.1));intro a b hab e;have:=h.1;have h0:0<c.1.toNat:=by lia
 exact hab (Nat.eq_of_mul_eq_mul_right h0 (by lia))
def gI(cs:List aH)(x:Nat):Nat:=(cs.filter (rg x)).length
def gY(f:Nat->Nat)(n:Nat):List D:=(ag n).map fun x=>nD (f x)
theorem zh(f:Nat->Nat)(n:Nat):(gY f n).length=n:=by simp[gY]
theorem HB{f:Nat->Nat}{n x:Nat}(h:x<n):kr (gY f n) (x:Int)=some (nD (f x)):=zS (by
 unfold gY;rw[aJ,gs h];rfl)
theorem OS{f:Nat->Nat}{n x v:Nat}(h:x<n):(gY f n).set x (nD v)=gY (fun y=>if y=x then v else f y) n:=by
 unfold gY;apply jS;intro i;rw[List.getElem?_set];by_cases hi:i<n
 ·by_cases hx:x=i
  ·subst hx;simp[h]
  ·have:¬i=x:=fun z=>hx z.symm;simp[hi,hx,this]
 ·have:¬x=i:=fun z=>hi (by lia);simp[hi,this]
theorem Hz{f g:Nat->Nat}{n:Nat}(h:∀x,x<n->f x=g x):gY f n=gY g n:=by
 unfold gY;refine fh fun x hx=>?_;rw[h x (aE.mp hx)]
theorem OR{n x:Nat}(h:x<n):sL n (x:Int)=some x:=by
 unfold sL;simp[h]
def OQ:dC:=fun ds G Q=>∃(cs:List aH) (n:Nat),ds=[dQ cs,.int n]/\jk 1000 cs/\cs.length≤1000/\n≤10000/\∀p G',fc G p (.lst (gY (gI cs) n)) G'->Q (.obj p) G'
def OP:ar:=wx (π 2) (π 5) (eC (.int 1)) (· + ·)
def OO:ar:=iD (u9 (ξ (π 4) (ξ (π 1) (ξ (π 3) (aa))))) (hName 5) (OP)
def ON:ar:=bS (π 2)
def OM:ar:=bz (iD (i6 (π 0)) (nS 2 (gU (hName 3) (gU (hName 4) (qY)))) (OO)) ON
def OL:ar:=bz (cb (bc kF (i9 (ξ (eC (.int 0)) (aa))) (π 1)) (hName 2)) OM
def OK:ar:=bz (tL (bt OU (ξ (π 1) (ξ (eC (.int 10000)) (aa))))) OL
theorem zeros(n:Nat):(bj n [D.int 0]).flatten=gY (fun _=>0) n:=by
 unfold gY
 induction n with
 |zero=>rfl
 |succ n ih=>
  rw[List.replicate_succ',List.flatten_append,ih,List.range_succ,dg];rfl
theorem OJ(c:aH)(cs:List aH)(x:Nat):gI (c::cs) x=(if rg x c=true then 1 else 0)+gI cs x:=by
 unfold gI;rw[List.filter_cons];split
 ·rw[aj];lia
 ·lia
theorem OI:∀ds G Q,OQ ds G Q->OK (aT Q) (aO ["clocks","many","counts","step","rest","number"] ds) G:=by
 rintro ds G Q ⟨cs,n,rfl,ok,hl,hn,q⟩;refine⟨n,10000,rfl,by lia,?_⟩;intro p0 G0 n0;refine⟨_,n0.at_,⟨by lia,by lia⟩,?_,fun p G1 n1=>?_⟩
 ·rw[bR];exact aG (show 1*n≤10000 by lia) (by decide)
 rw[bR,zeros] at n1;have m1:fc G p (.lst (gY (fun _=>0) n)) G1:=⟨n0.sub.of_none n1.az,n0.sub.trans n1.sub,n1.at_⟩;refine mw (fun ds τ G'=>∃(zs:List aH) (f:Nat->Nat) (x3 x4 x5:Option D),ds=zs.map cD/\τ=[some (dQ cs),some (.int n),some (.obj p),x3,x4,x5]/\fc G p (.lst (gY f n)) G'/\(∀z∈zs,z∈cs)/\∀x,f x+gI zs x=gI cs x) (fun _ _ _ _=>trivial) ?_ ?_ _ _ _ ⟨cs,fun _=>0,none,none,none,rfl,rfl,m1,fun _ h=>h,fun x=>Nat.zero_add _⟩
 ·rintro d ds τ G' N ⟨zs,f,x3,x4,x5,e,rfl,m2,hm,hf⟩ hN;cases zs with
  |nil=>cases e
  |cons c zs=>
   cases e;obtain⟨hv,h1000⟩:=ok c (hm c Δ);have v1:=hv.1;have v2:=hv.2.1;have v3:=hv.2.2;refine⟨rfl,⟨by lia,by lia,by lia,by lia,v1,by lia⟩,?_⟩;show jB _ _ _ _ (pe c.2 c.1 (iF c.2 n c.1)) _ _;rw[HC hv];refine mw (fun ds τ G'=>∃(ms:List Nat) (g:Nat->Nat) (x5:Option D),ds=ms.map nD/\τ=[some (dQ cs),some (.int n),some (.obj p),some (.int c.1),some (.int c.2),x5]/\fc G p (.lst (gY g n)) G'/\ms.Nodup/\(∀x∈ms,x<n/\rg x c=true)/\∀x,x<n->g x=f x+(if rg x c=true/\x∉ms then 1 else 0)) (fun _ _ _ _=>trivial) ?_ ?_ _ _ _ ⟨nums c n,f,x5,rfl,rfl,m2,OT hv n,fun x hx=>(vK hv).mp hx,fun x hx=>?_⟩
   ·rintro d ds τ G2 N2 ⟨ms,g,x5,e,rfl,m3,nd,hr,hg⟩ hN2;cases ms with
    |nil=>cases e
    |cons x ms=>
     cases e;have nd':=df.mp nd;obtain⟨hx,hrx⟩:=hr x Δ;refine⟨_,_,m3.at_,HB hx,?_⟩;refine⟨_,x,m3.at_,?_,?_⟩
     ·rw[zh];exact OR hx
     ·refine hN2 _ _ ⟨ms,fun y=>if y=x then g x+1 else g y,_,rfl,rfl,⟨m3.az,Sub.Ck m3.sub m3.az,?_⟩,nd'.2,fun y hy=>hr y (ω _ hy),fun y hy=>?_⟩
      ·rw[lF,←OS hx];rfl
      ·have:=hg y hy;by_cases hyx:y=x
       ·subst hyx;rw[if_neg (fun z=>z.2 Δ)] at this;rw[if_pos (⟨hrx,nd'.1⟩:rg y c=true/\y∉ms)];show (if y=y then g y+1 else g y)=f y+1;rw[if_pos rfl,this]
       ·show (if y=x then g x+1 else g y)=_;rw[if_neg hyx,this];have:y∉x::ms↔y∉ms:=by simp[hyx]
        simp only[this]
   ·rintro τ G2 ⟨ms,g,x5,e,rfl,m3,nd,hr,hg⟩;have e0:ms=[]:=by cases ms with
     |nil=>rfl
     |cons z zs=>cases e
    subst e0;refine hN _ _ ⟨zs,fun x=>f x+(if rg x c=true then 1 else 0),_,_,_,rfl,rfl,?_,fun z hz=>hm z (ω _ hz),fun x=>?_⟩
    ·rw[Hz (g:=g) fun x hx=>?_]
     ·exact m3
     ·rw[hg x hx];simp
    ·have:=hf x;rw[OJ] at this;show f x+(if rg x c=true then 1 else 0)+gI zs x=gI cs x;lia
   ·rw[if_neg]
    ·rfl
    ·rintro⟨z1,z2⟩;exact z2 ((vK hv).mpr ⟨hx,z1⟩)
 ·rintro τ G' ⟨zs,f,x3,x4,x5,e,rfl,m2,hm,hf⟩;have e0:zs=[]:=by cases zs with
   |nil=>rfl
   |cons z zs=>cases e
  subst e0;refine du (q p G' ?_);rw[Hz (g:=f) fun x _=>by have:=hf x;have e:gI [] x=0:=rfl;lia];exact m2
def oN:Option Nat->D
 |none=>.az
 |some x=>nD x
def vJ:dC:=fun ds G Q=>∃(c:aH) (p:ε) (f:Nat->Nat) (n m:Nat),ds=[cD c,.obj p,.int m]/\G p=some (.lst (gY f n))/\Valid c/\c.1≤1000000/\n≤10000/\Q (oN ((nums c n).find? fun x=>f x==m)) G
def OH:ar:=jV (bQ (bc (fv false) (bc fj (π 1) (π 3)) (π 2))) (bS (π 3)) (ft)
def OG:ar:=bS (eC .az)
def Hy:ar:=bz (iD (u9 (ξ (bc fj (π 0) (eC (.int 1))) (ξ (dS lq (ξ (π 1) (aa))) (ξ (bc fj (π 0) (eC (.int 0))) (aa))))) (hName 3) (OH)) OG
theorem Pg:∀ds G Q,vJ ds G Q->Hy (aT Q) (aO ["clock","counts","many","number"] ds) G:=by
 rintro ds G Q ⟨c,p,f,n,m,rfl,hp,hv,hb,hn,q⟩;have v1:=hv.1;have v2:=hv.2.1;have v3:=hv.2.2;refine⟨_,rfl,_,hp,_,rfl,⟨by lia,by lia,by rw[zh];lia,by rw[zh];lia,v1,by lia⟩,?_⟩;show jB _ _ _ _ (pe c.2 c.1 (iF c.2 (((gY f n).length:Nat):Int) c.1)) _ _;rw[zh,HC hv];refine mw (fun ds τ G'=>G'=G/\∃(ms:List Nat) (x3:Option D),ds=ms.map nD/\τ=[some (cD c),some (.obj p),some (.int m),x3]/\(∀x∈ms,x<n)/\ms.find? (fun x=>f x==m)=(nums c n).find? fun x=>f x==m) (fun _ _ _ _=>trivial) ?_ ?_ _ _ _ ⟨rfl,nums c n,none,rfl,rfl,fun x hx=>((vK hv).mp hx).1,rfl⟩
 ·rintro d ds τ G' N ⟨eg,ms,x3,e,rfl,hm,hf⟩ hN;cases ms with
  |nil=>cases e
  |cons x ms=>
   cases e;rw[List.find?_cons] at hf;refine⟨_,_,by rw[eg];exact hp,HB (hm x Δ),_,_,rfl,rfl,aY _,fun h=>?_,fun h=>?_⟩
   ·have h':(((f x:Nat):Int)==(m:Int))=true:=h;have e2:f x=m:=by
     rw[beq_iff_eq] at h';exact_mod_cast h'
    rw[show (f x==m)=true by rw[e2,beq_self_eq_true]] at hf;rw[←hf] at q;rw[eg];exact du q
   ·have h':(((f x:Nat):Int)==(m:Int))=false:=h;have e2:(f x==m)=false:=by
     cases e3:f x==m with
     |false=>rfl
     |true=>
      rw[beq_iff_eq] at e3;rw[e3,beq_self_eq_true] at h';cases h'
    rw[e2] at hf;exact hN _ _ ⟨eg,ms,_,rfl,rfl,fun y hy=>hm y (ω _ hy),hf⟩
 ·rintro τ G' ⟨eg,ms,x3,e,rfl,hm,hf⟩;cases ms with
  |cons x ms=>cases e
  |nil=>
   have hf:none=(nums c n).find? fun x=>f x==m:=hf;rw[←hf] at q;rw[eg];exact du q
end My
namespace My
open PySem L2 L3
def Lh(cs:List aH)(c:aH):Option Nat:=(nums c (bO (cs++[c]))).find? fun x=>gI cs x==0
def sN(cs:List aH):Option Nat:=(ag (bO cs)).find? fun x=>gI cs x==0
theorem CV(cs:List aH):bO (cs++[(1,0)])=bO cs:=by
 unfold bO qz;rw[List.foldl_append];show gz _ 1=_;rw[Nat.lcm_one_right]
theorem Pf(n:Nat):nums (1,0) n=ag n:=by
 have e:iF 0 (n:Int) 1=n:=by
  unfold iF;split
  ·rw[Int.ediv_one];lia
  ·lia
 unfold nums;show (ag (iF 0 (n:Int) 1)).map (fun i=>0+i*1)=_;rw[e];refine (fh fun i _=>?_).trans (List.map_id _);show 0+i*1=i;lia
theorem Pe(cs:List aH):Lh cs (1,0)=sN cs:=by
 unfold Lh sN;rw[CV,Pf]
theorem Pd{cs:List aH}(ok:jk 1000 cs):jk 1000 (cs++[(1,0)]):=fun z hz=>by
 rcases bp.mp hz with h|h
 ·exact ok z h
 ·have:z=(1,0):=by simpa using h
  subst this;exact⟨⟨by decide,by decide,by decide⟩,by decide⟩
end My
namespace My
open PySem L2 L3
def kK(n:Nat):D->Bool
 |.int i=>decide (0≤i)&&decide (i<n)
 |_=>false
def xO:dC:=fun ds G Q=>∃(cs:List aH) (d:D),ds=[dQ cs,d]/\Known G d/\Q (.bl (kK cs.length d)) G
def Hx:ar:=bS (tP (bt si (ξ (π 1) (aa))) (qd wZ qA (eC (.int 0)) (π 1) (dS lq (ξ (π 0) (aa)))))
theorem Pc:∀ds G Q,xO ds G Q->Hx (aT Q) (aO ["things","thing"] ds) G:=by
 rintro ds G Q ⟨cs,d,rfl,hk,q⟩;refine⟨hk,?_⟩;cases d with
 |int i=>
  refine⟨fun _=>⟨fun h=>?_,fun h=>?_⟩,nofun⟩
  ·have h':decide ((0:Int)≤i)=true:=h;have e:kK cs.length (.int i)=decide (i<(cs.length:Nat)):=by
    show (decide (0≤i)&&decide (i<(cs.length:Nat)))=_;rw[h',Bool.true_and]
   rw[e] at q;show (aT Q).rt (.bl (decide (i<((cs.map cD).length:Nat)))) G;rw[ν];exact du q
  ·have h':decide ((0:Int)≤i)=false:=h;have e:kK cs.length (.int i)=false:=by
    show (decide (0≤i)&&decide (i<(cs.length:Nat)))=_;rw[h',Bool.false_and]
   rw[e] at q;exact du q
 |_=>exact⟨nofun,fun _=>du q⟩
end My
namespace My
open PySem L2 L3
theorem zg{cs:List aH}{z:aH}(h:z∈cs):z.1.toNat∣bO cs:=O3 h
theorem Pb{z:aH}(hz:0<z.1){N:Nat}(hd:z.1.toNat∣N)(x t:Int):rg (x+t*N) z=rg x z:=by
 have:z.1∣t*(N:Int):=by
  have h:=gv.mpr hd;rw[gu (by lia)] at h;exact Int.dvd_mul_of_dvd_right h
 unfold rg;rw[Int.add_emod,Int.emod_eq_zero_of_dvd this,Int.add_zero,Int.emod_emod]
theorem Pa{z:aH}(hz:0<z.1){N:Nat}(hd:z.1.toNat∣N)(x:Nat):rg ((x%N:Nat):Int) z=rg x z:=by
 have e:(x:Int)=((x%N:Nat):Int)+((x / N:Nat):Int)*N:=by
  have:=Nat.mod_add_div x N;rw[jn] at this;exact_mod_cast this.symm
 rw[e,Pb hz hd]
theorem CU{cs:List aH}(h:∀z∈cs,0<z.1):0<bO cs:=by
 have:∀(cs:List aH) (a:Nat),(∀z∈cs,0<z.1)->0<a->0<qz cs a:=by
  intro cs
  induction cs with
  |nil=>intro a _ h;exact h
  |cons z zs ih=>
   intro a hz ha;refine ih _ (fun y hy=>hz y (ω _ hy)) (ug ha ?_);have:=hz z Δ;lia
 exact this cs 1 h (by decide)
end My
namespace My
open PySem L2 L3
def vH:kv:=fun ds Q E=>∃(a b:Int),ds=[.int a,.int b]/\(a≤b->Q .az dk)/\(b<a->E "TooGreat" [("many",a),("most",b)])
def Hw(E:E3):ar:=jV (bQ (bc za (π 0) (π 1))) (wW "TooGreat" ["many","most"] E (ξ (π 0) (ξ (π 1) (aa)))) (ft)
theorem O9:∀ds Q E,vH ds Q E->Hw E (aT Q) (aO ["many","most"] ds) dk:=by
 rintro ds Q E ⟨a,b,rfl,q1,q2⟩;refine⟨fun h=>?_,fun h=>⟨dk,Sub.refl _,q1 ?_⟩⟩
 ·have h':a > b:=of_decide_eq_true h;exact⟨[a,b],rfl,rfl,q2 h'⟩
 ·have h':¬a > b:=of_decide_eq_false h;omega
theorem nL(G:Gp):Sub dk G:=fun _ _ e=>nomatch e
abbrev MU(a b:Int):GO:=.gen (i7 "TooGreat" [("many",a),("most",b)])
def vG(rs:List ι):dC:=fun ds G Q=>∃(p:ε) (a b:Int),ds=[.obj p]/\G p=some (MU a b)/\("TooGreat":ι)∈rs/\∀G',Sub G G'->Q (.str "great") G'
def O8(rs:List ι):ar:=bS (sQ (ξ (eC (.str "clock")) (ξ (eC (.str "number")) (ξ (eC (.str "place")) (ξ (eC (.str "row")) (ξ (eC (.str "clocks")) (ξ (eC (.str "text")) (ξ (eC (.str "great")) (aa)))))))) (eM C6 (π 1) (ξ (eC (.bl true)) (aa))))
def O7(rs:List ι):ar:=bz (jV (qc (kh (bQ (Ef rs (π 0)))) (bQ (bc (fv true) (eM DK (π 1) (ξ (eC (.bl true)) (aa))) (eC (.int 1))))) (bS (eC (.str "other"))) (ft)) (O8 rs)
def Ov(rs:List ι):ar:=bz (cb (bc eQ (π 1) (i9 (ξ (pS rs "NoClocks" (π 0)) (ξ (pS rs "NoText" (π 0)) (ξ (pS rs "TooGreat" (π 0)) (aa)))))) (hName 1)) (O7 rs)
def Hu(rs:List ι):ar:=bz (cb (i9 (ξ (pS rs "NoClock" (π 0)) (ξ (pS rs "NoNumber" (π 0)) (ξ (pS rs "NoPlace" (π 0)) (ξ (pS rs "NoRow" (π 0)) (aa)))))) (hName 1)) (Ov rs)
theorem Ou(rs:List ι):∀ds G Q,vG rs ds G Q->Hu rs (aT Q) (aO ["e","marks"] ds) G:=by
 rintro ds G Q ⟨p,a,b,rfl,hp,hr,q⟩;refine⟨_,_,hp,hr,_,_,hp,hr,_,_,hp,hr,_,_,hp,hr,fun p1 G1 n1=>?_⟩;have hp1:=n1.sub _ _ hp;have b1:(("TooGreat":ι)=="NoClock")=false:=by decide
 have b2:(("TooGreat":ι)=="NoNumber")=false:=by decide
 have b3:(("TooGreat":ι)=="NoPlace")=false:=by decide
 have b4:(("TooGreat":ι)=="NoRow")=false:=by decide
 have b5:(("TooGreat":ι)=="NoClocks")=false:=by decide
 have b6:(("TooGreat":ι)=="NoText")=false:=by decide
 have b7:(("TooGreat":ι)=="TooGreat")=true:=by decide
 rw[b1,b2,b3,b4] at n1;refine⟨_,_,hp1,hr,_,_,hp1,hr,_,_,hp1,hr,fun p2 G2 n2=>?_⟩;rw[b5,b6,b7] at n2;have hp2:=n2.sub _ _ hp1;refine⟨_,_,n2.sub _ _ n1.at_,n2.at_,by decide,fun p3 G3 n3=>?_⟩;have hp3:=n3.sub _ _ hp2;refine⟨_,_,hp3,hr,fun h=>(nomatch h),fun _=>?_⟩;refine⟨⟨p3,_,rfl,n3.at_⟩,_,[false,false,false,false,false,false,true],n3.at_,rfl,_,_,rfl,rfl,aY _,fun h=>?_,fun _=>?_⟩
 ·exact absurd h (by decide)
 refine⟨⟨p3,_,rfl,n3.at_⟩,_,[false,false,false,false,false,false,true],6,n3.at_,rfl,rfl,fun i hi=>?_,by decide,.str "great",rfl,du (q G3 ((n1.sub.trans n2.sub).trans n3.sub))⟩
 match i,hi with
 |0,_=>rfl
 |1,_=>rfl
 |2,_=>rfl
 |3,_=>rfl
 |4,_=>rfl
 |5,_=>rfl
def xN(rs:List ι):dC:=fun ds G Q=>∃(p:ε) (a b:Int),ds=[.obj p]/\G p=some (MU a b)/\("TooGreat":ι)∈rs/\∀G',Sub G G'->Q (.tup [.str "great",.int a,.int b]) G'
def Ot(rs:List ι):ar:=bS (eF (ξ (eC (.str "great")) (ξ (tO rs "many" (π 0)) (ξ (tO rs "most" (π 0)) (aa)))))
def Ht(rs:List ι):ar:=bz (jV (qc (bQ (bc (fv true) (bt (vG rs) (ξ (π 0) (aa))) (eC (.str "great")))) (qc (kh (bQ (bt ux (ξ (tO rs "many" (π 0)) (aa))))) (kh (bQ (bt ux (ξ (tO rs "most" (π 0)) (aa))))))) (bS (eF (ξ (bt (vG rs) (ξ (π 0) (aa))) (aa)))) (ft)) (Ot rs)
theorem Oq(rs:List ι):∀ds G Q,xN rs ds G Q->Ht rs (aT Q) (aO ["e"] ds) G:=by
 rintro ds G Q ⟨p,a,b,rfl,hp,hr,q⟩;refine⟨p,a,b,rfl,hp,hr,fun G1 s1=>⟨_,_,rfl,rfl,aY _,fun h=>?_,fun _=>?_⟩⟩
 ·exact absurd h (by decide)
 have hp1:=s1 _ _ hp;refine⟨_,_,a,hp1,hr,rfl,trivial,fun h=>(nomatch h),fun _=>⟨_,_,b,hp1,hr,rfl,trivial,fun h=>(nomatch h),fun _=>?_⟩⟩;exact⟨_,_,a,hp1,hr,rfl,_,_,b,hp1,hr,rfl,du (q G1 s1)⟩
end My
namespace My
open PySem L2 L3
theorem Oo{a b:aH}(h:EV a b)(h2:EV b a):False:=by
 rcases h with h|⟨h,h'⟩<;>rcases h2 with g|⟨g,g'⟩<;>lia
end My
namespace My
open PySem L2 L3
theorem Om{cs:List aH}(h:rb cs):cs.Nodup:=h.imp fun {a b} q e=>by
 subst e;exact Oo q q
end My
namespace L3
open PySem PySem.Spec PyProof.Rows L2
def gT:HO->Bool
 |.lst _=>true
 |.ext _=>true
 |_=>false
def cH(h:Ξ)(H:Hp):Hp:=fun a=>match H a with
 |some o=>if gT o then (h.get? a).map fun ob=>.cN ob o else if eP o then some o else none
 |none=>none
section
variable {P:Ψ} {w:af} {H H':Hp} {h h':Ξ} {a b:ε} {o:HO} {fs:List ε} {ob:aA}
theorem Ol(v:eP o=true):gT o=false:=by
 cases o with
 |lst xs=>cases v
 |ext φ=>cases v
 |_=>rfl
theorem vF(e:H a=none):cH h H a=none:=by unfold cH;rw[e]
theorem nK(e:H a=some o)(v:eP o=true):cH h H a=some o:=by
 unfold cH;rw[e];show (if gT o=true then _ else if eP o=true then some o else none)=_;rw[if_neg (by rw[Ol v];exact ak),if_pos v]
theorem CT(e:H a=some o)(v:eP o=false)(n:gT o=false):cH h H a=none:=by
 unfold cH;rw[e];show (if gT o=true then _ else if eP o=true then some o else none)=_;rw[if_neg (by rw[n];exact ak),if_neg (by rw[v];exact ak)]
theorem xM(e:H a=some o)(n:gT o=true)(q:h.get? a=some ob):cH h H a=some (.cN ob o):=by
 unfold cH;rw[e];show (if gT o=true then (h.get? a).map _ else if eP o=true then some o else none)=_;rw[if_pos n,q];rfl
theorem Hs(e:cH h H a=some o):(H a=some o/\eP o=true)∨∃u ob,H a=some u/\gT u=true/\h.get? a=some ob/\o=.cN ob u:=by
 cases q:H a with
 |none=>rw[vF q] at e;cases e
 |some u=>
  cases n:gT u with
  |true=>
   cases g:h.get? a with
   |none=>
    unfold cH at e;rw[q] at e;have e':(if gT u=true then (h.get? a).map fun ob=>HO.cN ob u else if eP u=true then some u else none)=some o:=e;rw[if_pos n,g] at e';cases e'
   |some ob=>
    rw[xM q n g] at e;exact .inr ⟨u,ob,rfl,n,rfl,(ao e).symm⟩
  |false=>
   cases v:eP u with
   |true=>
    rw[nK q v] at e;cases e;exact .inl ⟨rfl,v⟩
   |false=>
    rw[CT q v n] at e;cases e
theorem Hr(e:cH h H a=some o):eP o=true:=by
 rcases Hs e with⟨_,v⟩|⟨u,ob,_,n,_,rfl⟩
 ·exact v
 ·cases u with
  |lst xs=>rfl
  |ext φ=>rfl
  |_=>cases n
theorem Oj(ok:dJ P w H h):dJ P w (cH h H) h:=fun a o e=>by
 rcases Hs e with⟨e1,v⟩|⟨u,ob,e1,n,q,rfl⟩
 ·exact Iy v (ok a o e1)
 ·cases u with
  |lst xs=>
   obtain⟨z,its,n,r,p⟩:=ok a _ e1;exact⟨q,z,its,n,r,p⟩
  |ext φ=>exact⟨q,ok a _ e1⟩
  |_=>cases n
variable (ok:dJ P w H h) (hfs:∀b∈fs,H b=none) (u:Un fs [] (cH h H) H' h h') (ok':dJ P w H' h')
include ok u
theorem EU(e:H b=some o)(v:eP o=false)(n:gT o=false):H' b=none:=by
 obtain⟨ob,q⟩:=bH.there (ok b o e);exact u.free b ob q (CT e v n) (by simp)
theorem K7(e:H b=some o)(n:gT o=true):∃ob,h.get? b=some ob/\H' b=some (.cN ob o):=by
 obtain⟨ob,q⟩:=bH.there (ok b _ e);exact⟨ob,q,u.gZ b ob _ (xM e n q)⟩
theorem qV(e:H' b=some o)(n:∀ob u,gT u=true->o≠.cN ob u):joined H H' b=some o:=by
 cases q:H b with
 |none=>rw[pK q];exact e
 |some x=>
  cases v:eP x with
  |true=>rw[qD q v];exact e
  |false=>
   cases l:gT x with
   |true=>
    obtain⟨ob,_,z⟩:=K7 ok u q l;rw[z] at e;exact absurd (ao e).symm (n ob x l)
   |false=>
    rw[EU ok u q v l] at e;cases e
include hfs ok'
theorem CS:Un fs [] H (joined H H') h h'/\dJ P w (joined H H') h':=by
 have kept:∀b x ob,H b=some x->eP x=false->h.get? b=some ob->h'.get? b=some ob:=fun b x ob e v q=>by
  cases l:gT x with
  |true=>
   obtain⟨ob',q',z⟩:=K7 ok u e l;rw[q] at q';cases q';exact (ok' b _ z).1
  |false=>exact u.keep b ob q (CT e v l) (fun z=>by rw[hfs b z] at e;cases e) (by simp)
 refine⟨⟨fun b ob q n h3 h4=>u.keep b ob q (vF n) h3 h4,fun b ob q n h3 h4=>u.slot b ob q (vF n) h3 h4,fun b ob q n h3=>by rw[pK n];exact u.free b ob q (vF n) h3,
  fun b ob q h3=>u.there b ob q h3,fun b xs e=>qV ok u (u.gX b xs (nK e rfl)) (fun _ u n z=>by cases z),fun b ob x e=>?_,fun b ps e=>⟨#[],by rw[tG];exact kH e rfl⟩⟩,fun b x e=>?_⟩
 ·cases v:eP (.cN ob x) with
  |true=>
   rw[qD e v];exact u.gZ b ob x (nK e v)
  |false=>exact kH e v
 ·have mono:H' b=some x->bH P w (joined H H') h' b x:=fun z=>(ok' b x z).kf (fun _ _ _ q=>q) (fun c q=>qV ok u q fun _ u n z=>by cases z) (fun c xs q=>qV ok u q fun _ u n z=>by cases z);cases q:H b with
  |none=>
   rw[pK q] at e;exact mono e
  |some y=>
   cases v:eP y with
   |true=>
    rw[qD q v] at e;exact mono e
   |false=>
    rw[kH q v] at e;obtain rfl:=ao e;refine (ok b _ q).kf (fun c ob hc z=>?_) (fun c z=>kH z rfl) (fun c xs z=>qV ok u (u.gX c xs (nK z rfl)) fun _ u n z=>by cases z);rcases hc with rfl|hc
    ·exact kept _ _ _ q v z
    ·exact kept _ _ _ hc rfl z
end
mutual
def mU:D->Bool
 |.tup ds=>sC ds
 |.eN _=>false
 |.dc _=>false
 |_=>true
def sC:List D->Bool
 |[]=>true
 |d::ds=>mU d&&sC ds
end
def GO.mU:GO->Prop
 |.lst ds=>sC ds=true
 |.gen _=>False
 |_=>True
def mY(G:Gp):Prop:=∀a o,G a=some o->GO.mU o
theorem mY.no:mY dk:=fun _ _ e=>nomatch e
def lZ(G:Gp):D->D
 |.obj p=>match G p with
  |some (.lst xs)=>.eN xs
  |some .eD=>.dc p
  |_=>.obj p
 |d=>d
section
variable {K:PySem.W.Frag} {H H':Hp} {h:Ξ}
theorem bZ.cH{a:ε}{xs:List V}(q:bZ K H a xs):bZ K (cH h H) a xs:=by
 rcases q with (q|⟨o,q⟩)|q
 ·exact .inl (.inl (nK q rfl))
 ·exact .inl (.inr ⟨o,nK q rfl⟩)
 ·exact .inr q
theorem ku.cH{a:ε}{xs:List V}(q:ku K H a xs):ku K (cH h H) a xs:=by
 rcases q with⟨o,q⟩|q
 ·exact .inl ⟨o,nK q rfl⟩
 ·exact .inr q
mutual
theorem Hv.cH:∀{d:D} {v:V},Hv K H d v->Hv K (cH h H) d v
 |.az,_,q=>by simpa [Hv] using q
 |.bl _,_,q=>by simpa [Hv] using q
 |.int _,_,q=>by simpa [Hv] using q
 |.str _,_,q=>by simpa [Hv] using q
 |.obj _,_,q=>by simpa [Hv] using q
 |.dc a,v,q=>by
  unfold Hv at q ⊢;obtain⟨e,ob,φ,q,c⟩:=q;exact⟨e,ob,φ,nK q rfl,c⟩
 |.tup ds,v,q=>by
  unfold Hv at q ⊢;obtain⟨a,vs,e,q,r⟩:=q;exact⟨a,vs,e,bZ.cH q,aw.cH r⟩
 |.eN ds,v,q=>by
  unfold Hv at q ⊢;obtain⟨a,vs,e,q,r⟩:=q;exact⟨a,vs,e,ku.cH q,aw.cH r⟩
theorem aw.cH:∀{ds:List D} {vs:List V},aw K H ds vs->aw K (cH h H) ds vs
 |[],_,q=>by simpa [aw] using q
 |d::ds,vs,q=>by
  unfold aw at q ⊢;obtain⟨v,r,e,q,z⟩:=q;exact⟨v,r,e,Hv.cH q,aw.cH z⟩
end
mutual
theorem Hv.bare(t:∀a xs,H a=some (.tup xs)->H' a=some (.tup xs))(f:∀a o xs,H a=some (.cN o (.tup xs))->H' a=some (.cN o (.tup xs))):∀{d:D} {v:V},mU d=true->Hv K H d v->Hv K H' d v
 |.az,_,_,q=>by simpa [Hv] using q
 |.bl _,_,_,q=>by simpa [Hv] using q
 |.int _,_,_,q=>by simpa [Hv] using q
 |.str _,_,_,q=>by simpa [Hv] using q
 |.obj _,_,_,q=>by simpa [Hv] using q
 |.tup ds,v,n,q=>by
  unfold Hv at q ⊢;unfold mU at n;obtain⟨a,vs,e,q,r⟩:=q;refine⟨a,vs,e,?_,aw.bare t f n r⟩;rcases q with (q|⟨o,q⟩)|q
  ·exact .inl (.inl (t _ _ q))
  ·exact .inl (.inr ⟨o,f _ _ _ q⟩)
  ·exact .inr q
 |.eN ds,v,n,q=>by
  unfold mU at n;cases n
 |.dc a,v,n,q=>by
  unfold mU at n;cases n
theorem aw.bare(t:∀a xs,H a=some (.tup xs)->H' a=some (.tup xs))(f:∀a o xs,H a=some (.cN o (.tup xs))->H' a=some (.cN o (.tup xs))):∀{ds:List D} {vs:List V},sC ds=true->aw K H ds vs->aw K H' ds vs
 |[],_,_,q=>by simpa [aw] using q
 |d::ds,vs,n,q=>by
  unfold aw at q ⊢;unfold sC at n;rw[bF] at n;obtain⟨v,r,e,q,z⟩:=q;exact⟨v,r,e,Hv.bare t f n.1 q,aw.bare t f n.2 z⟩
end
theorem Hq{G:Gp}{p:ε}{xs:List D}(e:G p=some (.lst xs)):lZ G (.obj p)=.eN xs:=by
 show (match G p with|some (.lst xs)=>D.eN xs|some .eD=>D.dc p|_=>D.obj p)=_
 rw[e]
theorem Ho{G:Gp}{p:ε}(e:G p=some .eD):lZ G (.obj p)=.dc p:=by
 show (match G p with|some (.lst xs)=>D.eN xs|some .eD=>D.dc p|_=>D.obj p)=_
 rw[e]
theorem Oi{G:Gp}{p:ε}(e:∀xs,G p≠some (.lst xs))(e2:G p≠some .eD):lZ G (.obj p)=.obj p:=by
 show (match G p with|some (.lst xs)=>D.eN xs|some .eD=>D.dc p|_=>D.obj p)=_
 cases q:G p with
 |none=>rfl
 |some g=>cases g with
  |lst xs=>exact absurd q (e xs)
  |eD=>exact absurd q e2
  |_=>rfl
theorem Oh{P:Ψ}{w:af}{G:Gp}(ok:dJ P w H h)(R:aD K G H){d:D}{v:V}(q:Hv K H d v):Hv K (cH h H) (lZ G d) v:=by
 cases d with
 |obj p=>
  by_cases e:∃xs,G p=some (.lst xs)
  ·obtain⟨xs,e⟩:=e;rw[Hq e];obtain⟨vs,e1,e2⟩:=R p _ e;obtain⟨ob,e3⟩:=bH.there (ok p _ e1);rw[hJ q];unfold Hv;exact⟨p,vs,rfl,.inl ⟨ob,xM e1 rfl e3⟩,e2.cH⟩
  by_cases e':G p=some .eD
  ·rw[Ho e'];have e1:H p=some (.ext fun h=>∃o,h.get? p=some o/\o.cls=.type "dict"):=R p _ e';obtain⟨⟨ob,h1,h2⟩,_⟩:=(show bH P w H h p _ from ok p _ e1);unfold Hv;exact⟨hJ q,ob,_,xM e1 rfl h1,h2⟩
  ·rw[Oi (fun xs z=>e ⟨xs,z⟩) e'];exact q.cH
 |_=>exact q.cH
theorem Og{P:Ψ}{w:af}{G:Gp}(ok:dJ P w H h)(R:aD K G H):∀{ds:List D} {vs:List V},aw K H ds vs->aw K (cH h H) (ds.map (lZ G)) vs:=by
 intro ds
 induction ds with
 |nil=>intro vs q;cases q.gi;exact .nil
 |cons d ds ih=>
  intro vs q;obtain⟨v,r,rfl,z1,z2⟩:=q.inv;exact .cons (Oh ok R z1) (ih z2)
end
section
variable {X:Cx} {k:Nat} {f:ε} {fd:ae} {ps:List ι} {sp:kv} {E:E3} {x:ι} {p pos:ay} {e:ο} {es:List ο} {t:b9}
theorem Hn{K:PySem.W.Frag}{P:Ψ}{w:af}{fs:List ε}{H H':Hp}{h h':Ξ}{G1 G':Gp}{d:D}{v:V}(ok:dJ P w H h)(hfs:∀b∈fs,H b=none)(u:Un fs [] (cH h H) H' h h')(ok':dJ P w H' h')
  (R1:aD K G1 H) (hd:mU d=true) (hG:mY G') (hv:Hv K H' d v) (S:Step (cH h H) dk H' G') (R':aD K G' H'):
  Hv K (joined H H') d v/\Step H G1 (joined H H') (both G1 G')/\aD K (both G1 G') (joined H H')/\Joins G1 G' (both G1 G'):=by
 have t2:∀a xs,H' a=some (.tup xs)->joined H H' a=some (.tup xs):=fun a xs e=>qV ok u e fun _ u n z=>by cases z
 have f2:∀a o xs,H' a=some (.cN o (.tup xs))->joined H H' a=some (.cN o (.tup xs)):=fun a o xs e=>qV ok u e fun _ u n z=>by cases z;cases n
 have E1:Ext H (joined H H'):=by
  obtain⟨u2,_⟩:=CS ok hfs u ok';exact⟨u2.gX,u2.gZ⟩
 have outG:∀a,G' a≠none->H a=none:=fun a n=>by
  have z:cH h H a=none:=S.new a rfl n;cases q:H a with
  |none=>rfl
  |some o=>
   cases v:eP o with
   |true=>rw[nK q v] at z;cases z
   |false=>
    cases l:gT o with
    |true=>
     obtain⟨ob,e3⟩:=bH.there (ok a _ q);rw[xM q l e3] at z;cases z
    |false=>
     have:=EU ok u q v l;cases q':G' a with
     |none=>exact absurd q' n
     |some g=>
      obtain⟨o',z',_⟩:=(R' a g q').mut;rw[this] at z';cases z'
 have out1:∀a,G' a≠none->G1 a=none:=fun a n=>R1.free (outG a n);refine⟨hv.bare t2 f2 hd,⟨fun a o e n=>?_,fun a n=>?_,fun a n q=>?_⟩,fun a g e=>?_,⟨fun a o e=>by simp[both,e],fun a o e=>by simp[both,out1 a (by rw[e];simp),e],out1⟩⟩
 ·cases v:eP o with
  |true=>
   rw[qD e v];exact S.fr a o (nK e v) rfl
  |false=>exact kH e v
 ·cases q:H a with
  |none=>exact absurd q n
  |some o=>
   cases v:eP o with
   |true=>
    rw[qD q v];exact S.mE a (by rw[nK q v];simp)
   |false=>rw[kH q v];simp
 ·simp only[both,n] at q;exact outG a q
 ·cases q:G1 a with
  |some o=>
   simp only[both,q] at e;cases e;obtain⟨o',z,h1,h2⟩:=(R1 a g q).mut;have hv:eP o'=false:=by
    cases o' with
    |tup xs=>exact absurd rfl (h1 xs)
    |cN ob y=>exact absurd rfl (h2 ob y)
    |_=>rfl
   exact (R1 a g q).ext E1 (by rw[kH z hv,z])
  |none=>
   simp only[both,q] at e;have hn:=outG a (by rw[e];simp);have ha:joined H H' a=H' a:=pK hn;have hg:=hG a g e;cases g with
   |lst ds=>
    obtain⟨vs,e1,e2⟩:=R' a _ e;exact⟨vs,ha.trans e1,e2.bare t2 f2 hg⟩
   |kL=>
    obtain⟨i,j,l,e1,e2⟩:=R' a _ e;exact⟨i,j,l,ha.trans e1,e2⟩
   |eD=>exact ha.trans (R' a _ e)
   |gen R=>exact hg.elim
theorem LU{P:Ψ}{w:af}{H H':Hp}{fs:List ε}{h h':Ξ}(u:Un fs [] (cH h H) H' h h'):Step (cH h H) dk H' dk:=by
 have fr:∀a o,cH h H a=some o->H' a=some o:=fun a o e=>by
  have v:=Hr e;cases o with
  |tup xs=>exact u.gX a xs e
  |cN ob y=>exact u.gZ a ob y e
  |_=>cases v
 refine⟨fun a o e _=>fr a o e,fun a n=>?_,fun a _ q=>absurd rfl q⟩;cases q:cH h H a with
 |none=>exact absurd q n
 |some o=>rw[fr a o q];simp
theorem eS.cH{P:Ψ}{w:af}{K:PySem.W.Frag}{base:Ξ}{outer:List cB}{H:Hp}{s s':ζ}{G1:Gp}{ev:Value}(ok:dJ P w H s.heap)(hfs:∀b∈fb outer,H b=none)(R1:aD K G1 H)(h:eS P w base outer (cH s.heap H) s (ie K E) ev s'):
  eS P w base outer H s (uZ K E H G1) ev s':=by
 obtain⟨e,T,C,dx,H',rfl,os,bare,u,ok',tr,⟨hHe,hHT⟩,hen,⟨he0,hT0⟩,x,C',fs,ec,cn,q,dd⟩:=h;obtain⟨u2,ok2⟩:=CS ok hfs u ok';obtain⟨_,z2,z3,_⟩:=Hn (G':=dk) (d:=.az) (v:=.az) ok hfs u ok' R1 rfl mY.no (by simp[Hv]) (LU (P:=P) (w:=w) u) (fun _ _ e=>nomatch e);rw[Iu] at z2 z3;have out:∀b,s.heap.get? b=none->H' b=none->joined H H' b=none:=fun b hb hn=>by
  cases hq:H b with
  |none=>rw[pK hq];exact hn
  |some o=>
   obtain⟨ob,e'⟩:=bH.there (ok b o hq);rw[hb] at e';cases e'
 refine⟨e,T,C,dx,joined H H',rfl,os,bare,u2,ok2,tr,⟨out _ he0 hHe,out _ hT0 hHT⟩,hen,⟨he0,hT0⟩,⟨x,C',fs,ec,cn,q,?_⟩,z3,z2⟩;rcases dd with⟨d1,d2⟩|⟨d,o,d1,d2⟩
 ·exact .inl ⟨d1,d2⟩
 ·exact .inr ⟨d,o,d1,qV ok u d2 fun _ u n z=>by cases z;cases n⟩
def tJ(G1:Gp)(Q3:V3):V3:=fun d G'=>mU d=true/\mY G'/\∀G2,Joins G1 G' G2->Q3 d G2
theorem Hm{pins:List (ε×aA)}{σ:L2.St}{H:Hp}{s:ζ}{Q:VK}{G1:Gp}{Q3:V3}{ds:List D}{us:List Value}{vs:List V}{XE:Value->ζ->Prop}(F:lA X.prog X.w X.K X.mg X.base k f fd ps sp)(hr:dy k X.A)(hb:Binds X.K fd ps [])
  (hx:∀ev s',eS X.prog X.w X.base X.stack H s (uZ X.K E H G1) ev s'->XE ev s')
  (I:Inv X pins σ H s) (r:aS vs us) (hd:aw X.K H ds vs) (R1:aD X.K G1 H) (h:sp (ds.map (lZ G1)) (tJ G1 Q3) E) (kk:∀v H' d G',Hv X.K H' d v->Step H G1 H' G'->aD X.K G' H'->Q3 d G'->Q v H'):
  μ (model X.prog X.w) X.A (call (.ref f) us) (EP X pins σ Q) XE s:=by
 have hq:DV X.K sp vs (cH s.heap H) (fun v H'=>∃d G',Hv X.K H' d v/\Step (cH s.heap H) dk H' G'/\aD X.K G' H'/\tJ G1 Q3 d G') (ie X.K E):=
  ⟨ds.map (lZ G1),_,E,Og I.bf R1 hd,fun a o e=>Hr e,h,fun v H' d G' a b c q=>⟨d,G',a,b,c,q⟩,fun _ _ _ z=>z⟩
 have hl:(us++[]).length=ps.length:=by rw[bw,←r.length];exact F.len _ _ _ _ hq
 have e0:nV X.prog X.w X.K X.mg X.base X.A X.stack s (cH s.heap H):=⟨I.ok.frames,I.ok.mod,fun b o e=>⟨(I.bs b o e).1,vF (I.bs b o e).2⟩,aG I.ok.oP I.sz,I.stack,fun b hb=>vF (I.eY b hb),Oj I.bf,I.bare⟩;have hb':=hb s us I.fC hl;rw[bw] at hb';refine eV (cZ (F.run X.A X.stack s (cH s.heap H) ⟨us,[]⟩ us vs _ (ie X.K E) hr e0 hb' r hq) fun r s' hq'=>?_);cases r with
 |error e=>exact hx e s' (eS.cH I.bf I.eY R1 hq')
 |ok fl=>
  cases fl with
  |ret u=>
   obtain⟨v,H',os,bare,un,bf,rv,d,G',a,b,c,q1,q2,q⟩:=hq';obtain⟨un2,ok2⟩:=CS I.bf I.eY un bf;obtain⟨z1,z2,z3,z4⟩:=Hn I.bf I.eY un bf R1 q1 q2 a b c;exact I.after ⟨v,joined H H',os,bare,un2,ok2,rv,kk v _ d _ z1 z2 z3 (q _ z4)⟩
  |next=>exact bo hq'
  |brk=>exact bo hq'
  |cont=>exact bo hq'
def qe(sp:kv)(E:E3)(t:b9):ax:=fun τ G Q=>t τ G fun ds G1=>sp (ds.map (lZ G1)) (tJ G1 Q) E
theorem Of(F:lA X.prog X.w X.K X.mg X.base k f fd ps sp)(hr:dy k X.A)(hx:jg (eS X.prog X.w X.base) X (ie X.K E))(hm:X.mg x=some (.ref f))(hk:PySem.W.keepIn X.K (.ref f)=true)(hb:Binds X.K fd ps [])(ha:gS X (e::es) t)(hg:Gl X x:=by rfl)
  (hdb:(x==("__debug__":ι))=false:=by decide) (he:notStar e=true:=by rfl) (hpl:es.all notStar=true:=by rfl):
  bE X (.Call (.Name x p) (e::es) [] pos) (qe sp E t):=by
 intro pins s σ H Q I ⟨τ,G,Q3,RS,RG,h,kk⟩;refine cQ (pF I hg hm ?_ hdb);refine PySem.W.callWith_K (h₀:=X.base) I.ok.mod.nR hk (br (ha pos pins s σ H (fun vs H1=>∃ds G1,aw X.K H1 ds vs/\Step H G H1 G1/\aD X.K G1 H1/\sp (ds.map (lZ G1)) (tJ G1 Q3) E) I
  ⟨τ,G,_,RS,RG,h,fun vs H1 ds G1 a b c q=>⟨ds,G1,a,b,c,q⟩⟩) fun us s1 ⟨vs,H1,I1,r,ds,G1,hd,S1,R1,q⟩=>⟨I1.fC,?_⟩) (dB he) (iM hpl)
 exact Hm F hr hb (fun ev s' h=>hx pins σ H1 s1 ev s' I1 (eS.mono h fun _ _ _ z=>z.1)) I1 r hd R1 q fun v H' d G' a b c q=>kk v H' d G' a (S1.trans b) c q
def vV(sp:kv)(t:b9):yM:=fun KX τ G Q=>t τ G fun ds G1=>sp (ds.map (lZ G1)) (tJ G1 Q) (KX τ G1)
theorem Oe(F:lA X.prog X.w X.K X.mg X.base k f fd ps sp)(hr:dy k X.A)(hm:X.mg x=some (.ref f))(hk:PySem.W.keepIn X.K (.ref f)=true)(hb:Binds X.K fd ps [])(ha:gS X.ly (e::es) t)(hg:Gl X x:=by rfl)
  (hdb:(x==("__debug__":ι))=false:=by decide) (he:notStar e=true:=by rfl) (hpl:es.all notStar=true:=by rfl):
  Lz X (.Call (.Name x p) (e::es) [] pos) (vV sp t):=by
 intro pins s σ H Q XE τ G Q3 KX I RS RG h kk xx;refine cQ (pF I hg hm ?_ hdb);refine PySem.W.callWith_K (h₀:=X.base) I.ok.mod.nR hk (cp (ha pos pins s σ H (fun vs H1=>∃ds G1,aw X.K H1 ds vs/\Step H G H1 G1/\aD X.K G1 H1/\sp (ds.map (lZ G1)) (tJ G1 Q3) (KX τ G1)) (I.nF _)
  ⟨τ,G,_,RS,RG,h,fun vs H1 ds G1 a b c q=>⟨ds,G1,a,b,c,q⟩⟩) (fun us s1 ⟨vs,H1,I1,r,ds,G1,hd,S1,R1,q⟩=>⟨I1.fC,?_⟩) fun _ _ z=>bo z) (dB he) (iM hpl)
 exact Hm F hr hb (fun ev s' h=>xx σ τ H1 s1 G1 ev s' I1.jT (RS.ext (S1.ext RG)) R1 S1 h) I1.jT r hd R1 q fun v H' d G' a b c q=>kk v H' d G' a (S1.trans b) c q
end
end L3
namespace L3
open PySem PySem.Spec PyProof.Rows L2
section
variable {X:Cx} {k:Nat} {f:ε} {fd:ae} {ps:List ι} {sp:kv} {E':E3} {x:ι} {p pos:ay} {e:ο} {es:List ο} {t:b9}
theorem zf(F:lA X.prog X.w X.K X.mg X.base k f fd ps sp)(hr:dy k X.A)(hx:jg (eS X.prog X.w X.base) X (ie X.K E'))(hm:X.mg x=some (.ref f))(hk:PySem.W.keepIn X.K (.ref f)=true)(hb:Binds X.K fd ps [])(ha:QA X (e::es) t)(hg:Gl X x:=by rfl)
  (hdb:(x==("__debug__":ι))=false:=by decide) (he:notStar e=true:=by rfl) (hpl:es.all notStar=true:=by rfl):QE X (.Call (.Name x p) (e::es) [] pos) (qe sp E' t):=⟨Of F hr hx hm hk hb ha.of hg hdb he hpl⟩
theorem Od(F:lA X.prog X.w X.K X.mg X.base k f fd ps sp)(hr:dy k X.A)(hm:X.mg x=some (.ref f))(hk:PySem.W.keepIn X.K (.ref f)=true)(hb:Binds X.K fd ps [])(ha:QA X.ly (e::es) t)(hg:Gl X x:=by rfl)
  (hdb:(x==("__debug__":ι))=false:=by decide) (he:notStar e=true:=by rfl) (hpl:es.all notStar=true:=by rfl):MZ X (.Call (.Name x p) (e::es) [] pos) (vV sp t):=⟨Oe F hr hm hk hb ha.of hg hdb he hpl⟩
end
end L3
namespace My
open PySem L2 L3
abbrev yf(E:E3)(n:Nat):Prop:=E "TooGreat" [("many",((n:Nat):Int)),("most",10000)]
def vE:kv:=fun ds Q E=>∃(cs:List aH) (n:Nat),ds=[dQ cs,.int n]/\jk 1000 cs/\cs.length≤1000/\(n≤10000->∀p G',fc dk p (.lst (gY (gI cs) n)) G'->Q (.obj p) G')/\(10000<n->yf E n)
def Oc(E:E3):ar:=wx (π 2) (π 5) (eC (.int 1)) (· + ·)
def Ob(E:E3):ar:=iD (u9 (ξ (π 4) (ξ (π 1) (ξ (π 3) (aa))))) (hName 5) ((Oc E))
def Oa(E:E3):ar:=bS (π 2)
def N9(E:E3):ar:=bz (iD (i6 (π 0)) (nS 2 (gU (hName 3) (gU (hName 4) (qY)))) ((Ob E))) (Oa E)
def N8(E:E3):ar:=bz (cb (bc kF (i9 (ξ (eC (.int 0)) (aa))) (π 1)) (hName 2)) (N9 E)
def Hl(E:E3):ar:=bz (tL (jc vH E (ξ (π 1) (ξ (eC (.int 10000)) (aa))))) (N8 E)
theorem N7:∀ds Q E,vE ds Q E->Hl E (aT Q) (aO ["clocks","many","counts","step","rest","number"] ds) dk:=by
 rintro ds Q E ⟨cs,n,rfl,ok,hl,q1,q2⟩;refine⟨n,10000,rfl,fun h G2 j=>?_,fun h=>q2 (by lia)⟩;have hn:n≤10000:=by lia
 obtain⟨a,b,e,hab,r⟩:=OI [dQ cs,.int n] G2 Q ⟨cs,n,rfl,ok,hl,hn,fun p G' nn=>q1 hn p G' ⟨rfl,nL _,nn.at_⟩⟩;exact r
def xu:kv:=fun ds Q E=>∃(cs:List aH) (c:aH),ds=[dQ cs,cD c]/\jk 1000 (cs++[c])/\cs.length≤12/\(bO (cs++[c])≤10000->Q (oN (Lh cs c)) dk)/\(10000<bO (cs++[c])->yf E (bO (cs++[c])))
def Hk(E:E3):ar:=bS (bt vJ (ξ (π 1) (ξ (jc vE E (ξ (π 0) (ξ (bt uw (ξ (bc eQ (π 0) (eF (ξ (π 1) (aa)))) (aa))) (aa)))) (ξ (eC (.int 0)) (aa)))))
theorem N6:∀ds Q E,xu ds Q E->Hk E (aT Q) (aO ["clocks","clock"] ds) dk:=by
 rintro ds Q E ⟨cs,c,rfl,ok,hl,q1,q2⟩;have hc:=ok c (by simp);have h1:=hc.2;refine⟨?_,cs++[c],?_,ok,by simp;lia,cs,bO (cs++[c]),rfl,fun z hz=>ok z (bT _ hz),by lia,fun hn p G1 n1 G2 j=>?_,q2⟩
 ·show (cs.map cD).length+1≤ai;rw[ν];exact cK (by lia)
 ·show [D.tup (cs.map cD++[cD c])]=[dQ (cs++[c])];unfold dQ;rw[dg];rfl
 ·exact⟨c,p,gI cs,bO (cs++[c]),0,rfl,j.new _ _ n1.at_,hc.1,by lia,hn,dk,nL _,q1 hn⟩
def qj(cs:List aH):Prop:=jk 1000 cs/\cs.length≤12
def xt:kv:=fun ds Q E=>∃cs:List aH,ds=[dQ cs]/\qj cs/\(bO cs≤10000->Q (oN (sN cs)) dk)/\(10000<bO cs->yf E (bO cs))
def HZ(E:E3):ar:=bS (jc xu E (ξ (π 0) (ξ (eF (ξ (eC (.int 1)) (ξ (eC (.int 0)) (aa)))) (aa))))
theorem N5:∀ds Q E,xt ds Q E->HZ E (aT Q) (aO ["clocks"] ds) dk:=by
 rintro ds Q E ⟨cs,rfl,⟨ok,hl⟩,q1,q2⟩;refine⟨cs,(1,0),rfl,Pd ok,hl,fun h G2 j=>?_,fun h=>?_⟩
 ·rw[CV] at h;rw[Pe];exact⟨dk,nL _,q1 h⟩
 ·rw[CV] at h ⊢;exact q2 h
def xq:kv:=fun ds Q E=>∃cs:List aH,ds=[dQ cs]/\qj cs/\(bO cs≤10000->Q (.bl (sN cs).isNone) dk)/\(10000<bO cs->yf E (bO cs))
def HY(E:E3):ar:=bS (bc (Cq false) (jc xt E (ξ (π 0) (aa))) (eC .az))
theorem N4:∀ds Q E,xq ds Q E->HY E (aT Q) (aO ["clocks"] ds) dk:=by
 rintro ds Q E ⟨cs,rfl,hs,q1,q2⟩;refine⟨cs,rfl,hs,fun h G2 j=>?_,q2⟩;have e:u6 (oN (sN cs))=(sN cs).isNone:=by cases sN cs<;>rfl
 show (aT Q).rt (.bl (u6 (oN (sN cs)))) G2;rw[e];exact⟨dk,nL _,q1 h⟩
end My
namespace My
open PySem L2 L3
theorem vd{M:Int}{cs:List aH}(ok:jk M cs)(n:Int):cs.filter (gO n)=cs.filter (rg n):=List.filter_congr fun c hc=>Py (ok c hc).1 n
theorem HW:∀(xs:List Nat),dW (xs.map nD)=some (xs.map fun x=>Dat.D.int (x:Nat))
 |[]=>rfl
 |x::xs=>by
  rw[bP,dW,HW xs];rfl
theorem HV:∀xs:List Nat,Dat.fe (xs.map fun x=>Dat.D.int (x:Nat))=0
 |[]=>rfl
 |x::xs=>by
  rw[bP,Dat.fe,HV xs];rfl
end My
namespace L2
open PySem PySem.Spec PyProof.Rows
def lW(A:aq)(h:Ξ):Prop:=∃e oe vs,A.handled=some (.ref e)/\h.get? e=some oe/\oe.data=.fields vs/\vs[2]?=some .none
theorem N3:entryFor table "proto.unchain" = some cM.«proto.unchain»:=entryFor_of_fast (by kernel_rfl)
theorem N1:plainId "proto.unchain" = true:=by decide +kernel
section
variable {prog:Ψ} {w:af} {A:aq} {E:Value->ζ->Prop} {s:ζ}
theorem BW{α:Type}{x:ε}{ox:aA}{vx:Array Value}{Q:α->ζ->Prop}(c:lW A s.heap)(hx:s.heap.get? x=some ox)(hd:ox.data=.fields vx)(h2:2<vx.size)
  (h:∀h',dn x s.heap h'->(∃o',h'.get? x=some o'/\o'.cls=ox.cls)->E (.ref x) { s with heap:=h' }):μ (model prog w) A (raiseNew (.ref x):hX α) Q E s:=by
 obtain⟨e,oe,vs,hh,he,hde,h2e⟩:=c;unfold raiseNew;refine δ (rM ?_);rw[hh];by_cases z:e=x
 ·subst z;show μ _ _ (if (Value.ref e != Value.ref e)=true then _ else throw (Value.ref e)) _ _ _;rw[if_neg (by simp)];exact pV (h _ (dn.refl ..) ⟨ox,hx,rfl⟩)
 ·show μ _ _ (if (Value.ref e != Value.ref x)=true then _ else throw (Value.ref x)) _ _ _;rw[if_pos (by simpa using z)];refine δ (aZ (jD ?_));refine cz N3 ?_;rw[bU N1 _];show μ _ _ (field (.ref e) 2 >>= _) _ _ _;refine δ (aX he hde h2e ?_);show μ _ _ (if (Value.none==Value.none)=true then _ else _) _ _ _;rw[if_pos (show (Value.none==Value.none)=true from rfl)];refine θ ?_;show μ _ _ (updateField x 2 (.ref e) >>= _) _ _ _;refine δ ?_;show μ _ _ (setField (.ref x) 2 (.ref e)) _ _ _;refine eJ hx hd h2 (pV (h _ (bK ..) ⟨_,bJ _ hx (dH (cR hd _)),mQ ..⟩))
theorem lW.keep{h h':Ξ}(c:lW A h)(k:∀b o vs,h.get? b=some o->o.data=.fields vs->vs[2]?=some .none->h'.get? b=some o):lW A h':=by
 obtain⟨e,oe,vs,a,b,c,d⟩:=c;exact⟨e,oe,vs,a,k e oe vs b c d,c,d⟩
theorem HU{it t:ε}{i:Nat}{items}{Q:Option Value->ζ->Prop}(hh:lW A s.heap)
  (hit:IsTupIter s.heap it t i) (ht:iW s.heap t items) (hx:items[i]?=none)
  (hQ:∀h',j4 it s.heap h'->Q none { s with heap:=h' }):μ (model prog w) A (pyNext (.ref it)) Q E s:=by
 obtain⟨o,ho,hc,hd⟩:=id hit;obtain⟨ol,hol,_,nl,hdl⟩:=ht;unfold pyNext;refine δ (fJ (bC (name:=dm "__next__") hit.typeIs slot_tupleiter_next
  (bL slot_tupleiter_next hit.typeIs entry_tupleiter_next ?_ (args_tupleiter_next _))))
 show μ _ _ (field (.ref it) 0 >>= _) _ _ s;refine δ (aX ho hd (x:=.ref t) rfl ?_);show μ _ _ (if (Value.ref t==Value.none)=true then _ else _) _ _ s;rw[if_neg (show ¬((Value.ref t==Value.none)=true) from ak)];show μ _ _ (field (.ref it) 1 >>= _) _ _ s;refine δ (aX ho hd (x:=.int i 0) rfl ?_);show μ _ _ (seqItems? (.ref t) >>= _) _ _ s;refine δ (dq hol hdl ?_);simp only[bR,hx];refine δ (fU (δ (eJ ho hd (by simp) ?_)));show μ _ _ (newExc (.type "StopIteration") [] >>= _) _ _ _;refine δ ?_;simp only[newExc,newTuple];refine δ (aR ?_ (by size_fits));refine δ (m:=firstArgMember _ _) (iz (a:=Value.none) (by first|rfl|(simp only[firstArgMember];rfl)) ?_)
 refine aR ?_ (by size_fits);refine BW (A:=A.in1) ?_ (ψ _ rfl) rfl (by exact (by decide:2<6)) fun h' sb ⟨o',e1,e2⟩=>?_
 ·refine (show lW A.in1 s.heap from hh).keep fun b ob vs e hf h2=>η _ (η _ ((bq _ _ fun z=>?_).trans e));rw[←z,ho] at e;cases e;rw[hd] at hf;cases hf;simp at h2
 refine δ (ij (T:="StopIteration") (b:=true) ⟨_,e1,e2⟩ lO ?_);refine θ (hQ _ fun b ob hb e=>?_);refine (sb.2 b (av (χ (((bK s.heap it _).extBut.push _) b ob hb e)))).trans ((((bK ..).extBut.push _).push _) b ob hb e)
theorem r8{t:ε}{items:Array Value}{Q:List Value->ζ->Prop}(hh:lW A s.heap)(ht:iW s.heap t items)
  (hQ:∀h',j4 s.heap.objs.size s.heap h'->Q items.toList { s with heap:=h' }):μ (model prog w) A (unpackItems (.ref t) items.size none) Q E s:=by
 have hlt:t≠s.heap.objs.size:=by obtain⟨o,ho,_⟩:=ht;exact av (χ ho)
 unfold unpackItems;refine δ ?_
 ·unfold notIterableAtAll;refine δ (oV ht.typeIs slot_tuple_iter.lookup ?_);refine θ ?_;simp only[fB,if_false];refine δ (aZ (iter_tuple ht ?_));refine δ (aZ (draw_tuple hlt items.size 0 _ _ ⟨_,ψ _ rfl,rfl,rfl⟩ (ht.push _) (by omega) fun h₁ hit₁ hs₁=>?_));have hall:List.take items.size (List.drop 0 items.toList)=items.toList:=by
   rw[List.drop_zero];exact fu (by simp)
  rw[hall];rw[if_neg (by simp)];have ht₁:iW h₁ t items:=(ht.push _).extBut hs₁.extBut hlt;have hh₁:lW A h₁:=hh.keep fun b o _ e _ _=>hs₁.extBut b o (av (χ e)) (η _ e);refine δ (aZ (HU hh₁ hit₁ ht₁ (by simp) fun h₂ he₂=>?_));simp only[Option.isSome_none,fB,if_false];refine θ (hQ h₂ fun b o hb e=>he₂ b o hb (hs₁.extBut b o hb (η _ e)))
theorem FH{env:cB}{elts:List ο}{x1}{pos:ay}{t:ε}{items:Array Value}{Q:Unit->ζ->Prop}(hh:lW A s.heap)(ht:iW s.heap t items)
  (hn:(assignEach elts env).length=items.size) (hstar:(assignEach elts env).findIdx? (·.1)=none)
  (h:∀h',j4 s.heap.objs.size s.heap h'->μ (model prog w) A (assignInOrder ((assignEach elts env).map (·.2)) items.toList) Q E { s with heap:=h' }):
  μ (model prog w) A (assign (.Tuple elts x1 pos) env (.ref t)) Q E s:=by
 rw[assign_Tuple];refine δ (fH ?_);unfold unpack;rw[hn,hstar];exact δ (aZ (r8 hh ht h))
end
def fE(X:Cx):Prop:=∃e oe vs,X.A.handled=some (.ref e)/\(e,oe)∈X.pn/\oe.data=.fields vs/\vs[2]?=some .none
section
variable {X:Cx} {pins:List (ε×aA)} {σ:St} {H:Hp} {s:ζ}
theorem fE.ctx(h:fE X)(I:Inv X pins σ H s):lW X.A s.heap:=by
 obtain⟨e,oe,vs,a,b,c,d⟩:=h;exact⟨e,oe,vs,a,(I.pin (e,oe) (bT _ b)).1,c,d⟩
theorem N0{es:List ο}{k:Nat}{t:uc}{n:Nat}{pos:ay}(hc:fE X)(h:wg X es t)
  (hn:(assignEach es X.env).length=n:=by rfl) (hst:(assignEach es X.env).findIdx? (·.1)=none:=by rfl):PG X (.Tuple es k pos) (Lg X.K n t):=by
 intro pins s σ H v u Q I r hw;obtain⟨a,xs,e1,hq,hl,hw⟩:=hw;subst e1;cases r;obtain⟨its,rv,ht,hz⟩:=I.tuple hq;refine FH (hc.ctx I) ht (by simp[hn,←hl,rv.length]) hst fun h' hx=>?_;have I1:Inv X pins σ H { s with heap:=h' }:=I.kept (t':=s.toks) fun b o e=>hx b o (av (χ e)) e
 exact h pins _ σ H xs _ Q I1 (by simpa using rv) hw
theorem OF{i j:Nat}{x y:ι}{a b:ο}{ta:TA}{px py pt pos:ay}{kt k2 pt2}(hc:fE X)(hN:X.N.Nodup)(hi:X.N[i]?=some x)(hj:X.N[j]?=some y)(hij:i≠j)
  (hx:X.env.scope.names.lookup x=some .local) (hy:X.env.scope.names.lookup y=some .local) (ha:PA X [a,b] ta)
  (hw:swappedStores [.Tuple [.Name x px,.Name y py] kt pt] (.Tuple [a,b] k2 pt2) X.env=pure (some [x,y]))
  (hs:swapsWithSole [.Tuple [.Name x px,.Name y py] kt pt] (.Tuple [a,b] k2 pt2) pos.line X.env=pure false:=by rfl):
  PS X (.Assign [.Tuple [.Name x px,.Name y py] kt pt] (.Tuple [a,b] k2 pt2) pos) (Cn i j ta):=by
 intro pins s σ H D I h;rw[exec_Assign_arm];refine δ (fH ?_);rw[hs];refine δ (θ ?_);rw[if_neg (by decide)];refine δ (Tuple_ (br (ha _ pins s σ H _ I h) fun us s1 ⟨vs,H1,I1,r1,q1⟩=>?_));obtain⟨v,w,e1,q1⟩:=q1;subst e1;obtain⟨u1,u2,rfl,rv,rw'⟩:∃u1 u2,us=[u1,u2]/\RelV v u1/\RelV w u2:=by
  cases r1 with
  |cons p q=>
   cases q with
   |cons p' q'=>
    cases q';exact⟨_,_,rfl,p,p'⟩
 refine aR ?_ (by show 2≤ai;decide);have I2:Inv X pins σ H1 { s1 with heap:=s1.heap.push { cls:=.type "tuple",data:=.seq [u1,u2].toArray }}:=I1.kept (t':=s1.toks) fun b o e=>η _ e;rw[hw];refine δ (θ ?_);show μ (model X.prog X.w) X.A (do rule "assign.swapped-stores";let items ←unpackItems (.ref s1.heap.objs.size) 2 none;assignInOrder [fun v=>bindName X.env y v,fun v=>bindName X.env x v] items.reverse;pure tz) _ _ _
 refine δ (fU (δ (r8 (items:=#[u1,u2]) (hc.ctx I2) (iW.new s1.heap _) fun h' hx'=>?_)));have I3:=I2.kept (h':=h') (t':=s1.toks) fun b o e=>hx' b o (av (χ e)) e;show μ _ _ (assignInOrder [fun v=>bindName X.env y v,fun v=>bindName X.env x v] [u2,u1] >>= fun _=>pure tz) _ _ _;refine δ (gC (lM (vP I3 hN hj (.inl hy) rw' (fun s2 I4=>?_) (.inr hy))));refine gC (lM (vP I4 hN hi (.inl hx) rv (fun s3 I5=>mP (θ ?_)) (.inr hx)));rw[List.set_comm _ _ (da hij)] at I5;exact⟨_,H1,I5,q1⟩
theorem OE{tg iter:ο}{body:List aB}{tl:TE}{g:TG}{tb:TS}{pos:ay}(hp:gD (model X.prog X.w) X.A X.env X.xe)(hc:fE X)(hi:PE X iter tl)(hg:PG X tg g)(hb:kS X body tb)
  (hs:∀x,foldedSetIterable iter X.env x=pure x:=by intro _;rfl):PS X (.For tg iter body [] pos) (FT (Zs X.K tl) g tb):=by
 intro pins s σ H D I h;refine wpAny_For (br (hi pins s σ H _ I h) fun v s1 ⟨x,H1,I1,r1,q1⟩=>?_) hs;obtain⟨a,e,⟨xs,hq⟩,W,⟨m0,w0⟩,turn⟩:=q1;subst e;cases r1;obtain⟨its,rv,p,hz⟩:=I1.tuple hq;refine cO (show s1.heap.IsTuple a its.toArray from p) ?_;have I2:Inv X pins σ H1 { s1 with heap:=s1.heap.push { cls:=.type "tuple_iterator",data:=.fields #[.ref a,.int 0 0]}}:=I1.kept (t':=s1.toks) fun b o e=>η _ e
 have f2:=I1.pR (H':=H1) (b:=s1.heap.objs.size) (Ω _) (I1.bf.fresh (Ω _));have stat:∀{H':Hp},H' s1.heap.objs.size=none->jj X pins H' s1.heap.objs.size:=fun hn=>⟨hn,f2.2⟩;have st0:(s1.heap.push { cls:=.type "tuple_iterator",data:=.fields #[.ref a,.int 0 0]}).IsTupleIter s1.heap.objs.size a 0:=⟨_,ψ _ rfl,rfl,rfl⟩;revert f2 stat st0;generalize hit:s1.heap.objs.size=it;intro f2 stat st0;refine codeAny_forLoop_any (fun n s'=>∃i σ' H',Inv X pins σ' H' s'/\s'.heap.IsTupleIter it a i/\H' it=none/\W i n σ' H') ?_ m0 ⟨0,σ,H1,I2,st0,f2.1,w0⟩;rintro n s3 ⟨i,σ3,H3,I3,st3,fr3,w3⟩;rcases turn i n σ3 H3 w3 with⟨stop,qn⟩|⟨go,N,hN,step⟩
 ·obtain⟨f0,f1,f2',f3,f4,f5⟩:=stat fr3;obtain⟨ys,hq3,hx3⟩:=stop;obtain⟨its3,rv3,p3,hz3⟩:=I3.tuple hq3;have hl3:=rv3.length;obtain⟨o,e1,e2,e3⟩:=st3;refine cP hp (HU (hc.ctx I3) ⟨o,e1,e2,e3⟩ p3 (by simp;omega) fun h' eb=>?_);have I4:Inv X pins σ3 H3 { s3 with heap:=h' }:=I3.turned (t':=s3.toks) (fun b o hb e=>eb b o hb e) f0 f1 f3 f4 f5;exact eU ⟨σ3,H3,I4,qn⟩
 ·obtain⟨f0,f1,f2',f3,f4,f5⟩:=stat fr3;obtain⟨ys,x,hq3,hx3⟩:=go;obtain⟨its3,rv3,p3,hz3⟩:=I3.tuple hq3;obtain⟨u,hu,ru⟩:=rv3.get hx3;refine cP hp (oA st3 (show s3.heap.IsTuple a its3.toArray from p3) (x:=u) (by simpa using hu) fun h' st5 sb=>?_);have I5:Inv X pins σ3 H3 { s3 with heap:=h' }:=I3.turned (t':=s3.toks) (fun b o hb e=>(sb.2 b hb).trans e) f0 f1 f3 f4 f5;obtain⟨o,e,c,d⟩:=id st5;have y5:(Ci X.K a).BJ i H3 x H3:=⟨rfl,fun ys' hy=>by rw[I3.sd hy hq3];exact hx3⟩;refine cP hp (xK (s:={ s3 with heap:=h' }) e c d (by decide) ?_);have I5':Inv X (pins++[(it,o)]) σ3 H3 { s3 with heap:=h' }:=I5.vQ fun p hp=>(bp.mp hp).elim (fun z=>I5.pin p (aV _ z)) fun z=>by
   have ez:p=(it,o):=by simpa using z
   subst ez;exact⟨e,f0,f1,f2',fun v z=>by rw[d] at z;cases z⟩
  refine cP hp (br (hg _ _ σ3 H3 x u _ I5' ru (step x H3 y5)) fun _ s6 ⟨σ6,H6,I6,q6⟩=>?_);refine cP hp (br (hb _ s6 σ6 H6 _ I6 q6) fun f s7 q7=>?_);have again:∀{σ7:St} {H7:Hp},Inv X (pins++[(it,o)]) σ7 H7 s7->N σ7 H7->∃m,m<n/\∃i σ' H',Inv X pins σ' H' s7/\s7.heap.IsTupleIter it a i/\H' it=none/\W i m σ' H':=fun {σ7 H7} I7 n7=>by
   obtain⟨m',hm,w7⟩:=hN σ7 H7 n7;have pin:=I7.pin (it,o) (aV _ (aV _ (by simp)));exact⟨m',hm,i+1,σ7,H7,I7.kc,⟨o,pin.1,c,d⟩,pin.2.1,w7⟩
  cases f with
  |next=>obtain⟨σ7,H7,I7,n7⟩:=q7;exact again I7 n7
  |cont=>obtain⟨σ7,H7,I7,n7⟩:=q7;exact again I7 n7
  |brk=>obtain⟨σ7,H7,I7,q7⟩:=q7;exact⟨σ7,H7,I7.kc,q7⟩
  |ret v=>obtain⟨x7,σ7,H7,I7,r7,q7⟩:=q7;exact⟨x7,σ7,H7,I7.kc,r7,q7⟩
end
end L2
namespace L2
open PySem PySem.Spec PyProof.Rows
def BA(A:aq)(outer:List cB)(h:Ξ)(H:Hp):Prop:=∃e oe vs,A.handled=some (.ref e)/\h.get? e=some oe/\oe.data=.fields vs/\vs[2]?=some .none/\H e=none/\e∉fb outer
structure rm(P:Ψ)(w:af)(K:PySem.W.Frag)(mg:ι->Option Value)(base:Ξ)(k:Nat)(f:ε)(fd:ae)(ps:List ι)(sp:Sp):Prop where
 len:∀vs H Q E,sp vs H Q E->vs.length=ps.length
 run:∀(A:aq) (outer:List cB) (s:ζ) (H:Hp) (args:Args) (us:List Value) (vs:List V) (Q:VK) (E:XK),cY k A->BA A outer s.heap H->nV P w K mg base A outer s H->lQ s fd args (ps.zip us)->aS vs us->sp vs H Q E ->
  fF (model P w) A (.call (.ref f) args) (CR mM outer P w H s Q E) s
def sS(P:Ψ)(w:af)(K:PySem.W.Frag)(mg:ι->Option Value)(base:Ξ)(N:List ι)(qual:ι)(scope:ee)(f:ε)(cd:Value)(A:aq)(outer:List cB)(s:ζ)(H:Hp)(E:XK)(e:ε)(oe:aA):Cx:=
 { yI P w K mg base N qual scope f cd A outer s H E with pn:=[(e,oe)]}
section
variable {P:Ψ} {w:af} {K:PySem.W.Frag} {mg:ι->Option Value} {base:Ξ} {j k:Nat} {f:ε} {fd:ae} {ps:List ι} {sp:Sp}
theorem rm.mono(F:rm P w K mg base j f fd ps sp)(h:j≤k):rm P w K mg base k f fd ps sp:=⟨F.len,fun A outer s H args us vs Q E hr=>F.run A outer s H args us vs Q E (hr.mono h)⟩
end
theorem OD{P:Ψ}{w:af}{K:PySem.W.Frag}{mg:ι->Option Value}{base:Ξ}{k:Nat}{x qual:ι}{st:aB}{f:ε}{fd:ae}{N ps:List ι}{sp:Sp}(F:di K x qual st f fd)(S:aU N ps (ρ st))(len:∀vs H Q E,sp vs H Q E->vs.length=ps.length)
  (eR:∀(cdv:Value) (A:aq) (outer:List cB) (s:ζ) (H:Hp) (vs:List V) (Q:VK) (E:XK) (e:ε) (oe:aA),cY k (A.deeper (envOfC qual (ρ st) s.heap.objs.size f cdv))->fE (sS P w K mg base N qual (ρ st) f cdv A outer s H E e oe)->sp vs H Q E ->
   ∃t,kS (sS P w K mg base N qual (ρ st) f cdv A outer s H E e oe) (dO st) t/\t { nx:=fun _ H'=>Q .az H',rt:=Q } (start N vs) H):
  rm P w K mg base (k+1) f fd ps sp:=by
 obtain⟨oc,od,kV,doc,pm,an,cdv,ct,osl,rfl,lk,gQ⟩:=F.ex;refine⟨len,fun A outer s H args us vs Q E hr hA e0 hb r oJ=>?_⟩;have hl:=len _ _ _ _ oJ;have KX:K.In s.heap:=e0.mod.nR.keeps fun b o e=>(e0.bs b o e).1;have lim:s.heap.NoLimit:=e0.mod.nolimit.keeps fun b o e=>(e0.bs b o e).1;have hkind:∀y∈ps.zip us,(ρ st).names.lookup y.1=some .local∨((ρ st).names.lookup y.1=some .cell/\((cellsFrom (s.heap.objs.size+1) (ρ st).names []).lookup y.1).isSome=true):=fun⟨n,v⟩ hy=>by
  rcases S.par n (eW hy).1 with q|q
  ·exact .inl q
  ·exact .inr ⟨q,PySem.W.cellsFrom_some _ _ _ (.inl q)⟩
 refine g6 hr.depth (KX _ _ lk) rfl S.co S.gen rfl (PySem.W.codeRec_of KX gQ) (hb _ _ _ _ ?_);refine fI S.kind hkind fun env he s1 x=>?_;subst he;refine⟨lim.keeps x.toInCall.keep,nZ ?_⟩;obtain⟨e,oe,ws,h1,h2,h3,h4,h5,h6⟩:=hA;have HX:fE (sS P w K mg base N qual (ρ st) f cdv A outer s H E e oe):=⟨e,oe,ws,h1,by simp[sS],h3,h4⟩;obtain⟨t,ht,hq⟩:=eR cdv A outer s H vs Q E e oe (hr.deeper _) HX oJ;have e1:nV P w K mg base { A with handled:=none } outer s H:=⟨e0.frames,e0.mod,e0.bs,e0.oP,e0.kg,e0.vc,e0.bf,e0.bare⟩;have I0:Inv (gH mM P w K mg base N qual (ρ st) f cdv { A with handled:=none } outer s H E) [] (start N vs) H s1:=DI S rfl e1 hl r x;have I1:=I0.loud (A:=A) e0.frames;have I:Inv (sS P w K mg base N qual (ρ st) f cdv A outer s H E e oe) [] (start N vs) H s1:=by
  obtain⟨ok,a1,a2,a3,a4,a5,a6,a7,a8,a9,a10⟩:=I1;obtain⟨o1,o2,o3,o4,o5,o6,o7,o8,o9,o10,o11,o12,o13,o14,o15,o16,o17,o18⟩:=ok;refine⟨⟨o1,o2,o3,o4,o5,o6,o7,o8,o9,o10,o11,o12,o13,o14,o15,o16,o17,o18⟩,a1,a2,a3,a4,a5,a6,a7,fun p hp=>?_,a9,a10⟩;have ez:p=(e,oe):=by simpa [sS] using hp
  subst ez;exact⟨x.toInCall.keep _ _ h2,h5,av (χ h2),h6,fun v z=>by rw[h3] at z;cases z⟩
 refine cp (ht [] s1 (start N vs) H _ I hq) (fun fl s' hs=>?_) fun e s' hs=>hs.elim;have fin:∀{σ':St} {H':Hp} {v:V} {u:Value},Inv (sS P w K mg base N qual (ρ st) f cdv A outer s H E e oe) [] σ' H' s'->RelV v u->Q v H'->CE outer P w H s Q u s':=
  fun {σ' H' v u} J rv q=>⟨v,H',J.os,J.bare,J.base,J.bf,rv,q⟩
 cases fl with
 |ret u=>
  obtain⟨v,σ',H',J,rv,q⟩:=hs;exact fin J rv q
 |next=>
  obtain⟨σ',H',J,q⟩:=hs;exact fin (v:=V.az) (u:=Value.none) J rfl q
 |brk=>
  obtain⟨_,_,_,q⟩:=hs;exact bo q
 |cont=>
  obtain⟨_,_,_,q⟩:=hs;exact bo q
section
variable {X:Cx} {k:Nat} {f:ε} {fd:ae} {ps:List ι} {sp:Sp} {E:XK} {x:ι} {p pos:ay} {e:ο} {es:List ο} {t:TA}
theorem fE.atA{pins:List (ε×aA)}{σ:St}{H:Hp}{s:ζ}(h:fE X)(I:Inv X pins σ H s):BA X.A X.stack s.heap H:=by
 obtain⟨e,oe,vs,a,b,c,d⟩:=h;obtain⟨p1,p2,p3,p4,_⟩:=I.pin (e,oe) (bT _ b);refine⟨e,oe,vs,a,p1,c,d,p2,fun z=>?_⟩;rcases I.ok.yB with q|⟨q,q2⟩
 ·rw[q] at z;exact p4 z
 ·rw[q] at z;unfold fb at z;rw[cV,q2] at z;rcases Φ.mp z with z|z
  ·exact p3 z
  ·exact p4 z
theorem OC{pins:List (ε×aA)}{σ:St}{H:Hp}{s:ζ}{Q:VK}{us:List Value}{vs:List V}(F:rm X.prog X.w X.K X.mg X.base k f fd ps sp)(hr:cY k X.A)(hA:fE X)(hb:Binds X.K fd ps [])
  (I:Inv X pins σ H s) (r:aS vs us) (h:sp vs H Q E):μ (model X.prog X.w) X.A (call (.ref f) us) (EP X pins σ Q) X.xe s:=by
 have hl:(us++[]).length=ps.length:=by rw[bw,←r.length];exact F.len _ _ _ _ h
 have hb':=hb s us I.fC hl;rw[bw] at hb';refine eV (cZ (F.run X.A X.stack s H ⟨us,[]⟩ us vs Q E hr (hA.atA I) I.Ed hb' r h) fun r s' hq=>?_);cases r with
 |error e=>exact bo hq
 |ok fl=>
  cases fl with
  |ret u=>exact I.after hq
  |next=>exact bo hq
  |brk=>exact bo hq
  |cont=>exact bo hq
theorem OB(F:rm X.prog X.w X.K X.mg X.base k f fd ps sp)(hr:cY k X.A)(hA:fE X)(hg:Gl X x)(hm:X.mg x=some (.ref f))(hk:PySem.W.keepIn X.K (.ref f)=true)(hb:Binds X.K fd ps [])
  (ha:PA X (e::es) t) (hdb:(x==("__debug__":ι))=false:=by decide) (he:bx (e::es) X.env=(false,eval e X.env)::bx es X.env:=by rfl) (hpl:(backTo pos (bx es X.env)).any (·.1)=false:=by rfl):
  PE X (.Call (.Name x p) (e::es) [] pos) (wo sp [] E t):=by
 intro pins s σ H Q I h;refine cQ (pF I hg hm ?_ hdb);refine PySem.W.callWith_K (h₀:=X.base) I.ok.mod.nR hk (br (ha pos pins s σ H _ I h) fun us s1 ⟨vs,H1,I1,r,q⟩=>⟨I1.fC,?_⟩) he hpl;have q':sp (vs++[]) H1 Q E:=q;rw[bw] at q';exact OC F hr hA hb I1 r q'
end
end L2
namespace L3
open PySem PySem.Spec PyProof.Rows L2
abbrev rl(P:Ψ)(w:af)(K:PySem.W.Frag)(mg:ι->Option Value)(base:Ξ)(k:Nat)(f:ε)(fd:ae)(ps:List ι)(sp:dC):Prop:=rm P w K mg base k f fd ps (j6 K sp)
section
variable {X:Cx} {k:Nat} {f:ε} {fd:ae} {ps:List ι} {sp:dC} {x:ι} {p pos:ay} {e iter tg:ο} {es:List ο} {t:b9}
theorem OA(F:rl X.prog X.w X.K X.mg X.base k f fd ps sp)(hr:cY k X.A)(hA:fE X)(hm:X.mg x=some (.ref f))(hk:PySem.W.keepIn X.K (.ref f)=true)(hb:Binds X.K fd ps [])(ha:gS X (e::es) t)(hg:Gl X x:=by rfl)
  (hdb:(x==("__debug__":ι))=false:=by decide) (he:notStar e=true:=by rfl) (hpl:es.all notStar=true:=by rfl):
  bE X (.Call (.Name x p) (e::es) [] pos) (bt sp t):=gP (OB (E:=E0) F hr hA hg hm hk hb ha hdb (dB he) (iM hpl)) fun σ H Q h=>DE h
theorem Zw{P:Ψ}{w:af}{K:PySem.W.Frag}{mg:ι->Option Value}{base:Ξ}{x qual:ι}{st:aB}{f:ε}{fd:ae}{N ps:List ι}{k:Nat}{sp:dC}(F:di K x qual st f fd)(S:aU N ps (ρ st))(hN:ps.length≤N.length)(len:∀ds G Q,sp ds G Q->ds.length=ps.length)(tb:ar)
  (eR:∀(cdv:Value) (A:aq) (outer:List cB) (s:ζ) (H:Hp) (E:XK) (e:ε) (oe:aA),cY k (A.deeper (envOfC qual (ρ st) s.heap.objs.size f cdv))->fE (sS P w K mg base N qual (ρ st) f cdv A outer s H E e oe) ->
   jh (sS P w K mg base N qual (ρ st) f cdv A outer s H E e oe) (dO st) tb)
  (mH:∀ds G Q,sp ds G Q->tb (aT Q) (aO N ds) G):rl P w K mg base (k+1) f fd ps sp:=by
 refine OD F S (fun vs H Q E h=>?_) (fun cdv A outer s H vs Q E e oe hr hA h=>?_)
 ·obtain⟨ds,G,Q3,h1,h2,h3,h4⟩:=h;rw[←h1.length];exact len _ _ _ h3
 ·obtain⟨ds,G,Q3,h1,h2,h3,h4⟩:=h;refine⟨_,eR cdv A outer s H E e oe hr hA,aO N ds,G,aT Q3,.start h1 ?_,h2,mH _ _ _ h3,⟨?_,?_,?_,?_⟩⟩
  ·rw[←h1.length,len _ _ _ h3];exact hN
  ·exact fun τ σ G' H' a b c ⟨G0,s0,q⟩=>h4 _ H' .az G0 (by simp[Hv]) (b.trans (.sub s0)) (c.sub s0) q
  ·exact fun τ σ G' H' a b c q=>q.elim
  ·exact fun τ σ G' H' a b c q=>q.elim
  ·exact fun d v G' H' a b c ⟨G0,s0,q⟩=>h4 _ H' d G0 a (b.trans (.sub s0)) (c.sub s0) q
theorem Oz{k:Nat}{t:lK}{n:Nat}(hc:fE X)(h:vZ X es t)(hn:(assignEach es X.env).length=n:=by rfl)(hst:(assignEach es X.env).findIdx? (·.1)=none:=by rfl):sV X (.Tuple es k pos) (nS n t):=
 Af (N0 hc h hn hst) fun v σ H Q ⟨d,τ,G,Q3,hd,RS,RG,h,k⟩=>by
  cases d with
  |tup ds=>
   unfold Hv at hd;obtain⟨a,vs,e1,e2,e3⟩:=hd;exact⟨a,vs,e1,e2,by rw[←e3.length];exact h.1,ds,τ,G,Q3,e3,RS,RG,h.2,k⟩
  |_=>exact h.elim
def Ar(te:ax):mh:=fun τ G R=>te τ G fun x G1=>match x with
 |.tup ds=>R ⟨ds,fun _=>True⟩ G1
 |_=>False
theorem Oy{body:List aB}{te:ax}{g:gR}{tb:ar}(hp:gD (model X.prog X.w) X.A X.env X.xe)(hc:fE X)(hi:bE X iter te)(hg:sV X tg g)(hb:jh X body tb)
  (hs:∀x,foldedSetIterable iter X.env x=pure x:=by intro _;rfl):mL X (.For tg iter body [] pos) (iD (Ar te) g tb):=mx (OE hp hc hi hg hb hs) fun D2 σ H ⟨τ,G,D3,RS,RG,h,k⟩=>by
 refine⟨τ,G,_,RS,RG,h,fun v H1 d G1 hv S1 R1 q1=>?_⟩;cases d with
 |tup ds=>
  unfold Hv at hv;obtain⟨a,vs,rfl,e2,e3⟩:=hv;have ok:wH X.K H1 (Ci X.K a) ⟨ds,fun _=>True⟩:=by
   refine⟨?_,?_⟩
   ·intro i d H' G' E' RG' hg hi;obtain⟨v',y1,y2⟩:=e3.get hi;refine⟨⟨vs,v',bZ.ext E' e2,y1⟩,fun x H'' hy=>?_⟩;obtain⟨rfl,hy⟩:=hy;have:=hy vs (bZ.ext E' e2);rw[y1] at this;cases this;exact⟨y2.ext E',.refl _ _,RG'⟩
   ·intro i H' G' E' RG' hg hi;exact⟨vs,bZ.ext E' e2,by rw[←e3.length];exact hi⟩
  refine⟨a,rfl,⟨vs,e2⟩,?_⟩;obtain⟨S,hS⟩:∃S:Src,S=⟨ds,fun _=>True⟩:=⟨_,rfl⟩;rw[←hS] at ok;have q1:jB S.guard g tb D3 S.items τ G1:=by rw[hS];exact q1
  refine⟨fun i m σ' H'=>∃τ' G',dI X.K τ' σ' H'/\aD X.K G' H'/\Step H G H' G'/\Ext H1 H'/\jB S.guard g tb D3 (S.items.drop i) τ' G'/\m+i=S.items.length,⟨S.items.length,τ,G1,RS.ext (S1.ext RG),R1,S1,.refl H1,by simpa using q1,by lia⟩,?_⟩;rintro i m σ' H' ⟨τ',G',RS',RG',S',E',q,hm⟩;by_cases hlt:i<S.items.length
  ·have hd:S.items.drop i=S.items[i]::S.items.drop (i+1):=iU hlt;have hget:S.items[i]?=some S.items[i]:=aK hlt;rw[hd] at q;obtain⟨hgd,q⟩:=q;obtain⟨z1,z2⟩:=ok.go i _ H' G' E' RG' hgd hget;refine .inr ⟨z1,fun σ2 H2=>∃τ2 G2,dI X.K τ2 σ2 H2/\aD X.K G2 H2/\Step H G H2 G2/\Ext H1 H2/\jB S.guard g tb D3 (S.items.drop (i+1)) τ2 G2,fun σ2 H2 ⟨τ2,G2,a1,a2,a3,a4,a5⟩=>⟨m-1,by lia,τ2,G2,a1,a2,a3,a4,a5,by lia⟩,fun x H2 hy=>?_⟩;obtain⟨y1,y2,y3⟩:=z2 x H2 hy;refine⟨S.items[i],τ',G',_,y1,RS'.ext (y2.ext RG'),y3,q,fun τ3 σ3 G3 H3 b1 b2 b3 b4=>?_⟩;refine⟨τ3,G3,_,b1,b3,b4,⟨?_,?_,?_,?_⟩⟩
   ·exact fun τ4 σ4 G4 H4 c1 c2 c3 c4=>⟨τ4,G4,c1,c3,((S'.trans y2).trans b2).trans c2,((E'.trans (y2.ext RG')).trans (b2.ext y3)).trans (c2.ext b3),c4⟩
   ·exact fun τ4 σ4 G4 H4 c1 c2 c3 c4=>k.nx τ4 σ4 G4 H4 c1 (((S'.trans y2).trans b2).trans c2) c3 c4
   ·exact fun τ4 σ4 G4 H4 c1 c2 c3 c4=>⟨τ4,G4,c1,c3,((S'.trans y2).trans b2).trans c2,((E'.trans (y2.ext RG')).trans (b2.ext y3)).trans (c2.ext b3),c4⟩
   ·exact fun d v G4 H4 c1 c2 c3 c4=>k.rt d v G4 H4 c1 (((S'.trans y2).trans b2).trans c2) c3 c4
  ·have hd:S.items.drop i=[]:=gL (by lia);rw[hd] at q;exact .inl ⟨ok.stop i H' G' E' RG' q.1 (by lia),k.nx τ' σ' G' H' RS' S' RG' q.2⟩
 |_=>exact q1.elim
def yi(a:ε)(sp:dC)(t:b9):ax:=fun τ G Q=>t τ G fun ds G1=>(∃x fs,G1 a=some (.gen (i7 x fs)))/\sp ds dk fun d G'=>∀G2,Joins G1 G' G2->Q d G2
theorem Ox{pins:List (ε×aA)}{σ:L2.St}{H:Hp}{s:ζ}{Q:VK}{G1:Gp}{Q3:V3}{ds:List D}{us:List Value}{vs:List V}{a:ε}{z:ι}{fs:List (ι×Int)}(F:rl X.prog X.w X.K X.mg X.base k f fd ps sp)(hr:cY k X.A)(hA:X.A.handled=some (.ref a))(hb:Binds X.K fd ps [])
  (I:Inv X pins σ H s) (r:aS vs us) (hd:aw X.K H ds vs) (R1:aD X.K G1 H) (hz:G1 a=some (.gen (i7 z fs))) (h:sp ds dk fun d G'=>∀G2,Joins G1 G' G2->Q3 d G2) (kk:∀v H' d G',Hv X.K H' d v->Step H G1 H' G'->aD X.K G' H'->Q3 d G'->Q v H'):
  μ (model X.prog X.w) X.A (call (.ref f) us) (EP X pins σ Q) X.xe s:=by
 have hq:j6 X.K sp vs (hide H) (fun v H'=>∃d G',Hv X.K H' d v/\Step (hide H) dk H' G'/\aD X.K G' H'/\∀G2,Joins G1 G' G2->Q3 d G2) (fun _ _ _=>False):=
  ⟨ds,dk,_,hd.mI,(fun _ _ e=>nomatch e),h,fun v H' d G' a b c q=>⟨d,G',a,b,c,q⟩⟩
 have hl:(us++[]).length=ps.length:=by rw[bw,←r.length];exact F.len _ _ _ _ hq
 have e0:nV X.prog X.w X.K X.mg X.base X.A X.stack s (hide H):=⟨I.ok.frames,I.ok.mod,fun b o e=>⟨(I.bs b o e).1,uz (I.bs b o e).2⟩,aG I.ok.oP I.sz,I.stack,fun b hb=>uz (I.eY b hb),Iw I.bf,I.bare⟩;have hb':=hb s us I.fC hl;rw[bw] at hb';obtain⟨C,dx,c1,c2,c3⟩:=(R1 a _ hz).1;obtain⟨⟨oe,ws,q1,q2,q3,q4,q5⟩,_⟩:=(show bH X.prog X.w H s.heap a (.ext (sO a C dx)) from I.bf a _ c2);have HA:BA X.A X.stack s.heap (hide H):=⟨a,oe,ws,hA,q1,q4,q5,DO c2 rfl,fun z=>by rw[I.eY a z] at c2;cases c2⟩;refine eV (cZ (F.run X.A X.stack s (hide H) ⟨us,[]⟩ us vs _ (fun _ _ _=>False) hr HA e0 hb' r hq) fun r s' hq'=>?_);cases r with
 |error e=>exact bo hq'
 |ok fl=>
  cases fl with
  |ret u=>
   obtain⟨v,H',os,bare,un,bf,rv,d,G',a,b,c,q⟩:=hq';obtain⟨un2,ok2⟩:=zq I.bf I.eY un bf;obtain⟨z1,z2,z3,z4⟩:=DM I.bf I.eY un bf R1 a b c;exact I.after ⟨v,joined H H',os,bare,un2,ok2,rv,kk v _ d _ z1 z2 z3 (q _ z4)⟩
  |next=>exact bo hq'
  |brk=>exact bo hq'
  |cont=>exact bo hq'
theorem Ow{a:ε}(F:rl X.prog X.w X.K X.mg X.base k f fd ps sp)(hr:cY k X.A)(hA:X.A.handled=some (.ref a))(hm:X.mg x=some (.ref f))(hk:PySem.W.keepIn X.K (.ref f)=true)(hb:Binds X.K fd ps [])(ha:gS X (e::es) t)(hg:Gl X x:=by rfl)
  (hdb:(x==("__debug__":ι))=false:=by decide) (he:notStar e=true:=by rfl) (hpl:es.all notStar=true:=by rfl):
  bE X (.Call (.Name x p) (e::es) [] pos) (yi a sp t):=by
 intro pins s σ H Q I ⟨τ,G,Q3,RS,RG,h,kk⟩;refine cQ (pF I hg hm ?_ hdb);refine PySem.W.callWith_K (h₀:=X.base) I.ok.mod.nR hk (br (ha pos pins s σ H (fun vs H1=>∃ds G1,aw X.K H1 ds vs/\Step H G H1 G1/\aD X.K G1 H1/\(∃x fs,G1 a=some (.gen (i7 x fs)))/\sp ds dk fun d G'=>∀G2,Joins G1 G' G2->Q3 d G2) I
  ⟨τ,G,_,RS,RG,h,fun vs H1 ds G1 a b c q=>⟨ds,G1,a,b,c,q⟩⟩) fun us s1 ⟨vs,H1,I1,r,ds,G1,hd,S1,R1,⟨z,fs,hz⟩,q⟩=>⟨I1.fC,?_⟩) (dB he) (iM hpl)
 exact Ox F hr hA hb I1 r hd R1 hz q fun v H' d G' a b c q=>kk v H' d G' a (S1.trans b) c q
end
end L3
namespace L3
open PySem PySem.Spec PyProof.Rows L2
section
variable {X:Cx} {k:Nat} {f:ε} {fd:ae} {ps:List ι} {sp3:dC} {x:ι} {p pos:ay} {a b e c iter tg:ο} {es:List ο} {t:b9} {te:ax} {ta:ub} {g:gR}
theorem NP(F:rl X.prog X.w X.K X.mg X.base k f fd ps sp3)(hr:cY k X.A)(hA:fE X)(hm:X.mg x=some (.ref f))(hk:PySem.W.keepIn X.K (.ref f)=true)(hb:Binds X.K fd ps [])(ha:QA X (e::es) t)(hg:Gl X x:=by rfl)
  (hdb:(x==("__debug__":ι))=false:=by decide) (he:notStar e=true:=by rfl) (hpl:es.all notStar=true:=by rfl):QE X (.Call (.Name x p) (e::es) [] pos) (bt sp3 t):=⟨OA F hr hA hm hk hb ha.of hg hdb he hpl⟩
theorem NO{z:ε}(F:rl X.prog X.w X.K X.mg X.base k f fd ps sp3)(hr:cY k X.A)(hA:X.A.handled=some (.ref z))(hm:X.mg x=some (.ref f))(hk:PySem.W.keepIn X.K (.ref f)=true)(hb:Binds X.K fd ps [])(ha:QA X (e::es) t)(hg:Gl X x:=by rfl)
  (hdb:(x==("__debug__":ι))=false:=by decide) (he:notStar e=true:=by rfl) (hpl:es.all notStar=true:=by rfl):QE X (.Call (.Name x p) (e::es) [] pos) (yi z sp3 t):=⟨Ow F hr hA hm hk hb ha.of hg hdb he hpl⟩
theorem NN{k:Nat}{t:lK}{n:Nat}(hc:fE X)(h:Cc X es t)(hn:(assignEach es X.env).length=n:=by rfl)(hst:(assignEach es X.env).findIdx? (·.1)=none:=by rfl):QG X (.Tuple es k pos) (nS n t):=⟨Oz hc h.of hn hst⟩
theorem NM{body:List aB}{tb:ar}(hp:gD (model X.prog X.w) X.A X.env X.xe)(hc:fE X)(hi:QE X iter te)(hg:QG X tg g)(hb:mK X body tb)
  (hs:∀x,foldedSetIterable iter X.env x=pure x:=by intro _;rfl):QS X (.For tg iter body [] pos) (iD (Ar te) g tb):=⟨Oy hp hc hi.of hg.of hb.of hs⟩
theorem NL{i j:Nat}{x y:ι}{px py pt:ay}{kt k2 pt2}(hc:fE X)(hN:X.N.Nodup)(hi:X.N[i]?=some x)(hj:X.N[j]?=some y)(hij:i≠j)(hx:X.env.scope.names.lookup x=some .local)(hy:X.env.scope.names.lookup y=some .local)(ha:QA X [a,b] t)
  (hw:swappedStores [.Tuple [.Name x px,.Name y py] kt pt] (.Tuple [a,b] k2 pt2) X.env=pure (some [x,y]))
  (hs:swapsWithSole [.Tuple [.Name x px,.Name y py] kt pt] (.Tuple [a,b] k2 pt2) pos.line X.env=pure false:=by rfl):
  QS X (.Assign [.Tuple [.Name x px,.Name y py] kt pt] (.Tuple [a,b] k2 pt2) pos) (yT i j t):=⟨JT (OF hc hN hi hj hij hx hy ha.of hw hs)⟩
theorem NK{i:Nat}{cx en:ι}{names:List ι}{body suite rs:List aB}{b₀:aB}{np hpos:ay}{th:ε->ar}{tq:ar}{B:ε}(F:Frame X)(T7:Bx X.K names B)(hm:X.mg cx=some (.ref B))(hN:X.N.Nodup)(hb:E8 X body ta)(hh:∀e,mK (X.kQ e) (b₀::suite) (th e))(hr:mK X rs tq)
  (hi:X.N[i]?=some en:=by rfl) (hl:X.env.scope.names.lookup en=some .local:=by rfl) (hg:Gl X cx:=by rfl) (hdb:(cx==("__debug__":ι))=false:=by decide):
  mK X (.Try body [.ExceptHandler (some (.Name cx np)) (some en) (b₀::suite) hpos] [] [] pos::rs) (yS names i ta th tq):=⟨Ql F T7 hm hN hb.of (fun e=>(hh e).of) hr.of hi hl hg hdb⟩
end
theorem KL{P:Ψ}{w:af}{K:PySem.W.Frag}{mg:ι->Option Value}{base:Ξ}{x qual:ι}{st:aB}{f:ε}{fd:ae}{N ps:List ι}{k:Nat}{sp:dC}(F:di K x qual st f fd)(S:aU N ps (ρ st))(hN:ps.length≤N.length)(len:∀ds G Q,sp ds G Q->ds.length=ps.length)(tb:ar)
  (eR:∀(cdv:Value) (A:aq) (outer:List cB) (s:ζ) (H:Hp) (E:XK) (e:ε) (oe:aA),cY k (A.deeper (envOfC qual (ρ st) s.heap.objs.size f cdv))->fE (sS P w K mg base N qual (ρ st) f cdv A outer s H E e oe) ->
   mK (sS P w K mg base N qual (ρ st) f cdv A outer s H E e oe) (dO st) tb)
  (mH:∀ds G Q,sp ds G Q->tb (aT Q) (aO N ds) G):rl P w K mg base (k+1) f fd ps sp:=Zw F S hN len tb (fun cdv A outer s H E e oe hr hA=>(eR cdv A outer s H E e oe hr hA).of) mH
end L3
namespace My
open PySem L2 L3
def NJ:ar:=cb (bc tM (bc kF (π 1) (π 2)) (bt uv (ξ (π 1) (ξ (π 2) (aa))))) (hName 1)
def NI:ar:=bS (π 1)
def NH:ar:=bz (iD (Ar (π 0)) (nS 2 (gU (hName 2) (gU (hName 3) (qY)))) (NJ)) NI
def HS:ar:=bz (cb (eC (.int 1)) (hName 1)) NH
theorem NG:∀ds G Q,pG ds G Q->HS (aT Q) (aO ["clocks","found","step","rest"] ds) G:=by
 rintro ds G Q ⟨cs,rfl,ok,hl,q⟩;exact HI _ _ _ ⟨cs,rfl,ok,hl,q⟩
theorem NF(c:aH)(hc:Valid c)(n:Nat):(nums c n).Pairwise (· < ·):=by
 unfold nums;rw[cm];refine jX.imp fun {a b} h=>?_;have:a*c.1.toNat<b*c.1.toNat:=Nat.mul_lt_mul_of_pos_right h (by have:=hc.1;lia);lia
theorem ND{c:aH}(hc:Valid c)(n:Nat)(p:Nat->Bool):(nums c n).find? p=(ag n).find? fun x:Nat=>rg (x:Int) c&&p x:=by
 cases e:(nums c n).find? p with
 |none=>
  symm;rw[ju] at e ⊢;intro x hx h;rw[bF] at h;exact e x ((vK hc).mpr ⟨aE.mp hx,h.1⟩) h.2
 |some x=>
  symm;have hx:=m9 e;have hp:=List.find?_some e;obtain⟨h1,h2⟩:=(vK hc).mp hx;rw[oo];refine⟨by rw[h2];exact hp,aE.mpr h1,fun j hj=>?_⟩;obtain⟨_,as,bs,e2,e3⟩:=List.find?_eq_some_iff_append.mp e;cases hb:(rg (j:Int) c&&p j) with
  |false=>rfl
  |true=>
   rw[bF] at hb;have hjm:j∈nums c n:=(vK hc).mpr ⟨by lia,hb.1⟩;rw[e2] at hjm;have up:=NF c hc n;rw[e2] at up;rcases bp.mp hjm with z|z
   ·have:=e3 j z;rw[hb.2] at this;cases this
   ·rcases Φ.mp z with z|z
    ·lia
    ·have:=(fy.mp (rD.mp up).2.1).1 j z;lia
def lS(cs:List aH)(c:aH):Option Nat:=(nums c (bO cs)).find? fun x=>gI cs x==1
theorem NC{cs:List aH}{c:aH}(ok:jk 1000 cs)(h:c∈cs)(x:Nat):(rg (x:Int) c&&gI cs x==1)=decide (cs.filter (gO (x:Int))=[c]):=by
 rw[vd ok,fG,bF,decide_eq_true_eq];constructor
 ·rintro⟨h1,h2⟩;have hm:c∈cs.filter (rg (x:Int)):=iS.mpr ⟨h,h1⟩;have hl:(cs.filter (rg (x:Int))).length=1:=by simpa [gI] using h2
  obtain⟨a,ea⟩:=jY.mp hl;rw[ea] at hm ⊢;rw[aP.mp hm]
 ·intro e;have hm:c∈cs.filter (rg (x:Int)):=by rw[e];simp
  refine⟨(iS.mp hm).2,?_⟩;unfold gI;rw[e];rfl
theorem NB{cs:List aH}{c:aH}(ok:jk 1000 cs)(h:c∈cs):lS cs c=(ag (bO cs)).find? fun x:Nat=>decide (cs.filter (gO (x:Int))=[c]):=by
 unfold lS;rw[ND (ok c h).1];congr 1;exact funext fun x=>NC ok h x
def xp:kv:=fun ds Q E=>∃cs:List aH,ds=[dQ cs]/\qj cs/\(bO cs≤10000->∀p G',fc dk p (.lst (cs.map fun c=>oN (lS cs c))) G'->Q (.obj p) G')/\(10000<bO cs->yf E (bO cs))
def NA(E:E3):ar:=bS (fR ["clock"] [1] (i6 (π 0)) (hName 0) (eE) (bt vJ (ξ (π 0) (ξ (π 1) (ξ (eC (.int 1)) (aa))))))
def HR(E:E3):ar:=bz (cb (jc vE E (ξ (π 0) (ξ (bt uw (ξ (π 0) (aa))) (aa)))) (hName 1)) (NA E)
theorem Nz:∀ds Q E,xp ds Q E->HR E (aT Q) (aO ["clocks","counts"] ds) dk:=by
 rintro ds Q E ⟨cs,rfl,⟨ok,hl⟩,q1,q2⟩;refine⟨cs,rfl,ok,by lia,cs,bO cs,rfl,ok,by lia,fun hn p G1 n1 G2 j=>?_,q2⟩;have hp:G2 p=some (.lst (gY (gI cs) (bO cs))):=j.new _ _ n1.at_;refine⟨by show (cs.map cD).length≤ai;rw[ν];exact cK (by lia),?_⟩;refine nM (fun τ=>∃x,τ=[x,some (.obj p)]) cD (fun _=>true) (fun c=>oN (lS cs c)) (G:=G2) trivial cs [] _ ⟨none,rfl⟩ ?_ ?_
 ·rintro c hm τ K1 K2 ⟨x,rfl⟩ h1 h2;exact⟨fun _=>⟨c,p,gI cs,bO cs,1,rfl,hp,(ok c hm).1,by have:=(ok c hm).2;lia,hn,h1 rfl _ ⟨_,rfl⟩⟩,nofun⟩
 ·intro p2 G3 n3;rw[filter_all,dU] at n3;exact du (q1 hn p2 G3 ⟨rfl,nL _,n3.at_⟩)
end My
namespace My
open PySem L2 L3
def iO(cs:List aH):List (Option Nat):=cs.map (lS cs)
theorem Ny(cs:List aH):(cs.map fun c=>oN (lS cs c))=(iO cs).map oN:=by
 unfold iO;rw[cE];rfl
end My
namespace My
open PySem L2 L3
def xo:dC:=fun ds G Q=>∃p:ε,ds=[.obj p]/\G p=some .kL/\∀cs,qj cs->10000<bO cs->Q (dQ cs) G
def Nx:ar:=bS (dS uq (ξ (dS zA (ξ (rJ (π 1) (kM) (jy (bc eQ (eC (.int 2)) (bt mF (ξ (π 0) (ξ (eC (.int 3)) (aa))))))) (aa))) (aa)))
def HQ:ar:=bz (cb (i9 (ξ (eF (ξ (eC (.int 101)) (ξ (bt mF (ξ (π 0) (ξ (eC (.int 101)) (aa)))) (aa)))) (ξ (eF (ξ (eC (.int 103)) (ξ (bt mF (ξ (π 0) (ξ (eC (.int 103)) (aa)))) (aa)))) (ξ (eF (ξ (eC (.int 997)) (ξ (bt mF (ξ (π 0) (ξ (eC (.int 997)) (aa)))) (aa)))) (ξ (eF (ξ (eC (.int 2)) (ξ (eC (.int 1)) (aa)))) (aa)))))) (hName 1)) Nx
theorem Nw{cs:List aH}{a b:Int}(h1:(101,a)∈cs)(h2:(103,b)∈cs)(hp:∀z∈cs,0<z.1):10000<bO cs:=by
 have d1:101∣bO cs:=zg h1;have d2:103∣bO cs:=zg h2;have d3:101*103∣bO cs:=Nat.Coprime.mul_dvd_of_dvd_of_dvd (by decide) d1 d2;have:=fL (CU hp) d3;lia
theorem Nv:∀ds G Q,xo ds G Q->HQ (aT Q) (aO ["pen","some"] ds) G:=by
 rintro ds G Q ⟨p,rfl,hp,q⟩;refine⟨p,101,rfl,hp,⟨by decide,jG (by decide) (by decide)⟩,fun r1 a1 b1=>⟨p,103,rfl,hp,⟨by decide,jG (by decide) (by decide)⟩,fun r2 a2 b2=>⟨p,997,rfl,hp,⟨by decide,jG (by decide) (by decide)⟩,fun r3 a3 b3=>?_⟩⟩⟩;intro q0 G0 hq0;refine⟨p,3,rfl,hq0.sub _ _ hp,⟨by decide,jG (by decide) (by decide)⟩,fun r a b=>⟨_,hq0.at_,fun p1 G1 hp1=>?_⟩⟩;have ec:fS [.tup [.int 101,.int r1],.tup [.int 103,.int r2],.tup [.int 997,.int r3],.tup [.int 2,.int 1]] none (some (2+r))=(pT [(101,r1),(103,r2),(997,r3),(2,1)] none (some (2+r))).map cD:=pH cD [(101,r1),(103,r2),(997,r3),(2,1)] _ _;rw[ec] at hp1;obtain⟨k,hk⟩:∃k:Nat,2+r=((k+2:Nat):Int):=⟨r.toNat,by lia⟩;rw[hk,xU] at hp1;have hk2:k≤2:=by lia
 have hl:([(101,r1),(103,r2),(997,r3),(2,1)]:List aH).length=4:=rfl;refine⟨_,IQ hp1.at_,by rw[ν,ck];lia,IS,fun p2 mss G2 hp2 hpm hr=>?_⟩;have nd:([(101,r1),(103,r2),(997,r3),(2,1)]:List aH).Nodup:=by simp
 obtain⟨cs',rfl,hmem,hr,hlen⟩:=PY hpm (List.Nodup.sublist (jQ (k+2) _) nd) hr;rw[ck] at hlen;rw[C0] at hp2;have ok:jk 1000 cs':=fun c hc=>by
  have:=fW ((hmem c).mp hc);simp at this;rcases this with rfl|rfl|rfl|rfl
  ·exact⟨⟨(by decide:(0:Int)<101),a1,b1⟩,(by decide:(101:Int)≤1000)⟩
  ·exact⟨⟨(by decide:(0:Int)<103),a2,b2⟩,(by decide:(103:Int)≤1000)⟩
  ·exact⟨⟨(by decide:(0:Int)<997),a3,b3⟩,(by decide:(997:Int)≤1000)⟩
  ·exact⟨⟨by decide,by decide,by decide⟩,by decide⟩
 refine⟨_,hp2.at_,pJ ((hq0.sub.trans hp1.sub).trans hp2.sub) (q cs' ⟨ok,by lia⟩ (Nw (a:=r1) (b:=r2) ((hmem _).mpr (by simp[List.take])) ((hmem _).mpr (by simp[List.take])) fun z hz=>(ok z hz).1.1))⟩
theorem Nu(xs:List Nat):(Dat.D.lst (xs.map fun x=>Dat.D.int (x:Nat))).iP≤50:=by
 show Dat.fe _+1≤50;rw[HV];decide
end My
namespace My
open PySem L2 L3
theorem HP{α β:Type}(f:α->β):∀xs:List α,xs.zip (xs.map f)=xs.map fun x=>(x,f x)
 |[]=>rfl
 |x::xs=>by
  show (x,f x)::xs.zip (xs.map f)=(x,f x)::xs.map fun x=>(x,f x);rw[HP f xs]
def qb(cs:List aH)(k:Nat):Option Nat:=match cs[k]? with
 |some c=>lS cs c
 |none=>none
theorem Nt(cs:List aH):(ag cs.length).map (qb cs)=iO cs:=by
 refine jS fun i=>?_;unfold iO;rw[aJ,aJ];by_cases h:i<cs.length
 ·rw[gs h,aK h];show some (qb cs i)=some (lS cs cs[i]);unfold qb;rw[aK h]
 ·rw[qt (by rw[e8];omega),qt (by omega)];rfl
theorem HN(cs:List aH):(iO cs).length=cs.length:=by
 unfold iO;rw[ν]
def u7(cs:List aH):List Nat:=(ag cs.length).filter fun k=>(qb cs k).isNone
theorem Nr(cs:List aH):(((ag (iO cs).length).zip (iO cs)).filter fun p=>p.2.isNone).map (fun p=>nD p.1)=(u7 cs).map nD:=by
 rw[HN,←Nt,HP,List.filter_map,cE];rfl
def xn:kv:=fun ds Q E=>∃cs:List aH,ds=[dQ cs]/\qj cs/\(bO cs≤10000->∀p G',fc dk p (.lst ((u7 cs).map nD)) G'->Q (.obj p) G')/\(10000<bO cs->yf E (bO cs))
def G7(E:E3):ar:=bS (fR ["place","number"] [] (As (ξ (jc xp E (ξ (π 0) (aa))) (aa))) (nS 2 (gU (hName 0) (gU (hName 1) (qY)))) (bQ (bc (Cq false) (π 1) (eC .az))) (π 0))
theorem Nq:∀ds Q E,xn ds Q E->G7 E (aT Q) (aO ["clocks"] ds) dk:=by
 rintro ds Q E ⟨cs,rfl,hs,q1,q2⟩;refine⟨cs,rfl,hs,fun hn p G1 n1 G2 j=>?_,q2⟩;have hp:G2 p=some (.lst ((iO cs).map oN)):=by rw[←Ny];exact j.new _ _ n1.at_
 refine⟨_,hp,?_⟩;rw[O5 oN (iO cs)];refine⟨?_,?_⟩
 ·show (((ag (iO cs).length).zip (iO cs)).map _).length≤ai;rw[ν,iT,e8];exact cK (by have:=hs.2;rw[HN];omega)
 refine nM (fun τ=>∃x y,τ=[x,y]) (fun p:Nat×Option Nat=>D.tup [nD p.1,oN p.2]) (fun p=>p.2.isNone) (fun p=>nD p.1) (G:=G2) hp ((ag (iO cs).length).zip (iO cs)) [] _ ⟨none,none,rfl⟩ ?_ ?_
 ·rintro⟨s,r⟩ hm τ K1 K2 ⟨x,y,rfl⟩ h1 h2;cases r with
  |none=>exact⟨rfl,fun _=>h1 rfl _ ⟨_,_,rfl⟩,nofun⟩
  |some r=>exact⟨rfl,nofun,fun _=>h2 rfl _ ⟨_,_,rfl⟩⟩
 ·intro p1 G3 n3;rw[dU,Nr] at n3;exact du (q1 hn p1 G3 ⟨rfl,nL _,n3.at_⟩)
end My
namespace My
open PySem L2 L3
theorem ze:∀ns:List Int,dW (ns.map D.int)=some (ns.map Dat.D.int):=by
 intro ns
 induction ns with
 |nil=>rfl
 |cons n ns ih=>
  show dW (D.int n::ns.map D.int)=_;rw[dW,ih];rfl
def tX(ns:List Int):Dat.D:=.tup (ns.map Dat.D.int)
theorem Np{G:Gp}(ns:List Int):qx G (tupI ns)=some (tX ns):=by
 show kD (.tup (ns.map D.int))=_;rw[kD,ze];rfl
theorem CQ(ms ns:List Int):Dat.i8 (ms.map Dat.D.int) (ns.map Dat.D.int)=decide (ms=ns):=by
 induction ms generalizing ns with
 |nil=>cases ns<;>rfl
 |cons m ms ih=>
  cases ns with
  |nil=>rfl
  |cons n ns=>
   show ((m==n)&&Dat.i8 (ms.map Dat.D.int) (ns.map Dat.D.int))=_;rw[ih,fG];simp
theorem Nn(ms ns:List Int):(tX ms).dZ (tX ns)=decide (ms=ns):=CQ ms ns
theorem CP(ns:List Int):Dat.fe (ns.map Dat.D.int)=0:=by
 induction ns with
 |nil=>rfl
 |cons n ns ih=>
  show max 0 (Dat.fe (ns.map Dat.D.int))=0;lia
def NZ:ar:=bS (dS um (ξ (fR ["ahead","place"] [] (DZ (ξ (π 1) (ξ (rJ (π 1) (jy (eC (.int 1))) (kM)) (aa)))) (nS 2 (gU (hName 0) (gU (hName 1) (qY)))) (eE) (bc qA (π 0) (π 1))) (aa)))
def GZ:ar:=bz (jV (qc (kh (bQ (oK "tuple" (π 1)))) (kh (bQ (dS um (ξ (fR ["place"] [0] (i6 (π 1)) (hName 0) (eE) (bt xO (ξ (π 1) (ξ (π 0) (aa))))) (aa)))))) (bS (eC (.bl false))) (ft)) NZ
theorem NY{ps:List Int}(h:ps.Pairwise (· < ·)):((ps.zip (ps.drop 1)).all fun p=>decide (p.1<p.2))=true:=by
 rw[eI];intro p hp;obtain⟨i,hi,e⟩:=lC hp;rw[iT,eH] at hi;rw[List.getElem_zip,List.getElem_drop] at e;rw[←e];exact decide_eq_true (eK.mp h i (1+i) (by lia) (by lia) (by lia))
end My
namespace fk
open PySem lL
section
variable {prog:Ψ} {w:af} {A:aq} {E:Value->ζ->Prop} {s:ζ}
def AY(p:Int×dG):Int×Value:=(hashInt p.1,.int p.1 p.2)
structure yn(w:af)(h:Ξ)(a:ε)(o:aA)(es:Array (Int×Value))(ep:Nat)(t:bh)(xs:List (Int×dG)):Prop where
 at_:h.get? a=some o
 ex:o.ExactSet
 dat:o.data=.set es ep t
 ents:es.toList=xs.map AY
 nd:(xs.map (·.1)).Nodup
 plain:t.plain=true
 led:t.led = !(w.params.followText "set-order")
theorem yn.wk{w:af}{h:Ξ}{a:ε}{o:aA}{es:Array (Int×Value)}{ep:Nat}{t:bh}{xs:List (Int×dG)}(S:yn w h a o es ep t xs):ki w h a o es ep t:=⟨S.at_,S.ex,S.dat,S.plain,S.led⟩
def je(w:af)(h:Ξ)(a:ε)(xs:List (Int×dG)):Prop:=∃o es ep t,yn w h a o es ep t xs/\Tab t (es.toList.map (·.1))
theorem zd(k:Int)(t:dG):(intKind prog w).is k (.int k t)=true:=by
 show Value.isInt k (.int k t)=true;simp[Value.isInt]
theorem Ll{es:Array (Int×Value)}{xs:List (Int×dG)}(h:es.toList=xs.map AY):ElemsOf (intKind prog w) es.toList:=fun e he=>by
 rw[h] at he;obtain⟨p,_,rfl⟩:=ah.mp he;exact⟨⟨p.1,zd p.1 p.2,rfl⟩,rfl⟩
theorem free_eq{t:bh}{hs:List Int}(T:Tab t hs){h:Int}{ke:Nat}(hke:ke≤10*t.mask+130)(hemp:(sq t.mask h ke).j∉t.place.toList)(hliv:∀k,k<ke->(sq t.mask h k).j∈t.place.toList):t.freeSlot h=some ((sq t.mask h ke).j,false):=by
 unfold bh.freeSlot;obtain⟨met,e,m⟩:=J8 T (hashAt:=fun _=>h+1) (n:=0) hke hemp hliv (aY _);have e':t.probe (fun _=>h+1) h (t.probeStart h)=some met:=e;rw[e'];cases m with
 |free h1 h5=>rfl
 |@yk k i h1 h2 h3 h4 h5=>
  exfalso;have h4:h+1=h:=by assumption
  lia
theorem NX{t:bh}{n:Nat}(h:t.fits n=true):t.orStandIn n=t:=by
 unfold bh.orStandIn;rw[h];rfl
theorem NW{t:bh}{es:Array (Int×Value)}(T:Tab t (es.toList.map (·.1))){h:Int}{x:Value}{ke:Nat}(hke:ke≤10*t.mask+130)(hemp:(sq t.mask h ke).j∉t.place.toList)(hliv:∀k,k<ke->(sq t.mask h k).j∈t.place.toList):
  layNew t es h x=(aI es (cu t.place (sq t.mask h ke).j) (h,x),{ t with place:=aI t.place (cu t.place (sq t.mask h ke).j) (sq t.mask h ke).j,dummies:=#[]},false,false) ∧
  pU { t with place:=aI t.place (cu t.place (sq t.mask h ke).j) (sq t.mask h ke).j,dummies:=#[]} ((aI es (cu t.place (sq t.mask h ke).j) (h,x)).toList.map (·.1)):=by
 have TR:=T.put hemp hliv;have hhs:(aI es (cu t.place (sq t.mask h ke).j) (h,x)).toList.map (·.1)=(es.toList.map (·.1)).take (cu t.place (sq t.mask h ke).j)++h::(es.toList.map (·.1)).drop (cu t.place (sq t.mask h ke).j):=by
  rw[pg,dg,bP,j7,j8]
 rw[←hhs] at TR;refine⟨?_,TR⟩;have hf:=pf TR;unfold layNew;rw[free_eq T hke hemp hliv];dsimp only;rw[Ju T.lR];dsimp only;rw[NX hf,hf];rfl
theorem NV{t:bh}{es:Array (Int×Value)}(T:pU t (es.toList.map (·.1)))(hf:t.tooFull=true)(h64:es.size≤64):
  ∃es2 t2,relayAll t es (fm es.size)=(es2,t2,false)/\es2.toList.Perm es.toList/\Tab t2 (es2.toList.map (·.1))/\t2.plain=t.plain/\t2.led=t.led:=by
 have hsz:(es.toList.map (·.1)).length=es.size:=vN;obtain⟨m,hm1,hm2,hm3,hm4⟩:=Jn T hf (by rw[hsz];exact h64);rw[hsz] at hm1 hm3;obtain⟨t2,order,e2,em,el,ep2,ef,hperm,T2⟩:=Jq (finger:=t.finger) (moves:=t.movedTo m) (led:=t.led) (plain:=t.plain) hm2 (es.map (·.1)) (by simpa using hm3);have erel:t.relaid (es.map (·.1)) (fm es.size)=some (t2,order):=by
  unfold vt;rw[hm1,Nat.add_sub_cancel];exact e2
 have hosz:(es.map (·.1)).size=es.size:=by simp
 rw[hosz] at hperm;have eT:(order.filterMap (es[·]?)).toList.map (·.1)=order.toList.filterMap fun k=>(es.map (·.1))[k]?:=by
  rw[gM,mm];congr 1;funext k;simp
 have hpm:(order.filterMap (es[·]?)).toList.Perm es.toList:=by
  rw[gM];have h1:=hperm.filterMap fun k=>es.toList[k]?;have h2:(ag es.size).filterMap (fun k=>es.toList[k]?)=es.toList:=by
   have:=zD es.toList;rw[bG] at this;exact this
  rw[h2] at h1;have e3:(fun k:Nat=>es[k]?)=fun k=>es.toList[k]?:=by
   funext k;rw[aW]
  rw[e3];exact h1
 rw[←eT] at T2;have hsz2:(order.filterMap (es[·]?)).size=es.size:=by rw[←bG,hpm.length_eq,bG]
 refine⟨order.filterMap (es[·]?),t2,?_,hpm,T2,ep2,el⟩;unfold relayAll;rw[erel];dsimp only;have hc:coversAll order es.size=true:=by
  unfold coversAll;exact List.isPerm_iff.mpr hperm
 rw[hc,pf (Tab.r T2)];rfl
theorem NU{a:ε}{xs:List (Int×dG)}(S:je w s.heap a xs)(h64:xs.length<64){k:Int}{tk0:dG}
  {Q:Bool->ζ->Prop} (h:∀b h' tk xs',s.toks≤tk->dn a s.heap h'->je w h' a xs'->(k∈xs.map (·.1)->xs'.Perm xs)->(k∉xs.map (·.1)->xs'.Perm ((k,tk0)::xs))->Q b { s with heap:=h',toks:=tk }):
  μ (model prog w) A (setAdd a (.int k tk0)) Q E s:=by
 obtain⟨o,es,ep,t,S,T⟩:=S;have hxl:xs.length=es.size:=by
  have:=congrArg gK S.ents;simpa using this.symm
 have hel:=Ll (prog:=prog) (w:=w) S.ents;have hb:es.size<scanBound:=ba (show es.size<64 by lia) (by decide);have hf:=pf (Tab.r T);unfold setAdd;refine aZ (δ (wpAny_pyHash_int ?_));unfold setAddHashed setAddHashedIn;refine aZ (δ (cI (s:={ s with toks:=s.toks+1 }) S.at_ S.dat hf ?_));dsimp only;rw[byScan_of (knd:=intKind prog w) (x:=.int k tk0) rfl hb hel];simp only[↓reduceIte];unfold setAddByScan;refine δ ?_;refine δ (fU ?_);refine δ (wpAny_setScan_of (knd:=intKind prog w) (s:={ s with toks:=s.toks+1 }) (zd k tk0) S.at_ S.dat hf hel ?_);have hmem:(∃e∈es.toList,(intKind prog w).is k e.2=true)↔k∈xs.map (·.1):=by
  rw[S.ents];constructor
  ·rintro⟨e,he,hi⟩;obtain⟨p,hp,rfl⟩:=ah.mp he;have:p.1=k:=(intKind prog w).inj _ _ _ (zd p.1 p.2) hi;rw[←this];exact ah.mpr ⟨p,hp,rfl⟩
  ·intro hm;obtain⟨p,hp,rfl⟩:=ah.mp hm;exact⟨AY p,ah.mpr ⟨p,hp,rfl⟩,zd p.1 p.2⟩
 cases hr:List.findIdx? (fun e=>(intKind prog w).is k e.2) es.toList with
 |some j=>
  dsimp only;obtain⟨hj,hpj,_⟩:=List.findIdx?_eq_some_iff_getElem.mp hr;have hin:=hmem.mp ⟨es.toList[j],km hj,hpj⟩;refine θ (θ ?_);exact h false s.heap (s.toks+1) xs (by lia) (.refl _ _) ⟨o,es,ep,t,S,T⟩ (fun _=>.refl _) fun z=>absurd hin z
 |none=>
  dsimp only;have hout:k∉xs.map (·.1):=fun z=>by
   obtain⟨e,he,hp⟩:=hmem.mpr z;have:=List.findIdx?_eq_none_iff.mp hr e he;rw[hp] at this;cases this
  obtain⟨ke,hke,hemp,hliv⟩:=Ka T (hashInt k);obtain⟨el,TR⟩:=NW T (x:=.int k tk0) hke hemp hliv;have hgw:∀(b:Bool) {s₁:ζ} {Q':Unit->ζ->Prop},Q' () s₁->μ (model prog w) A (match b with|true=>rule "set.scan.the-table-gave-way" | false=>pure ()) Q' E s₁:=
   fun b s₁ Q' hq=>by cases b<;>first|exact θ hq|exact fU hq
  have hh:(intKind prog w).hash k=hashInt k:=rfl;rw[el];generalize hp:cu t.place (sq t.mask (hashInt k) ke).j=p at TR ⊢;have hes1:(aI es p (hashInt k,Value.int k tk0)).toList=(xs.take p++(k,tk0)::xs.drop p).map AY:=by
   rw[pg,S.ents,dg,bP,j7,j8];rfl
  have hpx:(xs.take p++(k,tk0)::xs.drop p).Perm ((k,tk0)::xs):=sk p xs _;have hsz1:(aI es p (hashInt k,Value.int k tk0)).size=es.size+1:=by
   rw[←bG,pg,(sk p es.toList _).length_eq,aj,bG]
  have hnd:((xs.take p++(k,tk0)::xs.drop p).map (·.1)).Nodup:=by
   refine (hpx.map _).nodup_iff.mpr ?_;rw[bP,df];exact⟨hout,S.nd⟩
  generalize hE:aI es p (hashInt k,Value.int k tk0)=es1 at TR hes1 hsz1 ⊢;generalize hT1:({ t with place:=aI t.place p (sq t.mask (hashInt k) ke).j,dummies:=#[]}:bh)=t1 at TR ⊢;have hpl1:t1.plain=true:=by rw[←hT1];exact S.plain
  have hld1:t1.led = !(w.params.followText "set-order"):=by rw[←hT1];exact S.led
  dsimp only;refine δ (hgw false ?_);rw[hpl1];simp only[↓reduceIte];refine δ ?_;rw[hashByValue_scannable 8 (x:=.int k tk0) rfl];refine θ ?_;rw[show plainKind (Value.int k tk0)=true from rfl];simp only[↓reduceIte];refine δ (jP (s:={ s with toks:=s.toks+1 }) S.at_ S.dat ?_ (by rw[hsz1,bI];lia));have sb:=bK s.heap a (fV es1 t1);have hg:(s.heap.update a (fV es1 t1)).get? a=some { o with data:=.set es1 (ep+1) t1 }:=zB S.at_ S.dat;by_cases hfull:t1.tooFull=true
  ·rw[hfull];obtain⟨es2,t2,er,hpm,T2,hp2,hl2⟩:=NV TR hfull (by rw[hsz1];lia);rw[er];obtain⟨xs2,hx2,hes2⟩:=L3.pQ hpm hes1;refine δ (hgw false ?_);have hsz2:es2.size=es1.size:=by rw[←bG,hpm.length_eq,bG]
   refine δ (jP (s:={ s with heap:=s.heap.update a (fV es1 t1),toks:=s.toks+1 }) hg rfl ?_ (by rw[hsz2,hsz1,bI];lia));refine θ (θ ?_);have sb2:=bK (s.heap.update a (fV es1 t1)) a (fV es2 t2);exact h true _ (s.toks+1) xs2 (by lia) (sb.trans sb2) ⟨_,es2,ep+1+1,t2,⟨zB hg rfl,⟨S.ex.1,S.ex.2.1,S.ex.2.2⟩,rfl,hes2,(hx2.map _).nodup_iff.mpr hnd,hp2.trans hpl1,hl2.trans hld1⟩,T2⟩ (fun z=>absurd z hout) fun _=>hx2.trans hpx
  ·have hfull':t1.tooFull=false:=by simpa using hfull
   rw[hfull'];refine θ (θ ?_);exact h true _ (s.toks+1) _ (by lia) sb ⟨_,es1,ep+1,t1,⟨hg,⟨S.ex.1,S.ex.2.1,S.ex.2.2⟩,rfl,hes1,hnd,hpl1,hld1⟩,TR.tab hfull'⟩ (fun z=>absurd z hout) fun _=>hpx
end
end fk
namespace fk
open PySem lL
section
variable {prog:Ψ} {w:af} {A:aq} {E:Value->ζ->Prop} {s:ζ}
structure rp(ps xs:List (Int×dG)):Prop where
 sub:∀p∈xs,p∈ps
 all:∀p∈ps,p.1∈xs.map (·.1)
 len:xs.length≤ps.length
theorem rp.add{ps xs xs':List (Int×dG)}{p:Int×dG}(d:rp ps xs)(h1:p.1∈xs.map (·.1)->xs'.Perm xs)(h2:p.1∉xs.map (·.1)->xs'.Perm (p::xs)):rp (ps++[p]) xs':=by
 by_cases hm:p.1∈xs.map (·.1)
 ·have pm:=h1 hm;refine⟨fun q hq=>bT _ (d.sub q (pm.mem_iff.mp hq)),fun q hq=>?_,?_⟩
  ·rw[(pm.map _).mem_iff];rcases bp.mp hq with hq|hq
   ·exact d.all q hq
   ·have:q=p:=by simpa using hq
    rw[this];exact hm
  ·rw[pm.length_eq,aF];have:=d.len;lia
 ·have pm:=h2 hm;refine⟨fun q hq=>?_,fun q hq=>?_,?_⟩
  ·rcases Φ.mp (pm.mem_iff.mp hq) with e|e
   ·exact aV _ (by simp[e])
   ·exact bT _ (d.sub q e)
  ·rw[(pm.map _).mem_iff,bP];rcases bp.mp hq with hq|hq
   ·exact ω _ (d.all q hq)
   ·have:q=p:=by simpa using hq
    rw[this];exact Δ
  ·rw[pm.length_eq,aF,aj,g9];have:=d.len;lia
theorem je.kept{h h':Ξ}{S:ε}{xs:List (Int×dG)}(hS:je w h S xs)(kp:∀ob,h.get? S=some ob->h'.get? S=some ob):je w h' S xs:=by
 obtain⟨o,es,ep,t,q,T⟩:=hS;exact⟨o,es,ep,t,⟨kp _ q.at_,q.ex,q.dat,q.ents,q.nd,q.plain,q.led⟩,T⟩
theorem NT{I:ε}{fp:List ε}{n:Nat}{P:Nat->Value->Prop}{St:Nat->Ξ->Prop}(W:Walks prog w A.in1 I fp [I] n P St)(S:ε)(hSf:S∉fp)(ps:List (Int×dG))(hps:ps.length=n)(hn:n≤60)
  (D0:∀(i:Nat) v,P i v->∃p,ps[i]?=some p/\v=.int p.1 p.2) {R:Result->ζ->Prop}:
  ∀(k i:Nat) (s:ζ) (xs:List (Int×dG)),n-i=k->i≤n->St i s.heap->je w s.heap S xs->rp (ps.take i) xs ->
   (∀h' tk xs',(∀b ob,b≠S->b≠I->s.heap.get? b=some ob->h'.get? b=some ob)->je w h' S xs'->rp ps xs'->R (.ok (.ret .none)) { s with heap:=h',toks:=tk }) ->
   fF (model prog w) A (.builtin "set.update.loop" ⟨[.ref S,.ref I],[]⟩) R s:=by
 have hSI:S≠I:=fun e=>hSf (W.sub _ (by rw[e];simp));intro k
 induction k with
 |zero=>
  intro i s xs hk hi hst hS hd hR;have hin:i=n:=by lia
  subst hin;refine cz dM ?_;rw[bU bX _];show μ _ A.in1 (pyNext (.ref I) >>= _) _ _ s;refine δ (W.done s _ _ hst fun h' tk kp=>?_);show μ _ A.in1 (ret Value.none) _ _ _;have hd':rp ps xs:=by
   rw[←hps,oj] at hd;exact hd
  exact θ (hR h' tk xs (fun b ob _ hb e=>kp b ob (by simpa using hb) e) (hS.kept fun ob e=>kp S ob (by simpa using hSI) e) hd')
 |succ k ih=>
  intro i s xs hk hi hst hS hd hR;have hlt:i<n:=by lia
  refine cz dM ?_;rw[bU bX _];show μ _ A.in1 (pyNext (.ref I) >>= _) _ _ s;refine δ (W.item i s _ _ hlt hst fun v h1 tk1 hP hst1 kp1=>?_);obtain⟨p,hp,rfl⟩:=D0 i v hP;have kp1':∀b ob,b≠I->s.heap.get? b=some ob->h1.get? b=some ob:=fun b ob hb e=>kp1 b ob (by simpa using hb) e;have hS1:=hS.kept fun ob e=>kp1' S ob hSI e;show μ _ A.in1 (holding [Value.int p.1 p.2] (setAdd S (.int p.1 p.2)) >>= _) _ _ _;have hlen:xs.length<64:=by
   have h1:=hd.len;rw[ck] at h1;lia
  refine δ (aZ (NU (s:={ s with heap:=h1,toks:=tk1 }) hS1 hlen fun b h2 tk2 xs2 _ sb hS2 q1 q2=>?_));have hd2:rp (ps.take (i+1)) xs2:=by
   rw[List.take_add_one,hp];exact hd.add q1 q2
  refine θ ⟨gy bX _,ih (i+1) _ xs2 (by lia) hlt (W.frame _ _ _ hst1 fun c hc ob e=>(sb.2 c (fun z=>hSf (z▸hc))).trans e) hS2 hd2 fun h' tk xs' kp' a1 a2=>?_⟩;exact hR h' tk xs' (fun c ob c1 c2 e=>kp' c ob c1 c2 ((sb.2 c c1).trans (kp1' c ob c2 e))) a1 a2
theorem vY{l:ε}{vs:List Value}{ps:List (Int×dG)}{Q:Value->ζ->Prop}(hh:A.handled=none)(hl:s.heap.IsTuple l vs.toArray)(hv:vs=ps.map fun p=>Value.int p.1 p.2)(hn:ps.length≤60)
  (h:∀h' tk xs,(∀b ob,s.heap.get? b=some ob->h'.get? b=some ob)->je w h' s.heap.objs.size xs->rp ps xs->Q (.ref s.heap.objs.size) { s with heap:=h',toks:=tk }):
  μ (model prog w) A (call (.type "set") [.ref l]) Q E s:=by
 obtain⟨c,tl,hmro⟩:=F.called_set.mro;have hmade:=F.called_set.made;have hsub:=F.called_set.sub;refine eV (iR ?_);show μ _ _ (callAny (.type "set") _) _ _ _;refine θ ⟨jw _ (by decide +kernel),cz F.entry_type_call ?_⟩;rw[tH (weight_type_call_type "set" [.ref l] []) rfl];have h1:=F.called_set.notType;have h2:=F.called_set.canCreate;have hct:=F.typeCall_set_1 (.ref l)
 repeat (any_goals (first|assumption|wp_step))
 refine cZ (Jf (.ref l) (E:=E) (Q₁:=fun obj s₁=>obj=.ref s.heap.objs.size/\s₁={ s with heap:=s.heap.push (cS w)}) ⟨rfl,rfl⟩) fun r s₁ hr=>?_;cases r with
 |error e=>exact hr
 |ok fl=>
  cases fl with
  |ret obj=>
   obtain⟨rfl,rfl⟩:=hr;have hS:(s.heap.push (cS w)).get? s.heap.objs.size=some (cS w):=ψ _ rfl;have hT:mB { s with heap:=s.heap.push (cS w)} (.ref s.heap.objs.size) "set":=⟨_,hS,rfl⟩;have hli:=F.called_set.init.lookup;have hbi:=F.called_set.init.bind (.ref s.heap.objs.size)
   repeat (any_goals (first|assumption|wp_step))
   refine cZ (il (R:=wants (fun r s₂=>r=.none/\∃h' tk xs,s₂={ s with heap:=h',toks:=tk }/\(∀b ob,s.heap.get? b=some ob->h'.get? b=some ob)/\je w h' s.heap.objs.size xs/\rp ps xs) E)
    F.called_set.init.plain F.entry_set_init (check_set_init_1 hT ?_)) fun r₂ s₂ hr₂=>?_
   ·obtain⟨ol,hol,hcl,nl,hdl⟩:=hl;obtain⟨ocls,odict,odata,oslots⟩:=ol;simp only at hcl hdl;subst hcl;subst hdl;have hol':(s.heap.push (cS w)).get? l=some { cls:=.type "tuple",dict:=odict,data:=.seq vs.toArray nl,slots:=oslots }:=η _ hol;have hsls:=F.sub_tuple_set;have hslf:=F.sub_tuple_frozenset;have cy:(Value.type "tuple" == Value.type "dict")=false:=by decide
    have hl1:(s.heap.push (cS w)).IsTuple l vs.toArray:=⟨_,hol',rfl,nl,rfl⟩;have hS2:(s.heap.push (cS w)).get? s.heap.objs.size=some { cls:=.type "set",dict:=none,data:=.set #[] 0 (.fresh 0 0 (!(jd w)))}:=hS;unfold cM.«set.__init__» noKeywords lP;generalize hPI:pyIter=PI;wp_walk;subst hPI;refine cO hl1 ?_;refine δ (jD ?_);have hlS:l<s.heap.objs.size:=χ hol;have hh3:A.in1.in1.in1.handled=none:=by simp[hh]
    have hsz:(s.heap.push (cS w)).objs.size=s.heap.objs.size+1:=de ..;have hneI:l≠(s.heap.push (cS w)).objs.size:=by
     rw[hsz];exact av (e7 hlS)
    have hSf:s.heap.objs.size∉[(s.heap.push (cS w)).objs.size,l]:=by
     rw[hsz];intro z;rcases Φ.mp z with z|z
     ·exact absurd z (av (iq _))
     ·have:s.heap.objs.size=l:=by simpa using z
      exact absurd this (fx hlS)
    have hlen:vs.toArray.size=ps.length:=by rw[hv];simp
    refine NT (Walks.tuple hh3 _ l hneI vs.toArray) s.heap.objs.size hSf ps hlen.symm (by rw[hlen];exact hn) (fun i v e=>?_) (vs.toArray.size-0) 0 _ [] rfl (aY _)
     ⟨⟨_,ψ _ rfl,rfl,rfl⟩,hl1.push _⟩ ?hS0 ⟨(fun p hp=>(nomatch hp)),(fun p hp=>by rw[List.take_zero] at hp;cases hp),aY _⟩ ?hR
    case hS0=>
     refine⟨_,#[],0,_,⟨η _ hS2,⟨rfl,rfl,rfl⟩,rfl,rfl,g8,rfl,rfl⟩,Je _⟩
    case hR=>
     intro h' tk xs q1 q2 q3;refine θ ?_;show μ _ _ (ret Value.none) _ _ _;refine θ ⟨rfl,h',tk,xs,rfl,fun b ob e=>?_,q2,q3⟩;have hb:=χ e;refine q1 b ob (av hb) ?_ (η _ (η _ e));rw[hsz];exact av (e7 hb)
    ·rw[hv,kz,aJ] at e;cases hp:ps[i]? with
     |none=>rw[hp] at e;cases e
     |some p=>rw[hp] at e;exact⟨p,rfl,(ao e).symm⟩
   ·cases r₂ with
    |error e=>exact hr₂
    |ok fl₂=>
     cases fl₂ with
     |ret r=>
      obtain⟨rfl,h',tk,xs,rfl,q1,q2,q3⟩:=hr₂
      repeat (any_goals (first|assumption|wp_step))
      exact h _ _ _ q1 q2 q3
     |_=>exact hr₂.elim
  |_=>exact hr.elim
end
end fk
namespace tU
open PySem PySem.W PyProof.Rows fk Et oQ
section
variable {prog:Ψ} {w:af} {A:aq} {E:Value->ζ->Prop} {s:ζ}
abbrev vI(p:Int×dG):Value:=.int p.1 p.2
abbrev ltI(x y:Int×dG):Bool:=decide (x.1<y.1)
theorem Zc:yo ltI:=⟨fun _ _ h=>decide_eq_false (by have:=of_decide_eq_true h;omega),fun _ _ _ h1 h2=>decide_eq_false (by have:=of_decide_eq_false h1;have:=of_decide_eq_false h2;omega)⟩
abbrev Lx(ps qs:List (Int×dG)):Prop:=uK ltI ps qs
theorem yR{l:ε}{ps:List (Int×dG)}{Q:Value->ζ->Prop}(h64:ps.length<64)
  (ye:∀(R:List Value->ζ->Prop),(∀s',m8 [] (fun x y=>y=x) s s'->R (ps.map vI) s')->μ (model prog w) A.in1 (collect (.ref l)) R E s)
  (h:∀qs s' c D,Lx ps qs->s.heap.get? D=none->s'.heap.get? D=some (seqObj "list" (qs.map vI).toArray c)->m8 [] (fun x y=>y=x) s s'->Q (.ref D) s'):
  μ (model prog w) A (call (.builtin "sorted") [.ref l]) Q E s:=by
 refine Ja (κ:=oneType') (d:=(0,0)) Zc (fun s' h2 kk=>⟨fun Q E q=>?_,fun i j hi hj C h=>?_⟩) h64 ye h
 ·refine kas_kind (T:=.type "int") (by rw[ν];exact h2) (fun v hv=>?_) (by decide) rfl q;obtain⟨p,_,rfl⟩:=ah.mp hv;exact .now
 ·unfold kx;rw[xB (d:=(0,0)) hi,xB (d:=(0,0)) hj,keyLt'_oneType];exact oneLt_int h
end
end tU
namespace L3
open PySem PySem.Spec PyProof.Rows L2
def wq(w:af)(b:ε)(zs:List (Int×dG)):Ξ->Prop:=fun h=>fk.je w h b zs
theorem B0:∀{ns:List Int} {us:List Value},aS (ns.map V.int) us->∃ps:List (Int×dG),ps.map (·.1)=ns/\us=ps.map tU.vI
 |[],us,r=>by
  cases r;exact⟨[],rfl,rfl⟩
 |n::ns,us,r=>by
  cases r with
  |cons r1 r2=>
   obtain⟨t,rfl⟩:=(show ∃t,_=Value.int n t from r1);obtain⟨ps,e1,e2⟩:=B0 r2;exact⟨(n,t)::ps,by simp[e1],by simp[e2]⟩
theorem lX:∀(qs:List (Int×dG)),aS ((qs.map (·.1)).map V.int) (qs.map tU.vI)
 |[]=>.nil
 |q::qs=>.cons ⟨q.2,rfl⟩ (lX qs)
section
variable {X:Cx}
theorem NS(hc:X.calm=true):gB X (.type "set") (fun vs H Q=>∃(a:ε) (ns:List Int),vs=[.ref a]/\bZ X.K H a (ns.map V.int)/\ns.length≤60 ∧
  ∀(b:ε) (zs:List (Int×dG)),H b=none->(∀n,n∈zs.map (·.1)↔n∈ns)->(zs.map (·.1)).Nodup->zs.length≤ns.length->Q (.ref b) (upd H b (.ext (wq X.w b zs)))):=by
 intro pins s σ H vs us Q I r h;obtain⟨a,ns,rfl,hl,hz,q⟩:=h;obtain⟨u,rfl,ru⟩:=vals1 r;cases ru;obtain⟨its,rv,pl,_⟩:=I.tuple hl;obtain⟨ps,e1,e3⟩:=B0 rv;subst e3;have hlen:ps.length=ns.length:=by rw[←e1,ν]
 refine fk.vY (ps:=ps) (I.ok.hd hc) pl rfl (by lia) fun h' tk zs kk hS hD=>?_;refine⟨.ref s.heap.objs.size,_,I.laid (o:=.ext (wq X.w s.heap.objs.size zs)) kk (Ω _) ?_,rfl,?_⟩
 ·refine⟨hS,?_,fun h1 h2 hh kk2=>?_⟩
  ·obtain⟨o,es,ep,t,S,T⟩:=hS;exact⟨o,S.at_⟩
  ·exact fk.je.kept hh fun ob e=>kk2 _ e
 ·have hnd:(zs.map (·.1)).Nodup:=by
   obtain⟨o,es,ep,t,S,T⟩:=hS;exact S.nd
  refine q _ zs (I.bf.fresh (Ω _)) (fun n=>?_) hnd ?_
  ·rw[←e1];constructor
   ·intro hm;obtain⟨p,hp,rfl⟩:=ah.mp hm;exact ah.mpr ⟨p,hD.sub p hp,rfl⟩
   ·intro hm;obtain⟨p,hp,rfl⟩:=ah.mp hm;exact hD.all p hp
  ·rw[←hlen];exact hD.len
theorem NR{Q:VK}{pins:List (ε×aA)}{σ:L2.St}{H:Hp}{s:ζ}(I:L2.Inv X pins σ H s){ps qs:List (Int×dG)}{s':ζ}{c:Nat}{D':ε}(hz:ps.length<64)(hS:tU.Lx ps qs)(hn:s.heap.get? D'=none)(hD:s'.heap.get? D'=some (seqObj "list" (qs.map tU.vI).toArray c))
  (hm:m8 [] (fun x y=>y=x) s s') (q:H D'=none->Q (.ref D') (upd H D' (.lst ((qs.map (·.1)).map V.int)))):EP X pins σ Q (.ref D') s':=by
 have e:s'={ s with heap:=s'.heap,toks:=s'.toks }:=by
  cases s';cases s;have h1:=hm.gens;have h2:=hm.drawn;have h3:=hm.os;simp only at h1 h2 h3;subst h1 h2 h3;rfl
 rw[e];refine⟨.ref D',_,Inv.ER I (o:=.lst ((qs.map (·.1)).map V.int)) (fun b u z=>hm.heap b u (fun y=>nomatch y) z) hn ?_,rfl,q (Inv.Ax I hn)⟩;refine⟨?_,_,c,lX qs,hD⟩;rw[ν,ν,hS.perm.length_eq,bI];lia
theorem NQ(hc:X.calm=true):gB X (.builtin "sorted") (fun vs H Q=>∃(b:ε) (zs:List (Int×dG)),vs=[.ref b]/\H b=some (.ext (wq X.w b zs))/\zs.length≤60 ∧
  ∀(p:ε) (ms:List Int),H p=none->ms.Perm (zs.map (·.1))->ms.Pairwise (· ≤ ·)->Q (.ref p) (upd H p (.lst (ms.map V.int)))):=by
 intro pins s σ H vs us Q I r h;obtain⟨b,zs,rfl,hb,hz,q⟩:=h;obtain⟨u,rfl,ru⟩:=vals1 r;cases ru;obtain⟨⟨o,es,ep,t,S,T⟩,_⟩:=(show bH X.prog X.w H s.heap b _ from I.bf b _ hb);obtain⟨zs',p1,p2⟩:=pQ (fk.kC X.w b ep es) S.ents;have hsz:es.size=zs.length:=by
  have:es.toList.length=zs.length:=by rw[S.ents,ν]
  simpa using this
 refine tU.yR (ps:=zs') (by rw[p1.length_eq];lia) (fun R hR=>?_) fun qs s' c D' hS hn hD hm=>?_
 ·refine fk.p8 (by have:=I.ok.hd hc;simpa using this) S.wk T (by lia) fun s' hm=>?_;have:=hR s' hm;rw[p2,cE];exact this
 ·refine NR I (by rw[p1.length_eq];lia) hS hn hD hm fun hf=>?_;exact q _ (qs.map (·.1)) hf ((hS.perm.map _).trans (p1.map _)) (cm.mpr (hS.rise.imp fun {a b} h=>by have h:=of_decide_eq_false h;lia))
end
section
variable {X:Cx} {e:ο} {ta:ax} {pos p p' pos':ay}
def sP(ta:ax):ax:=fun τ G Q=>ta τ G fun x G1=>match x with
 |.tup ds=>∃ns:List Int,ds=ns.map D.int/\ns.length≤60/\∀(p:ε) (ms:List Int) (G':Gp),fc G1 p (.lst (ms.map D.int)) G'->(∀n,n∈ms↔n∈ns)->ms.Pairwise (· < ·)->Q (.obj p) G'
 |_=>False
theorem YZ{K:PySem.W.Frag}{H:Hp}{ns:List Int}{xs:List V}(h:aw K H (ns.map D.int) xs):xs=ns.map V.int:=by
 refine sv h ?_;clear h
 induction ns with
 |nil=>rfl
 |cons n ns ih=>simp[intsOf,ih]
theorem YY(ha:bE X e ta)(hm:X.mg "sorted" = none)(hm2:X.mg "set" = none)(hc:X.calm=true:=by rfl)(hg:Gl X "sorted":=by rfl)(hg2:Gl X "set":=by rfl)(he2:notStar e=true:=by rfl):
  bE X (.Call (.Name "sorted" p) [.Call (.Name "set" p') [e] [] pos'] [] pos) (sP ta):=
 gP (pq (NQ hc) hg hm rfl (lG (vO (NS hc) hg2 hm2 rfl (lG ha pz (dB he2)) (he:=dB he2) (hpl:=iM rfl)) pz (dB rfl)) (he:=dB rfl) (hpl:=iM rfl)) fun σ H Q ⟨τ,G,Q3,RS,RG,h,k⟩=>by
  refine⟨τ,G,_,RS,RG,h,fun v H1 d G1 h1 S1 R1 q1=>?_⟩;cases d with
  |tup ds=>
   obtain⟨ns,rfl,hz,q⟩:=q1;obtain⟨a,xs,rfl,e2,e3⟩:=mG h1;have:=YZ e3;subst this;refine⟨a,ns,rfl,e2,hz,fun b zs hb hmem hnd hlen=>?_⟩;refine⟨b,zs,rfl,gh,by lia,fun p ms hp hpm hr=>?_⟩;have R2:aD X.K G1 (upd H1 b (.ext (wq X.w b zs))):=R1.laid hb;refine k _ _ (.obj p) _ pk ((S1.trans (.laid hb)).trans (.gr hp)) (R2.sD hp (aw.ints ms)) (q p ms _ (.mk' (R2.free hp)) (fun n=>?_) ?_)
   ·rw[hpm.mem_iff];exact hmem n
   ·refine (hr.and (hpm.nodup_iff.mpr hnd)).imp fun {a b} hab=>?_;have:=hab.1;have:=hab.2;lia
  |_=>exact q1.elim
theorem YX(ha:QE X e ta)(hm:X.mg "sorted" = none)(hm2:X.mg "set" = none)(hc:X.calm=true:=by rfl)(hg:Gl X "sorted":=by rfl)(hg2:Gl X "set":=by rfl)(he2:notStar e=true:=by rfl):
  QE X (.Call (.Name "sorted" p) [.Call (.Name "set" p') [e] [] pos'] [] pos) (sP ta):=⟨YY ha.of hm hm2 hc hg hg2 he2⟩
end
end L3
namespace L2
open PySem PySem.Spec PyProof.Rows
section
variable {X:Cx} {pins:List (ε×aA)} {σ:St} {H:Hp} {s:ζ} {a:ε} {y v:V} {u r:Value} {o:Option V} {A:aq} {E:Value->ζ->Prop}
theorem Inv.big(I:Inv X pins σ H s):sysModules<s.heap.objs.size:=by
 have h:aL<s.heap.objs.size:=(I.mod.glob.keeps I.bk).lt;exact la (by decide) h
theorem YW{h':Ξ}{t':Nat}{ob:HO}(I:Inv X pins σ H s)(mu:Cf (H a))(hs:dn a s.heap h')(he:∃q,h'.get? a=some q)(new:bH X.prog X.w (upd H a ob) h' a ob):
  Inv X pins σ (upd H a ob) { s with heap:=h',toks:=t' }:=
 I.write (x:=a) (e:=a) mu (.inl rfl) (fun b q hb z=>(hs.2 b hb).trans z) he new
end
end L2
namespace L3
open PySem PySem.Spec PyProof.Rows L2
abbrev qU:=List Int×ε×Value
def nT(a:ε)(xs:List qU):Ξ->Prop:=fun h=>∃P w o es ep,h.get? a=some o/\o.ExactDict/\o.data=.dict es ep/\es.toList=xs.map (entryOfKey (tupleKind (intKind P w)))/\(xs.map (·.1)).Nodup/\(a==sysModules)=false
def sR(ks:List (List Int)):PySem.W.Frag->ε->Hp->Prop:=fun K a H=>∃xs:List qU,H a=some (.ext (nT a xs))/\xs.map (·.1)=ks/\∀x∈xs,bZ K H x.2.1 (x.1.map V.int)
def pP(ks:List (List Int))(k:List Int):List (List Int):=if k∈ks then ks else ks++[k]
section
variable {K:PySem.W.Frag} {H:Hp} {G:Gp} {a p:ε} {ks:List (List Int)}
theorem GY(h:sR ks K a H):sW K H a (.gen (sR ks)):=
 ⟨h,let ⟨xs,e,_⟩:=h;⟨_,e,fun _=>nofun,fun _ _=>nofun⟩,fun H1 H2 h1 h2 e ⟨xs,z,r,q⟩=>⟨xs,e.trans z,r,fun x hx=>bZ.ext ⟨h1,h2⟩ (q x hx)⟩⟩
theorem Ext.uO{φ:Ξ->Prop}{o:HO}(h:H p=some (.ext φ)):Ext H (upd H p o):=
 ⟨fun b ys e=>by
  rw[dj fun z=>by rw[z,h] at e;cases e];exact e,fun b x u e=>by
  rw[dj fun z=>by rw[z,h] at e;cases e];exact e⟩
theorem aD.uO{φ:Ξ->Prop}{o:HO}{g:GO}(R:aD K G H)(h:H p=some (.ext φ))(new:sW K (upd H p o) p g):aD K (dX G p g) (upd H p o):=fun a u e=>by
 by_cases z:a=p
 ·subst z;rw[lF] at e;cases e;exact new
 ·rw[oI z] at e;exact (R a u e).ext (Ext.uO h) (dj z)
theorem yH{P:Ψ}{w:af}{h:Ξ}{xs:List qU}(d:nT a xs h):bH P w H h a (.ext (nT a xs)):=
 ⟨d,let ⟨_,_,o,_,_,e,_⟩:=d;⟨o,e⟩,fun h1 h2 ⟨P,w,o,es,ep,e,r⟩ kk=>⟨P,w,o,es,ep,kk _ e,r⟩⟩
theorem YV{xs:List qU}(k:List Int)(b:ε)(v:Value):(storedH xs k b v).map (·.1)=pP (xs.map (·.1)) k:=by
 have hk:(atKey xs k).isSome=decide (k∈xs.map (·.1)):=by
  unfold atKey;rw[Option.isSome_map,fG,List.find?_isSome,decide_eq_true_iff,ah];constructor
  ·rintro⟨x,hx,e⟩;exact⟨x,hx,of_decide_eq_true e⟩
  ·rintro⟨x,hx,e⟩;exact⟨x,hx,decide_eq_true e⟩
 unfold storedH pP;rw[hk];by_cases q:k∈xs.map (·.1)
 ·rw[if_pos (decide_eq_true q),if_pos q,cE];refine fh fun x _=>?_;show (putAt k v x).1=x.1;unfold putAt;split<;>rfl
 ·rw[if_neg (by simpa using q),if_neg q,dg];rfl
theorem YU{xs:List qU}{k:List Int}{b:ε}{v:Value}{x:qU}(h:x∈storedH xs k b v):(∃y∈xs,y.1=x.1/\y.2.1=x.2.1)∨(x.1=k/\x.2.1=b):=by
 unfold storedH at h;split at h
 ·obtain⟨y,hy,rfl⟩:=ah.mp h;refine .inl ⟨y,hy,?_⟩;unfold putAt;split<;>exact⟨rfl,rfl⟩
 ·rcases bp.mp h with h|h
  ·exact .inl ⟨x,h,rfl,rfl⟩
  ·rw[aP.mp h];exact .inr ⟨rfl,rfl⟩
end
section
variable {X:Cx} {pins:List (ε×aA)} {σ:L2.St} {H:Hp} {s:ζ} {a b:ε} {A:aq} {E:Value->ζ->Prop}
theorem GX(I:L2.Inv X pins σ H s){k:List Int}(h:bZ X.K H b (k.map V.int)):(tupleKind (intKind X.prog X.w)).is s.heap k b:=by
 obtain⟨its,rv,⟨o,h1,h2,n,h3⟩,_⟩:=I.tuple h;exact⟨o,its.toArray,n,h1,h2,h3,Dm rv⟩
theorem YT{k:List Int}{xs:List qU}{r:Value}{Q:Unit->ζ->Prop}(hu:A.units+1<cLine)(I:L2.Inv X pins σ H s)(e:H a=some (.ext (nT a xs)))(hx:∀x∈xs,bZ X.K H x.2.1 (x.1.map V.int))(hk:bZ X.K H b (k.map V.int))(hl:xs.length≤1000)
  (h:∀s' ys,L2.Inv X pins σ (upd H a (.ext (nT a ys))) s'->ys.map (·.1)=pP (xs.map (·.1)) k->(∀x∈ys,bZ X.K H x.2.1 (x.1.map V.int))->Q () s'):
  μ (model X.prog X.w) A (setItem (.ref a) (.ref b) r) Q E s:=by
 obtain⟨⟨P,w,o,es,ep,z1,z2,z3,z4,z5,z6⟩,_⟩:=(show bH X.prog X.w H s.heap a _ from I.bf a _ e);have dd:s.heap.DictOfH (tupleKind (intKind X.prog X.w)) a xs:=⟨o,es,ep,z1,z2,z3,z4,fun x hm=>GX I (hx x hm),z5⟩;refine wpAny_setItem_heap (hsz:=by rw[bI];omega) (tupleKind_room_in1 hu) (GX I hk) dd fun h' dd' hs=>?_;obtain⟨q,es',ep',hq,y2,y3,y4,_,y5⟩:=dd';refine h _ (storedH xs k b r) (YW I (by rw[e];exact m5) hs ⟨q,hq⟩ (yH ⟨X.prog,X.w,q,es',ep',hq,y2,y3,y4,y5,z6⟩)) (YV k b r) fun x hm=>?_;rcases YU hm with⟨y,hy,e1,e2⟩|⟨e1,e2⟩
 ·rw[←e1,←e2];exact hx y hy
 ·rw[e1,e2];exact hk
theorem YS{d:ε}{o:aA}{es:Array tD}{ep:Nat}{prog:Ψ}{w:af}{Q:Value->ζ->Prop}(hd:(d==sysModules)=false)(ho:s.heap.get? d=some o)(hc:o.ExactDict)(hdat:o.data=.dict es ep)(hfit:(es.size:Int)<2^63)
  (h:Q (.int es.size (s.toks+1)) { s with toks:=s.toks+1+1 }):μ (model prog w) A (call (.builtin "len") [.ref d]) Q E s:=by
 have hT:s.TypeIs (.ref d) "dict":=⟨o,ho,hc.1⟩;refine nh kind_len plain_len entry_len (args_len1 _) ?_;unfold cM.«len»;refine δ (m:=oneArg "len" _) (θ ?_);have hm:MeetsIn prog w (cM.«dict.__len__» ⟨[.ref d],[]⟩) (fun _ R s=>∃o es ep,s.heap.get? d=some o/\o.data=.dict es ep/\R (.ok (.ret (.int es.size s.toks))) { s with toks:=s.toks+1 }):=.of_wp fun A R s ⟨o,es,ep,ho,hdat,h⟩=>by
  show μ _ _ (dictSize d >>= _) _ _ s;unfold dictSize;refine δ (δ (wpAny_dictEntries ho hdat (θ ?_)));show μ _ _ (cM.Dict.pendingCount d >>= _) _ _ s;refine δ (wpAny_pendingCount_other hd ?_);refine wpAny_ret_mkInt ?_;rw[Nat.add_zero];exact h
 refine δ (m:=callSpecial? (.ref d) (dm "__len__")) (bC (name:=dm "__len__") hT F.slot_dict_len
  (call_meetsIn F.slot_dict_len hT F.entry_dict_len (F.args_dict_len_1 _) hm ⟨o,es,ep,ho,hdat,?_⟩))
 show μ _ _ _ _ _ { s with toks:=s.toks+1 };refine δ (aZ (θ ?_));refine δ (pW ?_);show μ _ _ (if ((es.size:Nat):Int)<0 then _ else _) _ _ _;rw[if_neg (by omega)];show μ _ _ (if ((es.size:Nat):Int)≥2^63 then _ else _) _ _ _;rw[if_neg (by omega)];exact δ (wpAny_mkInt (θ ⟨_,rfl,h⟩))
end
section
variable {X:Cx} {o i e:ο} {pos pos' p:ay} {to ti tv ta:ax}
def A3:ax:=fun _ G Q=>∀p G2,fc G p (.gen (sR [])) G2->Q (.obj p) G2
theorem YR:PE X (.Dict [] [] pos) (fun _ H Q=>∀p,H p=none->Q (.ref p) (upd H p (.ext (nT p [])))):=fun pins s σ H Q I h=>
 wpAny_Dict_empty ⟨.ref s.heap.objs.size,_,I.laid (a:=s.heap.objs.size) (o:=.ext (nT s.heap.objs.size [])) (t':=s.toks) (fun _ _ q=>η _ q) (Ω _) (yH ⟨X.prog,X.w,_,#[],0,ψ _ rfl,⟨rfl,rfl,rfl⟩,rfl,rfl,g8,beq_eq_false_iff_ne.mpr (da (av I.big))⟩),rfl,h _ (I.bf.fresh (Ω _))⟩
theorem YQ:bE X (.Dict [] [] pos) A3:=gP YR fun σ H Q ⟨τ,G,Q3,RS,RG,h,k⟩ p hp=>
 k _ _ (.obj p) _ pk (.gr hp) (RG.gr hp (GY ⟨[],gh,rfl,fun x hx=>nomatch hx⟩)) (h p _ (.mk' (RG.free hp)))
def yU(to ti tv:ax):ar:=fun D τ G=>tv τ G fun _ G1=>to τ G1 fun o G2=>ti τ G2 fun x G3=>match o,x with
 |.obj p,.tup ds=>∃ks k,G3 p=some (.gen (sR ks))/\ds=k.map .int/\ks.length≤1000/\D.nx τ (dX G3 p (.gen (sR (pP ks k))))
 |_,_=>False
theorem YO{td ty tv:TE}(hu:X.A.units+1<cLine)(ho:PE X o td)(hi:PE X i ty)(hv:PE X e tv)(hs:swapsWith e (some (.Subscript o i pos')) pos.line X.env=pure false):
  PS X (.Assign [.Subscript o i pos'] e pos) (fun D σ H=>tv σ H fun v H1=>td σ H1 fun x H2=>ty σ H2 fun y H3=>∃a b xs k,x=.ref a/\y=.ref b/\H3 a=some (.ext (nT a xs))/\(∀x∈xs,bZ X.K H3 x.2.1 (x.1.map V.int))/\bZ X.K H3 b (k.map V.int)/\xs.length≤1000 ∧
   ∀ys:List qU,ys.map (·.1)=pP (xs.map (·.1)) k->(∀x∈ys,bZ X.K H3 x.2.1 (x.1.map V.int))->D.nx σ (upd H3 a (.ext (nT a ys)))):=by
 intro pins s σ H D I h;refine wpAny_Assign_Subscript (br (hv pins s σ H _ I h) fun r s1 ⟨v,H1,I1,rv,q1⟩=>br (ho pins s1 σ H1 _ I1 q1) fun u s2 ⟨x,H2,I2,rx,q2⟩=>br (hi pins s2 σ H2 _ I2 q2) fun iv s3 ⟨y,H3,I3,ry,a,b,xs,k,ex,ey,z1,z2,z3,z4,q3⟩=>?_) hs;subst ex ey;obtain rfl:u=Value.ref a:=rx;obtain rfl:iv=Value.ref b:=ry;exact YT hu I3 z1 z2 z3 z4 fun s4 ys I4 y1 y2=>⟨σ,_,I4,q3 ys y1 y2⟩
theorem YN(hu:X.A.units+64<cLine)(ho:bE X o to)(hi:bE X i ti)(hv:bE X e tv)(hs:swapsWith e (some (.Subscript o i pos')) pos.line X.env=pure false:=by rfl):
  mL X (.Assign [.Subscript o i pos'] e pos) (yU to ti tv):=
 mx (YO (jo (by omega) hu) ho hi hv hs) fun D σ H ⟨τ,G,D3,RS,RG,h,k⟩=>
  ⟨τ,G,_,RS,RG,h,fun v H1 dv G1 hv S1 R1 q1=>⟨τ,G1,_,RS.ext (S1.ext RG),R1,q1,fun x H2 d2 G2 h2 S2 R2 q2=>
   ⟨τ,G2,_,(RS.ext (S1.ext RG)).ext (S2.ext R1),R2,q2,fun y H3 d3 G3 h3 S3 R3 q3=>by
    cases d2 with
    |obj p=>
     cases d3 with
     |tup ds=>
      obtain⟨ks,key,e1,rfl,l1,q⟩:=q3;obtain⟨⟨xs,z1,z2,z3⟩,_⟩:=R3 p _ e1;obtain⟨b,vs,rfl,t1,t2⟩:=mG h3;have hvs:vs=key.map V.int:=by
       refine sv t2 ?_;clear t2 t1 h3 q
       induction key with
       |nil=>rfl
       |cons n ns ih=>simp[intsOf,ih]
      subst hvs;have hx:x=.ref p:=hJ h2;refine⟨p,b,xs,key,hx,rfl,z1,z3,t1,?_,fun ys y1 y2=>?_⟩
      ·have:=congrArg gK z2;rw[ν] at this;omega
      ·have E3:=Ext.uO (o:=.ext (nT p ys)) z1;refine k.nx τ σ _ _ ?_ ?_ (R3.uO z1 (GY ⟨ys,gh,by rw[y1,z2],fun x hx=>bZ.ext E3 (y2 x hx)⟩)) q
       ·exact ((((RS.ext (S1.ext RG)).ext (S2.ext R1)).ext (S3.ext R2))).ext E3
       ·exact ((S1.trans S2).trans S3).trans (Step.wrote e1)
     |_=>exact q3.elim
    |_=>exact q3.elim⟩⟩⟩
def A2(ta:ax):ax:=fun τ G Q=>ta τ G fun o G1=>match o with
 |.obj a=>∃ks,G1 a=some (.gen (sR ks))/\ks.length≤1000/\Q (.int (ks.length:Nat)) G1
 |_=>False
theorem YM:gB X (.builtin "len") (fun vs H Q=>∃(a:ε) (xs:List qU),vs=[.ref a]/\H a=some (.ext (nT a xs))/\xs.length≤1000/\Q (.int (xs.length:Nat)) H):=by
 intro pins s σ H vs us Q I r ⟨a,xs,e1,ha,hz,q⟩;subst e1;obtain⟨u,rfl,ru⟩:=vals1 r;cases ru;obtain⟨⟨P,w,o,es,ep,z1,z2,z3,z4,z5,z6⟩,_⟩:=(show bH X.prog X.w H s.heap a _ from I.bf a _ ha);have hsz:es.size=xs.length:=size_of_entries z4;refine YS z6 z1 z2 z3 (by rw[hsz];omega) ?_;rw[hsz];exact⟨.int xs.length,H,I.tok _,⟨_,rfl⟩,q⟩
theorem YL(hu:X.A.units+64<cLine)(ha:bE X e ta)(hm:X.mg "len" = none)(hg:Gl X "len":=by rfl)(he:notStar e=true:=by rfl):
  bE X (.Call (.Name "len" p) [e] [] pos) (A2 ta):=
 gP (pq YM hg hm rfl (lG ha pz (dB he)) (he:=dB he)) fun σ H Q ⟨τ,G,Q3,RS,RG,h,k⟩=>⟨τ,G,_,RS,RG,h,fun v H1 d G1 h1 S1 R1 q1=>by
  cases d with
  |obj a=>
   obtain⟨ks,e1,hz,q⟩:=q1;obtain⟨⟨xs,z1,z2,z3⟩,_⟩:=R1 a _ e1;have hl:xs.length=ks.length:=by rw[←z2,ν]
   refine⟨a,xs,by rw[hJ h1],z1,by omega,k _ _ (.int xs.length) G1 mf S1 R1 ?_⟩;rw[hl];exact q
  |_=>exact q1.elim⟩
theorem YK:QE X (.Dict [] [] pos) A3:=⟨YQ⟩
theorem YJ(hu:X.A.units+64<cLine)(ho:QE X o to)(hi:QE X i ti)(hv:QE X e tv)(hs:swapsWith e (some (.Subscript o i pos')) pos.line X.env=pure false:=by rfl):
  QS X (.Assign [.Subscript o i pos'] e pos) (yU to ti tv):=⟨YN hu ho.of hi.of hv.of hs⟩
theorem YI(hu:X.A.units+64<cLine)(ha:QE X e ta)(hm:X.mg "len" = none)(hg:Gl X "len":=by rfl)(he:notStar e=true:=by rfl):
  QE X (.Call (.Name "len" p) [e] [] pos) (A2 ta):=⟨YL hu ha.of hm hg he⟩
end
end L3
namespace L3
open PySem PySem.Spec PyProof.Rows L2
section
variable {X:Cx} {a:ο} {ta:TA} {p p2 pos pos2:ay}
def Mn(ta:TA):TE:=fun σ H Q=>ta σ H fun vs H1=>∃j:Int,vs=[.int j]/\∀r,H1 r=none->Q (.ref r) (upd H1 r (.ext (yV 0 j r)))
theorem YH(hg:Gl X "range")(hm:X.mg "range" = none)(ha:PA X [a] ta)(hs:bx [a] X.env=[(false,eval a X.env)]):PE X (.Call (.Name "range" p) [a] [] pos) (Mn ta):=by
 intro pins s σ H Q I h;refine Call_ (qN I hg hm rq (cG (br (ha pos pins s σ H _ I h) fun us s1 ⟨vs,H1,I1,r1,q1⟩=>?_) (by rw[hs];rfl) rfl));obtain⟨j,rfl,q⟩:=q1;cases r1 with
 |cons r rr=>
  cases rr;obtain⟨t,rfl⟩:=r;refine call_range_1 ?_;refine⟨.ref s1.heap.objs.size,upd H1 s1.heap.objs.size (.ext (yV 0 j s1.heap.objs.size)),I1.laid (fun b u e=>η _ e) (Ω _) ⟨⟨_,_,_,ui ..⟩,⟨_,ψ _ rfl⟩,fun h1 h2 ⟨t,u,v,e⟩ k=>⟨t,u,v,k _ e⟩⟩,rfl,q _ (I1.bf.fresh (Ω _))⟩
end
end L3
namespace PySem
open Sem (wp)
open AutoSeq1 (wpAny_loadPart')
section
variable {prog:Ψ} {w:af} {A:aq} {E:Value->ζ->Prop} {s:ζ}
theorem YG{Q:List Value->ζ->Prop}{r:ε}{a b c:Int}{t u v:dG}{n:Nat}(hh:A.handled=none)(hr:IsRange s.heap r a b c t u v)(hsmall:fi a b c=true)
  (hn:bD a b c=n) (hlen:n≤2^24)
  (h:∀(h':Ξ) (tk:Nat) (acc:Array Value),(∀b o,s.heap.get? b=some o->h'.get? b=some o)->s.heap.objs.size≤h'.objs.size->ItemsOf (fun i v=>∃t,v=.int (a+i*c) t) acc n->Q acc.toList { s with heap:=h',toks:=tk }):μ (model prog w) A (collect (.ref r)) Q E s:=by
 unfold collect;refine δ (jD (cz F.entry_proto_collect ?_));rw[bU F.plain_proto_collect _];show μ _ A.in1 (newList [] >>= fun q=>again (.builtin "list.__iadd__" ⟨[q,.ref r],[]⟩)) _ _ s;refine δ (aR ?_);refine θ ⟨gy F.plain_list_iadd _,cz F.entry_list_iadd ?_⟩;rw[bU F.plain_list_iadd _];show μ _ A.in1 (hZ (.ref s.heap.objs.size) (.ref r) (.ref s.heap.objs.size)) _ _ _;refine wpAny_extend_range (prog:=prog) (w:=w) (R:=fun r s'=>match r with
  | Except.ok (Flow.ret v)=>μ (model prog w) A (match v with
   |Value.ref a=>do
    let o ←load a
    match o.data with
    |Data.seq xs epoch=>pure xs.toList
    |x=>unsupported "internal:collect"
   | x=>unsupported "internal:collect") Q E s'
  |Except.ok a=>False
  | Except.error e=>E e s') (s:={ s with heap:=s.heap.push { cls:=.type "list",data:=.seq ([]:List Value).toArray }}) (by simpa using hh) (η _ hr) hsmall hn hlen s.heap.objs.size (.ref s.heap.objs.size) 0 (ψ _ rfl) fun h' tk acc' c' hk hS' hacc=>?_
 show μ _ A (load s.heap.objs.size >>= _) _ _ _;refine δ (wpAny_load hS' ?_);refine θ ?_;exact h h' tk acc' (fun b o e=>hk b o (av (χ e)) (η _ e)) (lb (χ hS')) hacc
theorem YF{Q₁:Value->ζ->Prop}{r:ε}{a b c:Int}{t u v:dG}{n:Nat}(hh:A.handled=none)(hr:IsRange s.heap r a b c t u v)(hsmall:fi a b c=true)
  (hn:bD a b c=n) (hlen:n≤2^24)
  (h:∀(h':Ξ) (tk:Nat) (acc:Array Value),(∀b o,s.heap.get? b=some o->h'.get? b=some o)->s.heap.objs.size≤h'.objs.size->ItemsOf (fun i v=>∃t,v=.int (a+i*c) t) acc n->Q₁ (.ref h'.objs.size) { s with heap:=h'.push { cls:=.type "tuple",data:=.seq acc },toks:=tk }):
  fF (model prog w) A (.call (.builtin "tuple.__new__") ⟨[.type "tuple",.ref r],[]⟩) (wants Q₁ E) s:=by
 refine iR ?_;show μ _ A.in1 (do checkBuiltinCall "tuple.__new__" ⟨[.type "tuple",.ref r],[]⟩;again (.builtin "tuple.__new__" ⟨[.type "tuple",.ref r],[]⟩)) _ _ s
 refine δ (iz (F.newCall_tuple_1 _) (θ ⟨gy F.plain_tuple_new _,cz F.entry_tuple_new ?_⟩));rw[bU F.plain_tuple_new _];have hsub:=sub_tuple_self;have hinit:=init_tuple_lookup;have hmh:=madeHere_tuple;have hTI:s.TypeIs (.ref r) "range":=⟨_,hr,rfl⟩;have hh1:A.in1.handled=none:=by simpa using hh
 wp_walk using gj hTI,YG (a:=a) (b:=b) (c:=c) hh1 hr hsmall hn hlen;intro h' tk acc hk hle hacc;show μ _ _ (bN acc.toList.toArray >>= fun v=>ret v) _ _ _;unfold bN;refine δ (aR ?_ (by show acc.toList.toArray.size≤ai;simp only[Array.toArray_toList];rw[hacc.1];rw[bI];omega));refine θ ?_;have e:acc.toList.toArray=acc:=by simp
 rw[e];exact h h' tk acc hk hle hacc
theorem YE{Q:Value->ζ->Prop}{r:ε}{a b c:Int}{t u v:dG}{n:Nat}(hh:A.handled=none)(hr:IsRange s.heap r a b c t u v)(hsmall:fi a b c=true)
  (hn:bD a b c=n) (hlen:n≤2^24)
  (hQ:∀(h':Ξ) (tk:Nat) (acc:Array Value),(∀b o,s.heap.get? b=some o->h'.get? b=some o)->s.heap.objs.size≤h'.objs.size->ItemsOf (fun i v=>∃t,v=.int (a+i*c) t) acc n->Q (.ref h'.objs.size) { s with heap:=h'.push { cls:=.type "tuple",data:=.seq acc },toks:=tk }):
  μ (model prog w) A (call (.type "tuple") [.ref r]) Q E s:=by
 refine callType_codes (Q₁:=fun obj s₁=>s₁.TypeIs obj "tuple"/\Q obj s₁) F.called_tuple (F.typeCall_tuple_1 _) F.entry_object_init
  (YF (by simpa using hh) hr hsmall hn hlen fun h' tk acc hk hle hacc=>⟨⟨_,ψ _ rfl,rfl⟩,hQ h' tk acc hk hle hacc⟩) fun obj s₁ h₁=>?_
 exact⟨h₁.1,F.args_object_init_2 obj _,object_init_meets F.called_tuple.init.lookup F.called_tuple.made (by decide) prog w A.in1 _ s₁ ⟨h₁.1,rfl,h₁.2⟩⟩
end
end PySem
namespace L3
open PySem PySem.Spec PyProof.Rows L2
section
variable {X:Cx}
def ZU:List V->Hp->VK->Prop:=fun xs H Q=>∃(r:ε) (i j:Int),xs=[.ref r]/\H r=some (.ext (yV i j r))/\(-(2^62)≤i/\i<2^62/\-(2^62)≤j/\j<2^62)/\(j-i).toNat≤1000 ∧
 ∀l,H l=none->Q (.ref l) (upd H l (.tup ((ag (j-i).toNat).map fun k:Nat=>V.int (i+(k:Int)))))
theorem YD(hc:X.calm=true):gB X (.type "tuple") ZU:=by
 intro pins s σ H xs us Q I r h;obtain⟨ra,i,j,rfl,e,⟨h1,h2,h3,h4⟩,hn,q⟩:=h;obtain⟨u,rfl,rx⟩:=vals1 r;cases rx;obtain⟨⟨t,u,v,hr⟩,_⟩:=I.bf ra _ e;have en:bD i j 1=((j-i).toNat:Nat):=by
  rw[rangeSize_one];split<;>omega
 refine YE (I.ok.hd hc) hr (small_one h1 h2 h3 h4) en (aG hn (by decide)) fun h' tk acc' kp hle it=>?_;have hv:aS ((ag (j-i).toNat).map fun k:Nat=>V.int (i+(k:Int))) acc'.toList:=by
  have:=Jx acc'.toList i fun k v hk=>by
   obtain⟨t,e⟩:=it.2 k v (by simpa using hk);exact⟨t,by rw[e,uj]⟩
  rw[show acc'.toList.length=(j-i).toNat by rw[bG];exact it.1] at this;exact this
 refine⟨.ref h'.objs.size,_,I.laid (fun b o e=>η _ (kp b o e)) hle (show bH X.prog X.w _ _ _ (.tup ((ag (j-i).toNat).map fun k:Nat=>V.int (i+(k:Int)))) from⟨?_,acc'.toList,hv,?_⟩),rfl,q _ (I.bf.fresh hle)⟩
 ·rw[ν,e8];exact aG hn (by decide)
 ·exact⟨_,ψ _ rfl,rfl,⟨0,by simp⟩,rfl⟩
end
section
variable {X:Cx} {a:ο} {ta:b9} {p p2 pos pos2:ay}
def AZ(ta:b9):ax:=fun τ G Q=>ta τ G fun ds G1=>match ds with
 |[.int j]=>(0≤j/\j≤1000)/\Q (.tup (fP 0 j.toNat)) G1
 |_=>False
theorem YC(hc:X.calm=true)(hm:X.mg "range" = none)(hml:X.mg "tuple" = none)(ha:gS X [a] ta)(hg:Gl X "range":=by rfl)(hgl:Gl X "tuple":=by rfl)(hs:notStar a=true:=by rfl):
  bE X (.Call (.Name "tuple" p) [.Call (.Name "range" p2) [a] [] pos2] [] pos) (AZ ta):=
 gP (vO (YD hc) hgl hml boot_tuple (lG (YH hg hm ha (dB hs)) pz)) fun σ H Q ⟨τ,G,Q3,RS,RG,h,k⟩=>⟨τ,G,_,RS,RG,h,fun vs H1 ds G1 h1 S1 R1 q1=>by
  rcases ds with _|⟨d,_|⟨d2,ds⟩⟩
  ·exact q1.elim
  ·cases d with
   |int j=>
    obtain⟨v,r,rfl,z1,z2⟩:=h1.inv;cases z2.gi;rw[ir z1];obtain⟨q1,q⟩:=q1;refine⟨j,rfl,fun r hr=>⟨r,0,j,rfl,gh,⟨by decide,by decide,by omega,by omega⟩,by omega,fun l hl=>?_⟩⟩;have RG2:=R1.laid (o:=.ext (yV 0 j r)) hr;rw[Int.sub_zero];refine k _ _ (.tup (fP 0 j.toNat)) G1 ?_ ((S1.trans (.laid hr)).trans (.laid hl)) (RG2.laid hl) q;unfold fP;rw[show ((ag j.toNat).map fun k:Nat=>D.int (0+(k:Int)))=((ag j.toNat).map fun k:Nat=>0+(k:Int)).map D.int by rw[cE];rfl];rw[show ((ag j.toNat).map fun k:Nat=>V.int (0+(k:Int)))=((ag j.toNat).map fun k:Nat=>0+(k:Int)).map V.int by rw[cE];rfl];unfold Hv;exact⟨l,_,rfl,.of gh,aw.ints _⟩
   |_=>exact q1.elim
  ·cases d<;>exact q1.elim⟩
theorem GW(hc:X.calm=true)(hm:X.mg "range" = none)(hml:X.mg "tuple" = none)(ha:QA X [a] ta)(hg:Gl X "range":=by rfl)(hgl:Gl X "tuple":=by rfl)(hs:notStar a=true:=by rfl):
  QE X (.Call (.Name "tuple" p) [.Call (.Name "range" p2) [a] [] pos2] [] pos) (AZ ta):=⟨YC hc hm hml ha.of hg hgl hs⟩
end
end L3
namespace My
open PySem L2 L3
def RPl(n:Nat)(d:D):Prop:=∃ns:List Int,d=tupI ns/\(∀x∈ns,0≤x/\x<(n:Int))/\ns.Pairwise (· < ·)
def Short(d:D):Prop:=∀ds,d=.tup ds->ds.length≤1000
def xm:dC:=fun ds G Q=>∃(cs:List aH) (d:D),ds=[dQ cs,d]/\jW G d/\Short d/\∀b,(b=true↔RPl cs.length d)->Q (.bl b) G
abbrev GV:=GZ
theorem GU{n:Nat}:∀{ds:List D},ds.all (kK n)=true->∃ns:List Int,ds=ns.map D.int/\∀x∈ns,0≤x/\x<(n:Int)
 |[],_=>⟨[],rfl,nofun⟩
 |d::ds,h=>by
  rw[mC,bF] at h;obtain⟨ns,rfl,hn⟩:=GU h.2;cases d with
  |int i=>
   have h1:(decide (0≤i)&&decide (i<(n:Int)))=true:=h.1;rw[bF,decide_eq_true_iff,decide_eq_true_iff] at h1;refine⟨i::ns,rfl,fun x hx=>?_⟩;rcases Φ.mp hx with rfl|hx
   ·exact h1
   ·exact hn x hx
  |_=>exact absurd h.1 (by simp[kK])
theorem GS:∀{ns:List Int},((ns.zip (ns.drop 1)).all fun p=>decide (p.1<p.2))=true->ns.Pairwise (· < ·)
 |[],_=>.nil
 |[a],_=>jK _ _
 |a::b::ns,h=>by
  have h:(decide (a<b)&&(((b::ns).zip ((b::ns).drop 1)).all fun p=>decide (p.1<p.2)))=true:=h;rw[bF,decide_eq_true_iff] at h;have ih:=GS h.2;refine fy.mpr ⟨fun x hx=>?_,ih⟩;rcases Φ.mp hx with rfl|hx
  ·exact h.1
  ·exact Int.lt_trans h.1 ((fy.mp ih).1 x hx)
theorem vD{ms ns:List Int}(h:tupI ms=tupI ns):ms=ns:=by
 have h1:ms.map D.int=ns.map D.int:=by
  unfold tupI at h;exact D.tup.inj h
 exact (List.map_inj_right fun a b e=>D.int.inj e).mp h1
theorem YB:∀ds G Q,xm ds G Q->GV (aT Q) (aO ["things","thing"] ds) G:=by
 rintro ds G Q ⟨cs,d,rfl,hk,hs,q⟩;have not_tup:(∀ds,d≠.tup ds)->GZ (aT Q) (aO ["things","thing"] [dQ cs,d]) G:=by
  intro hn;show match jz "tuple" G d with
   |some b=>_
   |none=>False
  rw[CY hk hn];exact⟨fun _=>⟨fun _=>du (q false ⟨nofun,fun⟨ns,e,_⟩=>absurd e (hn _)⟩),nofun⟩,nofun⟩
 cases d with
 |tup ds=>
  have hl:=hs ds rfl;refine⟨nofun,fun _=>⟨cK hl,HF (js:=[0]) (τ:=[some (dQ cs),some (.tup ds)]) (f:=kK cs.length) hl (fun x hx y K k=>⟨cs,x,rfl,hk x hx,k⟩) fun p1 G1 n1=>⟨_,_,n1.at_,xQ _ _,?_⟩⟩⟩;rw[all_map];refine⟨fun h=>?_,fun h=>?_⟩
  ·have h':(!(ds.all (kK cs.length)))=true:=h;refine pJ n1.sub (q false ⟨nofun,fun⟨ns,e,hb,_⟩=>?_⟩);have e':ds=ns.map D.int:=D.tup.inj e;have:ds.all (kK cs.length)=true:=by
    rw[e',tu];refine eI.mpr fun x hx=>?_;show (decide (0≤x)&&decide (x<(cs.length:Nat)))=true;rw[decide_eq_true (hb x hx).1,decide_eq_true (hb x hx).2];rfl
   rw[this] at h';cases h'
  ·have h':(!(ds.all (kK cs.length)))=false:=h;obtain⟨ps,rfl,hb⟩:=GU (by simpa using h');have hcut:fS (ps.map D.int) (some 1) none=(ps.drop 1).map D.int:=by
    rw[pH,show (some (1:Int))=some ((1:Nat):Int) from rfl,zj]
   rw[ν] at hl;refine⟨_,_,rfl,rfl,?_⟩;rw[hcut];rw[CW D.int D.int];refine⟨?_,?_⟩
   ·show ((ps.zip (ps.drop 1)).map _).length≤ai;rw[ν,iT];exact cK (by lia)
   refine nM (fun τ=>∃x y,τ=[x,y]) (fun p:Int×Int=>D.tup [D.int p.1,D.int p.2]) (fun _=>true) (fun p=>.bl (decide (p.1<p.2))) (G:=G1) ⟨rfl,rfl⟩ (ps.zip (ps.drop 1)) [] _ ⟨none,none,rfl⟩ ?_ ?_
   ·rintro⟨a,b⟩ hm τ K1 K2 ⟨x,y,rfl⟩ h1 h2;exact⟨rfl,fun _=>h1 rfl _ ⟨_,_,rfl⟩,nofun⟩
   ·intro p2 G2 n2;rw[filter_all,dU] at n2;refine⟨_,_,n2.at_,xQ _ _,?_⟩;rw[all_map];refine pJ (n1.sub.trans n2.sub) (q _ ⟨fun h=>⟨ps,rfl,hb,GS h⟩,fun⟨ns,e,_,hp⟩=>?_⟩);rw[vD e];exact NY hp
 |_=>exact not_tup nofun
def yl(cs:List aH)(z:Int):aH:=(cs[z.toNat]?).getD (1,0)
def gg(cs:List aH)(ps:List Int):List aH:=ps.map (yl cs)
structure rK(cs:List aH)(ps:List Int):Prop where
 s:qj cs
 nd:cs.Nodup
 b:∀x∈ps,0≤x/\x<(cs.length:Int)
 r:ps.Pairwise (· < ·)
theorem zc{cs:List aH}{z:Int}(h:0≤z/\z<(cs.length:Int)):cs[z.toNat]?=some (yl cs z):=by
 have hl:z.toNat<cs.length:=by lia
 unfold yl;rw[aK hl];rfl
theorem at8{cs:List aH}{z:Int}(h:0≤z/\z<(cs.length:Int)):kr (cs.map cD) z=some (cD (yl cs z)):=by
 have e:z=((z.toNat:Nat):Int):=by lia
 have:=zS (xs:=cs.map cD) (j:=z.toNat) (v:=cD (yl cs z)) (by rw[aJ,zc h];rfl);rw[←e] at this;exact this
theorem CO{cs:List aH}{ps:List Int}(hb:∀x∈ps,0≤x/\x<(cs.length:Int)):∀c∈gg cs ps,c∈cs:=fun c hc=>by
 obtain⟨z,hz,rfl⟩:=ah.mp hc;exact bM (zc (hb z hz))
theorem zO{n:Nat}:∀{ps:List Int},(∀x∈ps,0≤x/\x<(n:Int))->ps.Pairwise (· < ·)->ps.length≤n:=fun {ps} hb hr=>by
 have hnd:ps.Nodup:=hr.imp fun {a b} q e=>by lia
 have hsub:∀z∈ps,z∈(ag n).map fun i:Nat=>(i:Int):=fun z hz=>by
  have:=hb z hz;exact ah.mpr ⟨z.toNat,aE.mpr (by lia),by lia⟩
 have:=hnd.length_le_of_subset hsub;rwa [ν,e8] at this
theorem rK.len{cs:List aH}{ps:List Int}(h:rK cs ps):ps.length≤cs.length:=zO h.b h.r
theorem GR(cs:List aH)(ps:List Int):(gg cs ps).length=ps.length:=ν _
theorem rK.us{cs:List aH}{ps:List Int}(h:rK cs ps):qj (gg cs ps):=⟨fun c hc=>h.s.1 c (CO h.b c hc),by
 have h1:=h.len;have h2:=h.s.2;rw[GR];lia⟩
theorem rK.nodup{cs:List aH}{ps:List Int}(h:rK cs ps):(gg cs ps).Nodup:=by
 unfold gg;show List.Pairwise _ _;rw[cm];refine oq (fun {a b} ha hb hab e=>?_) h.r;have h1:=h.b a ha;have h2:=h.b b hb;have e1:=zc h1;have e2:=zc h2;rw[e] at e1;have:=(List.getElem?_inj (by lia) h.nd).mp (e1.trans e2.symm);lia
theorem rK.dvd{cs:List aH}{ps:List Int}(h:rK cs ps):bO (gg cs ps)∣bO cs:=HE (Nat.one_dvd _) fun c hc=>zg (CO h.b c hc)
theorem rK.pos{cs:List aH}{ps:List Int}(h:rK cs ps):0<bO cs:=CU fun z hz=>(h.s.1 z hz).1.1
def v7(us:List aH)(N:Nat):Prop:=(∀x:Nat,x<N->us.filter (gO (x:Int))≠[])/\∀c∈us,∃x:Nat,x<N/\us.filter (gO (x:Int))=[c]
theorem GQ{us:List aH}(ok:jk 1000 us)(x:Nat):us.filter (gO ((x%bO us:Nat):Int))=us.filter (gO (x:Int)):=by
 rw[vd ok,vd ok];exact List.filter_congr fun z hz=>Pa (ok z hz).1.1 (zg hz) x
theorem GP{us:List aH}{N:Nat}(ok:jk 1000 us)(hd:bO us∣N)(hN:0<N):v7 us N↔v7 us (bO us):=by
 have hpos:0<bO us:=CU fun z hz=>(ok z hz).1.1;have hle:=fL hN hd;constructor
 ·rintro⟨h1,h2⟩;refine⟨fun x hx=>h1 x (ba hx hle),fun c hc=>?_⟩;obtain⟨x,hx,e⟩:=h2 c hc;exact⟨x%bO us,gE _ hpos,by rw[GQ ok];exact e⟩
 ·rintro⟨h1,h2⟩;refine⟨fun x hx=>?_,fun c hc=>?_⟩
  ·have:=h1 (x%bO us) (gE _ hpos);rwa [GQ ok] at this
  ·obtain⟨x,hx,e⟩:=h2 c hc;exact⟨x,ba hx hle,e⟩
theorem MV{us:List aH}(ok:jk 1000 us):sN us=none↔∀x:Nat,x<bO us->us.filter (gO (x:Int))≠[]:=by
 unfold sN;rw[ju];constructor
 ·intro h x hx e;refine h x (aE.mpr hx) ?_;unfold gI;rw[←vd ok,e];rfl
 ·intro h x hx e;refine h x (aE.mp hx) ?_;unfold gI at e;rw[←vd ok,beq_iff_eq] at e;exact jL.mp e
theorem Mq{us:List aH}(ok:jk 1000 us):u7 us=[]↔∀c∈us,∃x:Nat,x<bO us/\us.filter (gO (x:Int))=[c]:=by
 have key:∀c∈us,(lS us c≠none↔∃x:Nat,x<bO us/\us.filter (gO (x:Int))=[c]):=fun c hc=>by
  rw[NB ok hc];constructor
  ·intro h;cases e:(ag (bO us)).find? fun x:Nat=>decide (us.filter (gO (x:Int))=[c]) with
   |none=>exact absurd e h
   |some x=>exact⟨x,aE.mp (m9 e),of_decide_eq_true (List.find?_some (p:=fun x:Nat=>decide (us.filter (gO (x:Int))=[c])) e)⟩
  ·rintro⟨x,hx,e⟩ h;exact ju.mp h x (aE.mpr hx) (decide_eq_true e)
 unfold u7;rw[j0];constructor
 ·intro h c hc;refine (key c hc).mp fun e=>?_;obtain⟨i,hi,ei⟩:=lC hc;refine h i (aE.mpr hi) ?_;unfold qb;rw[aK hi,ei];show (lS us c).isNone=true;rw[e];rfl
 ·intro h i hi e;have hi:=aE.mp hi;have hm:=km hi;unfold qb at e;rw[aK hi] at e;exact (key _ hm).mpr (h _ hm) (Option.isNone_iff_eq_none.mp e)
def rk(cs:List aH)(d:D):Prop:=∃ps:List Int,d=tupI ps/\(∀x∈ps,0≤x/\x<(cs.length:Int))/\ps.Pairwise (· < ·)/\v7 (gg cs ps) (bO cs)
theorem CN{G:Gp}{cs:List aH}{ps:List Int}{Q:List D->Gp->Prop}(hb:∀z∈ps,0≤z/\z<(cs.length:Int))(q:Q ((gg cs ps).map cD) G):
  g0 (fun _=>True) (hName 0) eE (bc fj (π 1) (π 0)) Q (ps.map D.int) [] [none,some (dQ cs)] G:=by
 refine nM (guard:=fun _=>True) (fun τ=>∃x,τ=[x,some (dQ cs)]) D.int (fun _=>true) (fun z=>cD (yl cs z)) (G:=G) trivial ps [] _ ⟨none,rfl⟩ ?_ ?_
 ·rintro z hz τ K1 K2 ⟨x,rfl⟩ g1 g2;exact⟨fun _=>⟨_,at8 (hb z hz),g1 rfl _ ⟨_,rfl⟩⟩,nofun⟩
 ·rw[filter_all,dU,show (ps.map fun z=>cD (yl cs z))=(gg cs ps).map cD by unfold gg;rw[cE];rfl];exact q
def qB:kv:=fun ds Q E=>∃(cs:List aH) (d:D),ds=[dQ cs,d]/\qj cs/\jW dk d/\Short d/\(bO cs≤10000->cs.Nodup/\∀b,(b=true↔rk cs d)->Q (.bl b) dk)/\(10000<bO cs->yf E (bO cs))
def YA(E:E3):ar:=bS (tP (jc xq E (ξ (π 2) (aa))) (bc (fv false) (jc xn E (ξ (π 2) (aa))) (i9 (aa))))
def Yz(E:E3):ar:=bz (cb (dS uq (ξ (fR ["place"] [0] (i6 (π 1)) (hName 0) (eE) (bc fj (π 1) (π 0))) (aa))) (hName 2)) (YA E)
def Y9(E:E3):ar:=bz (jV (kh (bQ (bt xm (ξ (π 0) (ξ (π 1) (aa)))))) (bS (eC (.bl false))) (ft)) (Yz E)
def GN(E:E3):ar:=bz (tL (jc vH E (ξ (bt uw (ξ (π 0) (aa))) (ξ (eC (.int 10000)) (aa))))) (Y9 E)
theorem Y8:∀ds Q E,qB ds Q E->GN E (aT Q) (aO ["clocks","thing","chosen"] ds) dk:=by
 rintro ds Q E ⟨cs,d,rfl,hs,hk,hsh,q1,q2⟩;have hl:=hs.2;refine⟨cs,rfl,hs.1,by lia,((bO cs:Nat):Int),10000,rfl,fun hn G1 j1=>?_,fun hgt=>q2 (by lia)⟩;have hn:bO cs≤10000:=by lia
 obtain⟨nd,q1⟩:=q1 hn;refine⟨cs,d,rfl,hk.sub (nL _),hsh,fun b hb=>⟨fun h=>?_,fun h=>?_⟩⟩
 ·have h':(!b)=true:=h;refine pJ (nL _) (q1 false ⟨nofun,fun⟨ps,e,g1,g2,_⟩=>?_⟩);rw[hb.mpr ⟨ps,e,g1,g2⟩] at h';cases h'
 ·have h':(!b)=false:=h;obtain⟨ps,rfl,g1,g2⟩:=hb.mp (by simpa using h');have P:rK cs ps:=⟨hs,nd,g1,g2⟩;have hpl:=P.len;have ok:=P.us.1;have hru:bO (gg cs ps)≤10000:=aG (fL P.pos P.dvd) hn;have fin:∀b:Bool,(b=true↔v7 (gg cs ps) (bO (gg cs ps)))->Q (.bl b) dk:=fun b hb=>q1 b (hb.trans ⟨fun h=>⟨ps,rfl,g1,g2,(GP ok P.dvd P.pos).mpr h⟩,fun⟨ms,e,_,_,h⟩=>by
   rw[←vD e] at h;exact (GP ok P.dvd P.pos).mp h⟩)
  refine⟨by rw[ν];exact cK (by lia),CN g1 fun p2 G2 n2=>⟨_,n2.at_,?_⟩⟩;refine⟨gg cs ps,rfl,P.us,fun _ G3 j3=>?_,fun h=>absurd h (by lia)⟩;cases hf:sN (gg cs ps) with
  |some x=>
   refine⟨nofun,fun _=>pJ (nL _) (fin false ⟨nofun,fun h=>?_⟩)⟩;rw[(MV ok).mpr h.1] at hf;cases hf
  |none=>
   refine⟨fun _=>⟨gg cs ps,rfl,P.us,fun _ p4 G4 n4 G5 j5 p6 G6 n6=>?_,fun h=>absurd h (by lia)⟩,nofun⟩;have e4:=n6.sub _ _ (j5.new _ _ n4.at_);refine⟨_,_,pI e4 (HW _),pI n6.at_ rfl,Nu _,?_⟩;refine pJ (nL _) (fin _ ?_);show ((Dat.D.lst ((u7 (gg cs ps)).map fun x=>Dat.D.int (x:Nat))).dZ (.lst []))=true↔_;rw[zk,kl,List.isEmpty_iff];exact (Mq ok).trans ⟨fun h=>⟨(MV ok).mp hf,h⟩,fun h=>h.2⟩
def vC:dC:=fun ds G Q=>∃(p:ε) (cs:List aH) (n:Int),ds=[.obj p,.int n]/\G p=some (.lst (cs.map cD))/\(∀c∈cs,0<c.1)/\cs.length≤1000/\∀q G',fc G q (.lst ((cs.filter (gO n)).map cD)) G'->Q (.obj q) G'
def GL:ar:=bS (fR ["clock"] [1] (i6 (π 0)) (hName 0) (bQ (bc (fv false) (bc mS (bc yW (π 1) (bc fj (π 0) (eC (.int 1)))) (bc fj (π 0) (eC (.int 0)))) (eC (.int 0)))) (π 0))
theorem Y7:∀ds G Q,vC ds G Q->GL (aT Q) (aO ["clocks","number"] ds) G:=by
 rintro ds G Q ⟨p,cs,n,rfl,hp,hc,hz,q⟩;refine⟨_,hp,by show (cs.map cD).length≤ai;rw[ν];exact cK hz,?_⟩;refine nM (fun τ=>∃x,τ=[x,some (.int n)]) cD (gO n) cD (G:=G) hp cs [] _ ⟨none,rfl⟩ ?_ ?_
 ·rintro⟨s,r⟩ hm τ K1 K2 ⟨x,rfl⟩ h1 h2;exact⟨_,rfl,_,rfl,hc _ hm,_,_,rfl,rfl,aY _,fun e=>h1 e _ ⟨_,rfl⟩,fun e=>h2 e _ ⟨_,rfl⟩⟩
 ·exact fun p G' hp=>du (q p G' hp)
end My
namespace My
open PySem L2 L3
theorem Y6{as bs:List Int}(ha:as.Pairwise (· < ·))(hb:bs.Pairwise (· < ·))(h:∀z,z∈as↔z∈bs):as=bs:=by
 induction as generalizing bs with
 |nil=>cases bs with
  |nil=>rfl
  |cons b bs=>exact absurd ((h b).mpr Δ) (by simp)
 |cons a as ih=>cases bs with
  |nil=>exact absurd ((h a).mp Δ) (by simp)
  |cons b bs=>
   have ha':=fy.mp ha;have hb':=fy.mp hb;have e:a=b:=by
    rcases Φ.mp ((h a).mp Δ) with e|e
    ·exact e
    ·rcases Φ.mp ((h b).mpr Δ) with e2|e2
     ·exact e2.symm
     ·have h1:=hb'.1 a e;have h2:=ha'.1 b e2;lia
   subst e;rw[ih ha'.2 hb'.2 fun z=>?_];constructor
   ·intro hz;rcases Φ.mp ((h z).mp (ω _ hz)) with e|e
    ·have:=ha'.1 z hz;lia
    ·exact e
   ·intro hz;rcases Φ.mp ((h z).mpr (ω _ hz)) with e|e
    ·have:=hb'.1 z hz;lia
    ·exact e
end My
namespace My
open PySem L2 L3
structure ql(us:List aH)(ys:List Nat)(ks:List (List Int)):Prop where
 Lo:∀x∈ys,us.filter (gO (x:Int))≠[]
 nd:ks.Nodup
 mem:∀k,k∈ks↔∃c∈us,k=gN c/\∃x∈ys,us.filter (gO (x:Int))=[c]
theorem ql.sub{us:List aH}{ys:List Nat}{ks:List (List Int)}(h:ql us ys ks):∀k∈ks,k∈us.map gN:=fun k hk=>by
 obtain⟨c,hc,rfl,_⟩:=(h.mem k).mp hk;exact rV hc
theorem ql.len{us:List aH}{ys:List Nat}{ks:List (List Int)}(h:ql us ys ks):ks.length≤us.length:=by
 have:=h.nd.length_le_of_subset h.sub;rwa [ν] at this
theorem Y5{ks:List (List Int)}{k:List Int}(h:ks.Nodup):(pP ks k).Nodup:=by
 unfold pP;split
 ·exact h
 ·rename_i hk;rw[List.nodup_append];refine⟨h,by simp,fun a ha b hb e=>?_⟩;rw[aP.mp hb] at e;exact hk (e▸ha)
theorem Y4{ks:List (List Int)}{k j:List Int}:j∈pP ks k↔j∈ks∨j=k:=by
 unfold pP;split
 ·rename_i hk;exact⟨.inl,fun h=>h.elim id fun e=>e▸hk⟩
 ·rw[bp,aP]
theorem ql.one{us:List aH}{ys:List Nat}{ks:List (List Int)}(h:ql us ys ks){x:Nat}{c:aH}(e:us.filter (gO (x:Int))=[c]):ql us (ys++[x]) (pP ks (gN c)):=by
 have hc:c∈us:=(iS.mp (by rw[e];exact Δ:c∈us.filter (gO (x:Int)))).1;refine⟨fun y hy=>?_,Y5 h.nd,fun k=>?_⟩
 ·rcases bp.mp hy with hy|hy
  ·exact h.Lo y hy
  ·rw[aP.mp hy,e];nofun
 ·rw[Y4,h.mem];constructor
  ·rintro (⟨z,hz,ek,y,hy,ey⟩|ek)
   ·exact⟨z,hz,ek,y,bT _ hy,ey⟩
   ·exact⟨c,hc,ek,x,aV _ Δ,e⟩
  ·rintro⟨z,hz,ek,y,hy,ey⟩;rcases bp.mp hy with hy|hy
   ·exact .inl ⟨z,hz,ek,y,hy,ey⟩
   ·rw[aP.mp hy,e] at ey;cases ey;exact .inr ek
theorem ql.more{us:List aH}{ys:List Nat}{ks:List (List Int)}(h:ql us ys ks){x:Nat}(e:(us.filter (gO (x:Int))).length≠1)(e0:us.filter (gO (x:Int))≠[]):ql us (ys++[x]) ks:=by
 refine⟨fun y hy=>?_,h.nd,fun k=>?_⟩
 ·rcases bp.mp hy with hy|hy
  ·exact h.Lo y hy
  ·rw[aP.mp hy];exact e0
 ·rw[h.mem];constructor
  ·rintro⟨z,hz,ek,y,hy,ey⟩;exact⟨z,hz,ek,y,bT _ hy,ey⟩
  ·rintro⟨z,hz,ek,y,hy,ey⟩;rcases bp.mp hy with hy|hy
   ·exact⟨z,hz,ek,y,hy,ey⟩
   ·rw[aP.mp hy] at ey;rw[ey] at e;exact absurd rfl e
theorem ql.fin{us:List aH}{N:Nat}{ks:List (List Int)}(nd:us.Nodup)(h:ql us (ag N) ks):ks.length=us.length↔v7 us N:=by
 have ndt:(us.map gN).Nodup:=by
  show List.Pairwise _ _;rw[cm];exact t7 (fun {a b} hab e=>hab (xT e)) nd
 constructor
 ·intro e;refine⟨fun x hx=>h.Lo x (aE.mpr hx),fun c hc=>?_⟩;have hk:gN c∈ks:=by
   refine aQ fun hn=>?_;have:=(df.mpr ⟨hn,h.nd⟩).length_le_of_subset (l₂:=us.map gN) fun k hk=>by
    rcases Φ.mp hk with rfl|hk
    ·exact rV hc
    ·exact h.sub k hk
   rw[ν,aj] at this;lia
  obtain⟨z,hz,ez,x,hx,ex⟩:=(h.mem _).mp hk;rw[←xT ez] at ex;exact⟨x,aE.mp hx,ex⟩
 ·rintro⟨_,h2⟩;have:=ndt.length_le_of_subset (l₂:=ks) fun k hk=>by
   obtain⟨c,hc,rfl⟩:=ah.mp hk;obtain⟨x,hx,e⟩:=h2 c hc;exact (h.mem _).mpr ⟨c,hc,rfl,x,aE.mpr hx,e⟩
  rw[ν] at this;have:=h.len;lia
def xl:dC:=fun ds G Q=>∃(cs:List aH) (ps:List Int),ds=[dQ cs,tupI ps]/\rK cs ps/\bO cs≤10000/\∀b G',Sub G G'->(b=true↔v7 (gg cs ps) (bO cs))->Q (.bl b) G'
def Y3:ar:=jV (bQ (bc (fv false) (dS lq (ξ (π 5) (aa))) (eC (.int 1)))) (yU (π 3) (bc fj (π 5) (eC (.int 0))) (eC (.bl true))) (ft)
def Y2:ar:=bz (jV (bQ (bc (fv false) (π 5) (i9 (aa)))) (bS (eC (.bl false))) (ft)) Y3
def Y1:ar:=bz (cb (bt vC (ξ (π 2) (ξ (π 4) (aa)))) (hName 5)) Y2
def Y0:ar:=bS (bc (fv false) (A2 (π 3)) (dS lq (ξ (π 2) (aa))))
def Yo:ar:=bz (iD (kN (ξ (bt pG (ξ (π 0) (aa))) (aa))) (hName 4) (Y1)) Y0
def Yn:ar:=bz (cb (A3) (hName 3)) Yo
def GK:ar:=bz (cb (fR ["place"] [0] (i6 (π 1)) (hName 0) (eE) (bc fj (π 1) (π 0))) (hName 2)) Yn
theorem Ym:∀ds G Q,xl ds G Q->GK (aT Q) (aO ["clocks","places","some","alone","number","now"] ds) G:=by
 rintro ds G Q ⟨cs,ps,rfl,P,hn,q⟩;have hl:=P.len;have vb:=P.s.2;have hu:=P.us;refine⟨by rw[ν];exact cK (by lia),CN P.b fun p2 G2 n2=>?_⟩;intro p3 G3 n3;refine⟨cs,rfl,P.s.1,vb,⟨by lia,by lia⟩,?_⟩;show jB _ _ _ _ (fP 0 ((bO cs:Nat):Int).toNat) _ _;rw[bR,wY];refine mw (fun ds τ G'=>∃(xs ys:List Nat) (ks:List (List Int)) (x4 x5:Option D),ds=xs.map nD/\ys++xs=ag (bO cs)/\ql (gg cs ps) ys ks/\fc G2 p3 (.gen (sR ks)) G'/\τ=[some (dQ cs),some (tupI ps),some (.obj p2),some (.obj p3),x4,x5]) (fun _ _ _ _=>trivial) ?_ ?_ _ _ _ ⟨_,[],[],_,_,rfl,rfl,⟨nofun,g8,fun k=>⟨nofun,fun⟨c,_,_,x,hx,_⟩=>nomatch hx⟩⟩,n3,rfl⟩
 ·rintro d ds τ G4 N ⟨xs,ys,ks,x4,x5,e,hxy,hA,n4,rfl⟩ hN;cases xs with
  |nil=>cases e
  |cons x xs=>
   cases e;have hkl:=hA.len;have hul:(gg cs ps).length≤12:=hu.2;have hxy':(ys++[x])++xs=ag (bO cs):=by rw[mR];exact hxy
   refine⟨p2,gg cs ps,(x:Int),rfl,n4.sub _ _ n2.at_,fun c hc=>(hu.1 c hc).1.1,by lia,fun p5 G5 n5=>?_⟩;intro p6 G6 n6;have e5:=n6.sub _ _ n5.at_;have m6:fc G2 p3 (.gen (sR ks)) G6:=⟨n4.az,n4.sub.trans (n5.sub.trans n6.sub),n6.sub _ _ (n5.sub _ _ n4.at_)⟩;refine⟨_,_,pI e5 (C1 _),pI n6.at_ rfl,Ia _,fun h=>?_,fun h=>?_⟩
   ·have h':(Dat.D.lst (((gg cs ps).filter (gO (x:Int))).map cX)).dZ (.lst [])=true:=h;rw[zk,kl,List.isEmpty_iff] at h';refine du (q false G6 (n2.sub.trans m6.sub) ⟨nofun,fun hL=>absurd h' (hL.1 x ?_)⟩);have:x∈ag (bO cs):=by rw[←hxy];exact aV _ Δ
    exact aE.mp this
   ·have h':(Dat.D.lst (((gg cs ps).filter (gO (x:Int))).map cX)).dZ (.lst [])=false:=h;rw[zk,kl,ng] at h';refine⟨_,e5,_,_,rfl,rfl,aY _,fun g=>?_,fun g=>?_⟩
    ·have g':(((((gg cs ps).filter (gO (x:Int))).map cD).length:Nat):Int)==1:=g;rw[ν] at g';have g1:((gg cs ps).filter (gO (x:Int))).length=1:=by
      have:=eq_of_beq g';lia
     obtain⟨c,ec⟩:=jY.mp g1;refine⟨_,cD c,e5,by rw[ec];rfl,ks,gN c,m6.at_,rfl,by lia,?_⟩;exact hN _ _ ⟨xs,ys++[x],_,_,_,rfl,hxy',hA.one ec,wrote m6,rfl⟩
    ·have g':((((((gg cs ps).filter (gO (x:Int))).map cD).length:Nat):Int)==1)=false:=g;rw[ν,beq_eq_false_iff_ne] at g';exact hN _ _ ⟨xs,ys++[x],_,_,_,rfl,hxy',hA.more (by lia) h',m6,rfl⟩
 ·rintro τ G4 ⟨xs,ys,ks,x4,x5,e,hxy,hA,n4,rfl⟩;have:xs=[]:=by
   cases xs with
   |nil=>rfl
   |cons z zs=>cases e
  subst this;rw[bw] at hxy;subst hxy;have hkl:=hA.len;have hul:(gg cs ps).length≤12:=hu.2;refine⟨ks,n4.at_,by lia,_,n4.sub _ _ n2.at_,_,_,rfl,rfl,aY _,?_⟩;refine du (q _ G4 (n2.sub.trans n4.sub) ?_);show (((ks.length:Nat):Int)==((((gg cs ps).map cD).length:Nat):Int))=true↔_;rw[ν,beq_iff_eq,←hA.fin P.nodup];lia
theorem GJ:∀{ds:List D},ds.all nG=true->∃ns:List Int,ds=ns.map D.int
 |[],_=>⟨[],rfl⟩
 |d::ds,h=>by
  rw[mC,bF] at h;obtain⟨ns,rfl⟩:=GJ h.2;cases d with
  |int i=>exact⟨i::ns,rfl⟩
  |_=>exact absurd h.1 (by simp[nG])
theorem Yl(ns:List Int):(ns.map D.int).all nG=true:=by
 rw[tu];exact eI.mpr fun _ _=>rfl
def xk:dC:=fun ds G Q=>∃(cs:List aH) (d:D),ds=[dQ cs,d]/\qj cs/\cs.Nodup/\bO cs≤10000/\jW G d/\(∀ds,d=.tup ds->ds.length≤60)/\∀b G',Sub G G'->(b=true↔rk cs d)->Q (.bl b) G'
def Yk:ar:=bS (bt xl (ξ (π 0) (ξ (π 1) (aa))))
def Yj:ar:=bz (jV (qc (bQ (bc (fv true) (dS xD (ξ (π 1) (aa))) (sP (π 1)))) (bQ (bc (fv true) (fR ["one"] [0] (i6 (π 1)) (hName 0) (bQ (tN true (π 0) (ξ (dS lq (ξ (π 1) (aa))) (aa)))) (π 0)) (i9 (aa))))) (bS (eC (.bl false))) (ft)) Yk
def CM:ar:=bz (jV (qc (kh (bQ (oK "tuple" (π 1)))) (kh (bQ (dS um (ξ (fR ["one"] [] (i6 (π 1)) (hName 0) (eE) (bt ux (ξ (π 0) (aa)))) (aa)))))) (bS (eC (.bl false))) (ft)) Yj
theorem Yi:∀ds G Q,xk ds G Q->CM (aT Q) (aO ["clocks","thing"] ds) G:=by
 rintro ds G Q ⟨cs,d,rfl,hs,nd,hn,hk,hsh,q⟩;have vb:=hs.2;have not_tup:(∀ds,d≠.tup ds)->CM (aT Q) (aO ["clocks","thing"] [dQ cs,d]) G:=by
  intro hnt;show match jz "tuple" G d with
   |some b=>_
   |none=>False
  rw[CY hk hnt];exact⟨fun _=>⟨fun _=>du (q false G (Sub.refl G) ⟨nofun,fun⟨ps,e,_⟩=>absurd e (hnt _)⟩),nofun⟩,nofun⟩
 cases d with
 |tup ds=>
  have hl:=hsh ds rfl;refine⟨nofun,fun _=>⟨cK (show ds.length≤1000 by lia),HF (js:=[]) (τ:=[]) (f:=nG) (show ds.length≤1000 by lia) (fun x hx y K k=>⟨hk x hx,k⟩) fun p1 G1 n1=>⟨_,_,n1.at_,xQ _ _,?_⟩⟩⟩;rw[all_map];refine⟨fun h=>?_,fun h=>?_⟩
  ·have h':(!(ds.all nG))=true:=h;refine du (q false G1 n1.sub ⟨nofun,fun⟨ps,e,_⟩=>?_⟩);rw[show ds=ps.map D.int from D.tup.inj e,Yl] at h';cases h'
  ·have h':(!(ds.all nG))=false:=h;obtain⟨ns,rfl⟩:=GJ (by simpa using h');rw[ν] at hl;intro p2 G2 n2;refine⟨ns,rfl,hl,fun p3 ms G3 n3 hm hr=>?_⟩;have e2:=n3.sub _ _ n2.at_;have hd:(Dat.D.lst (ns.map Dat.D.int)).iP≤50:=by
    show Dat.fe (ns.map Dat.D.int)+1≤50;rw[CP];decide
   refine⟨_,_,pI e2 (ze ns),pI n3.at_ (ze ms),hd,fun g=>?_,fun g=>?_⟩
   ·have g':(!(Dat.i8 (ns.map Dat.D.int) (ms.map Dat.D.int)))=true:=g;rw[CQ] at g';refine⟨fun _=>du (q false G3 ((n1.sub.trans n2.sub).trans n3.sub) ⟨nofun,fun⟨ps,e,_,hp,_⟩=>?_⟩),nofun⟩;rw[←vD (show tupI ns=tupI ps from e)] at hp;rw[decide_eq_true (Y6 hp hr fun z=>(hm z).symm)] at g';cases g'
   ·have g':(!(Dat.i8 (ns.map Dat.D.int) (ms.map Dat.D.int)))=false:=g;rw[CQ] at g';have e:ns=ms:=of_decide_eq_true (by simpa using g');subst e;refine⟨by rw[ν];exact cK (by lia),?_⟩;refine nM (guard:=fun _=>True) (fun τ=>∃x,τ=[x,some (dQ cs)]) D.int (fun z=>wa true 0 (((cs.map cD).length:Nat):Int) z) D.int (G:=G3) trivial ns [] _ ⟨none,rfl⟩ ?_ ?_
    ·rintro z hz τ K1 K2 ⟨x,rfl⟩ g1 g2;exact⟨fun e=>g1 e _ ⟨_,rfl⟩,fun e=>g2 e _ ⟨_,rfl⟩⟩
    intro p4 G4 n4 p5 G5 n5;rw[dU] at n4;have hs5:Sub G G5:=((n1.sub.trans n2.sub).trans n3.sub).trans (n4.sub.trans n5.sub);have hd4:(Dat.D.lst ((ns.filter fun z=>wa true 0 (((cs.map cD).length:Nat):Int) z).map Dat.D.int)).iP≤50:=by
     show Dat.fe _+1≤50;rw[CP];decide
    refine⟨_,_,pI (n5.sub _ _ n4.at_) (ze _),pI n5.at_ rfl,hd4,?_⟩;show Br (!((Dat.D.lst ((ns.filter fun z=>wa true 0 (((cs.map cD).length:Nat):Int) z).map Dat.D.int)).dZ (.lst []))) _ _;rw[zk,kl];by_cases hb:∀z∈ns,0≤z/\z<(cs.length:Int)
    ·have he:(ns.filter fun z=>wa true 0 (((cs.map cD).length:Nat):Int) z)=[]:=by
      rw[j0];intro z hz hc;have hc':(!(decide (0≤z)&&decide (z<(((cs.map cD).length:Nat):Int))))=true:=hc;rw[ν,decide_eq_true (hb z hz).1,decide_eq_true (hb z hz).2] at hc';cases hc'
     rw[he];refine⟨nofun,fun _=>?_⟩;exact⟨cs,ns,rfl,⟨hs,nd,hb,hr⟩,hn,fun b G6 s6 hb6=>du (q b G6 (hs5.trans s6) (hb6.trans ⟨fun h=>⟨ns,rfl,hb,hr,h⟩,fun⟨ps,e,_,_,h⟩=>by
      rw[←vD (show tupI ns=tupI ps from e)] at h;exact h⟩))⟩
    ·have he:(ns.filter fun z=>wa true 0 (((cs.map cD).length:Nat):Int) z).isEmpty=false:=by
      rw[ng];intro he;rw[j0] at he;refine hb fun z hz=>?_;have:=he z hz;have hc':¬(!(decide (0≤z)&&decide (z<(((cs.map cD).length:Nat):Int))))=true:=this;rw[ν] at hc';simp at hc';exact hc'
     rw[he];refine⟨fun _=>du (q false G5 hs5 ⟨nofun,fun⟨ps,e,h1,_⟩=>?_⟩),nofun⟩;rw[←vD (show tupI ns=tupI ps from e)] at h1;exact absurd h1 hb
 |_=>exact not_tup nofun
end My
namespace My
open PySem L2 L3
def xj:dC:=fun ds G Q=>∃(cs:List aH) (ps:List Int),ds=[dQ cs,tupI ps]/\qj cs/\(∀x∈ps,0≤x/\x<(cs.length:Int))/\ps.length≤100/\bO cs≤10000/\∀b G',Sub G G'->Q (.bl b) G'
def Yh:ar:=bS (dS um (ξ (fR ["number"] [2] (kN (ξ (bt pG (ξ (π 0) (aa))) (aa))) (hName 0) (eE) (bc (fv true) (bt vC (ξ (π 1) (ξ (π 0) (aa)))) (i9 (aa)))) (aa)))
def GI:ar:=bz (cb (fR ["place"] [0] (i6 (π 1)) (hName 0) (eE) (bc fj (π 1) (π 0))) (hName 2)) Yh
theorem Yg:∀ds G Q,xj ds G Q->GI (aT Q) (aO ["clocks","places","some"] ds) G:=by
 rintro ds G Q ⟨cs,ps,rfl,hs,hb,hl,hn,q⟩;have hv:∀c∈gg cs ps,0<c.1:=fun c hc=>(hs.1 c (CO hb c hc)).1.1;refine⟨by rw[ν];exact cK (by lia),CN hb fun p2 G2 n2=>?_⟩;refine⟨cs,rfl,hs.1,hs.2,⟨by lia,by lia⟩,?_,?_⟩
 ·show (fP 0 ((bO cs:Nat):Int).toNat).length≤ai;rw[sy,bI];lia
 show g0 _ _ _ _ _ (fP 0 ((bO cs:Nat):Int).toNat) _ _ _;rw[bR,wY];refine zi (fun ds acc τ G'=>Sub G2 G'/\(∃ys:List Bool,acc=ys.map fun y=>D.bl y)/\(∃xs:List Nat,ds=xs.map nD)/\∃x,τ=[x,some (.obj p2)]) (fun _ _ _ _ _=>trivial) ?_ ?_ _ _ _ _ ⟨Sub.refl _,⟨[],rfl⟩,⟨_,rfl⟩,none,rfl⟩
 ·rintro d ds acc τ G3 K1 K2 ⟨s3,⟨ys,rfl⟩,⟨xs,e⟩,x,rfl⟩ g1 g2;cases xs with
  |nil=>cases e
  |cons y xs=>
   cases e;refine⟨fun _=>⟨p2,gg cs ps,(y:Int),rfl,s3 _ _ n2.at_,hv,by rw[GR];lia,fun p4 G4 n4 p5 G5 n5=>⟨_,_,pI (n5.sub _ _ n4.at_) (C1 _),pI n5.at_ rfl,Ia _,?_⟩⟩,nofun⟩;refine g1 _ _ _ ⟨(s3.trans n4.sub).trans n5.sub,⟨ys++[!((Dat.D.lst (((gg cs ps).filter (gO (y:Int))).map cX)).dZ (.lst []))],?_⟩,⟨xs,rfl⟩,_,rfl⟩;rw[dg];rfl
 ·rintro acc τ G3 ⟨s3,⟨ys,rfl⟩,_,x,rfl⟩;intro p4 G4 n4;refine⟨_,_,n4.at_,xQ id _,?_⟩;exact du (q _ G4 ((n2.sub.trans s3).trans n4.sub))
def qy(n:Nat):List Int:=(ag n).map fun i:Nat=>(i:Int)
theorem GH(n:Nat):fP 0 n=(qy n).map D.int:=by
 rw[wY];unfold qy;rw[cE];rfl
theorem Yf{n:Nat}:∀x∈qy n,0≤x/\x<(n:Int):=fun x hx=>by
 obtain⟨i,hi,rfl⟩:=ah.mp hx;have:=aE.mp hi;lia
theorem Ye(n:Nat):(qy n).Pairwise (· < ·):=by
 unfold qy;rw[cm];exact jX.imp fun {a b} h=>by lia
theorem GG(n:Nat):(qy n).length=n:=by
 unfold qy;rw[ν,e8]
def xi:dC:=fun ds G Q=>∃(pp:ε) (cs:List aH),ds=[.obj pp,dQ cs]/\G pp=some .kL/\qj cs/\bO cs≤10000/\∀ps G',Sub G G'->(∀x∈ps,0≤x/\x<(cs.length:Int))->ps.Pairwise (· < ·)->Q (tupI ps) G'
def GF:ar:=jV (A4 (bQ (bt xj (ξ (π 1) (ξ (π 5) (aa))))) (bQ (bc (fv true) (π 5) (eF (aa))))) (cb (π 5) (hName 2)) (ft)
def Yd:ar:=bz (cb (bc eQ (rJ (π 2) (kM) (jy (π 4))) (rJ (π 2) (jy (bc eQ (π 4) (eC (.int 1)))) (kM))) (hName 5)) GF
def Yc:ar:=bz (cb (bt mF (ξ (π 0) (ξ (dS lq (ξ (π 2) (aa))) (aa)))) (hName 4)) Yd
def Yb:ar:=bS (π 2)
def Gz:ar:=bz (iD (kN (ξ (dS lq (ξ (π 1) (aa))) (aa))) (hName 3) (Yc)) Yb
def Gy:ar:=bz (cb (AZ (ξ (dS lq (ξ (π 1) (aa))) (aa))) (hName 2)) Gz
theorem Ya:∀ds G Q,xi ds G Q->Gy (aT Q) (aO ["pen","clocks","places","turn","spot","fewer"] ds) G:=by
 rintro ds G Q ⟨pp,cs,rfl,hpp,hs,hn,q⟩;have vb:=hs.2;refine⟨⟨by lia,by rw[ν];lia⟩,?_⟩;show Gz (aT Q) [some (.obj pp),some (dQ cs),some (.tup (fP 0 (((cs.map cD).length:Nat):Int).toNat)),none,none,none] G;rw[ν,bR,GH];refine⟨⟨by lia,by rw[ν];lia⟩,?_⟩;refine mw (fun ds τ G'=>ds.length≤cs.length/\Sub G G'/\∃(ps:List Int) (x3 x4 x5:Option D),(∀x∈ps,0≤x/\x<(cs.length:Int))/\ps.Pairwise (· < ·)/\(cs.length≠0->ps≠[])/\τ=[some (.obj pp),some (dQ cs),some (tupI ps),x3,x4,x5]) (fun _ _ _ _=>trivial) ?_ ?_ _ _ _ ⟨?_,Sub.refl _,qy cs.length,_,_,_,Yf,Ye _,fun h e=>?_,rfl⟩
 ·rintro d ds τ G1 N ⟨hd,s1,ps,x3,x4,x5,hb,hr,cy,rfl⟩ hN;simp only[aj] at hd;have hpl:=zO hb hr;have hp0:0<ps.length:=rX.mpr (cy (by lia));refine⟨pp,((ps.map D.int).length:Nat),rfl,s1 _ _ hpp,⟨by rw[ν];lia,jG (by rw[ν];lia) (by rw[ν];lia)⟩,fun r r1 r2=>?_⟩;rw[ν] at r2;obtain⟨k,rfl⟩:∃k:Nat,r=(k:Int):=⟨r.toNat,by lia⟩;have e1:fS (ps.map D.int) none (some (k:Int))=(ps.take k).map D.int:=by rw[pH,xU]
  have e2:fS (ps.map D.int) (some ((k:Int)+1)) none=(ps.drop (k+1)).map D.int:=by
   rw[pH,show ((k:Int)+1)=((k+1:Nat):Int) by lia,zj]
  have e3:(ps.take k).map D.int++(ps.drop (k+1)).map D.int=(ps.eraseIdx k).map D.int:=by rw[←dg,kA]
  show (fS (ps.map D.int) none (some (k:Int))).length+(fS (ps.map D.int) (some ((k:Int)+1)) none).length≤ai/\GF _ [some (.obj pp),some (dQ cs),some (tupI ps),some d,some (.int (k:Int)),some (.tup (fS (ps.map D.int) none (some (k:Int))++fS (ps.map D.int) (some ((k:Int)+1)) none))] G1;rw[e1,e2,e3];have hb':∀x∈ps.eraseIdx k,0≤x/\x<(cs.length:Int):=fun x hx=>hb x (List.mem_of_mem_eraseIdx hx);have hr':(ps.eraseIdx k).Pairwise (· < ·):=qu (List.eraseIdx_sublist _ _) hr;have hpl':=zO hb' hr';refine⟨cK (by rw[ν,ν,ck,eH];lia),?_⟩;refine⟨cs,ps.eraseIdx k,rfl,hs,hb',by lia,hn,fun b G2 s2=>?_⟩;have go:N [some (.obj pp),some (dQ cs),some (tupI ps),some d,some (.int (k:Int)),some (tupI (ps.eraseIdx k))] G2:=hN _ _ ⟨by lia,s1.trans s2,ps,_,_,_,hb,hr,cy,rfl⟩;cases b with
  |false=>exact⟨nofun,fun _=>⟨nofun,fun _=>go⟩⟩
  |true=>
   refine⟨fun _=>⟨tX (ps.eraseIdx k),tX [],Np _,rfl,by show Dat.fe _+1≤50;rw[CP];decide,fun h=>?_,fun h=>go⟩,nofun⟩;have h':(!((tX (ps.eraseIdx k)).dZ (tX [])))=true:=h;rw[Nn] at h';refine hN _ _ ⟨by lia,s1.trans s2,ps.eraseIdx k,_,_,_,hb',hr',fun _ e=>?_,rfl⟩;rw[decide_eq_true e] at h';cases h'
 ·rintro τ G1 ⟨_,s1,ps,x3,x4,x5,hb,hr,_,rfl⟩;exact du (q ps G1 s1 hb hr)
 ·show (fP 0 (((cs.map cD).length:Nat):Int).toNat).length≤cs.length;rw[sy,ν];lia
 ·have:=GG cs.length;rw[e] at this;simp at this;lia
def xh:dC:=fun ds G Q=>∃p:ε,ds=[.obj p]/\G p=some .kL/\∀cs,yp cs->rb cs->cs.length≤8->Q (dQ cs) G
def X9:ar:=tL (eM JH (π 1) (ξ (eF (ξ (π 3) (ξ (bt mF (ξ (π 0) (ξ (π 3) (aa)))) (aa)))) (aa)))
def X8:ar:=bz (cb (sQ (ξ (eC (.int 1)) (ξ (eC (.int 2)) (ξ (eC (.int 3)) (ξ (eC (.int 4)) (ξ (eC (.int 6)) (aa)))))) (bt mF (ξ (π 0) (ξ (eC (.int 5)) (aa))))) (hName 3)) X9
def X7:ar:=bS (dS uq (ξ (rJ (uJ (π 1)) (kM) (jy (eC (.int 8)))) (aa)))
def X6:ar:=bz (iD (kN (ξ (bt mF (ξ (π 0) (ξ (eC (.int 4)) (aa)))) (aa))) (hName 2) (X8)) X7
def Gx:ar:=bz (cb (rJ (bt xP (ξ (π 0) (ξ (bc eQ (eC (.int 1)) (bt mF (ξ (π 0) (ξ (eC (.int 3)) (aa))))) (aa)))) (kM) (jy (eC (.int 6)))) (hName 1)) X6
theorem X5:∀ds G Q,xh ds G Q->Gx (aT Q) (aO ["pen","found","turn","step"] ds) G:=by
 rintro ds G Q ⟨pp,rfl,hpp,q⟩;refine⟨pp,3,rfl,hpp,⟨by decide,jG (by decide) (by decide)⟩,fun r r1 r2=>⟨pp,1+r,rfl,hpp,⟨by lia,by lia⟩,fun q1 as G1 hP l1 l2 n1=>⟨_,n1.at_,fun q2 G2 n2=>?_⟩⟩⟩;rw[pH,show (some (6:Int))=some ((6:Nat):Int) from rfl,xU] at n2;have m2:fc G q2 (.lst ((as.take 6).map cD)) G2:=⟨n1.sub.of_none n2.az,n1.sub.trans n2.sub,n2.at_⟩;have hpp2:=m2.sub _ _ hpp;refine⟨pp,4,rfl,hpp2,⟨by decide,jG (by decide) (by decide)⟩,fun t t1 t2=>⟨⟨by lia,by lia⟩,?_⟩⟩;refine mw (fun ds τ G'=>∃(bs:List aH) (x2 x3:Option D),τ=[some (.obj pp),some (.obj q2),x2,x3]/\fc G q2 (.lst (bs.map cD)) G'/\yp bs/\bs.length+ds.length≤9) (fun _ _ _ _=>trivial) ?_ ?_ _ _ _ ⟨as.take 6,_,_,rfl,m2,fun c hc=>hP c (fW hc),?_⟩
 ·rintro d ds τ G3 N ⟨bs,x2,x3,rfl,m3,okb,hb⟩ hN;have hpp3:=m3.sub _ _ hpp;have e3:=m3.at_;refine⟨pp,5,rfl,hpp3,⟨by decide,jG (by decide) (by decide)⟩,fun u u1 u2=>?_⟩;obtain⟨stp,hm,es⟩:=IU (ns:=[1,2,3,4,6]) u1 u2;have hs:(1≤stp/\stp≤24)/\stp∣720:=by
   simp at hm;rcases hm with rfl|rfl|rfl|rfl|rfl<;>decide
  refine⟨.int stp,es,⟨q2,_,rfl,e3⟩,pp,stp,rfl,hpp3,⟨by lia,jG (by lia) (by lia)⟩,fun v v1 v2=>?_⟩;simp only[aj] at hb;refine⟨_,e3,by rw[ν];exact jo (show bs.length≤20 by lia) (by decide),?_⟩;refine hN _ _ ⟨bs++[(stp,v)],_,_,rfl,?_,fun c hc=>?_,by rw[aF];simp;lia⟩
  ·have:=wrote (o':=.lst (bs.map cD++[D.tup [.int stp,.int v]])) m3;rw[show (bs++[(stp,v)]).map cD=bs.map cD++[D.tup [.int stp,.int v]] by rw[dg];rfl];exact this
  ·rcases bp.mp hc with hc|hc
   ·exact okb c hc
   ·rw[aP.mp hc];exact⟨⟨by show 0<stp;lia,v1,v2⟩,hs.1.2,hs.2⟩
 ·rintro τ G3 ⟨bs,x2,x3,rfl,m3,okb,hb⟩;refine⟨_,IQ m3.at_,by rw[ν];simp at hb;lia,IS,fun p4 mss G4 n4 hmem nd hr hl4=>?_⟩;obtain⟨us,rfl,hmem2,hr2,hl2⟩:=Pt hmem nd hr hl4;rw[C0] at n4;refine⟨_,n4.at_,fun p5 G5 n5=>⟨_,n5.at_,?_⟩⟩;rw[pH,show (some (8:Int))=some ((8:Nat):Int) from rfl,xU];exact pJ (m3.sub.trans (n4.sub.trans n5.sub)) (q (us.take 8) (fun c hc=>okb c ((hmem2 c).mp (fW hc))) (hr2.take 8) (by rw[ck];lia))
 ·show (as.take 6).length+(fP 0 t.toNat).length≤9;rw[sy,ck];lia
end My
namespace My
open PySem L2 L3
def mJ(G:Gp)(d:D):Prop:=(∃ds:List D,d=.tup ds/\ds.length≤20/\∀x∈ds,Known dk x)∨(∃p,d=.obj p/\((∃xs,G p=some (.lst xs))∨G p=some .eD))∨((∀ds,d≠.tup ds)/\∀p,d≠.obj p)
theorem mJ.sub{G G':Gp}{d:D}(s:Sub G G')(h:mJ G d):mJ G' d:=by
 rcases h with h|⟨p,e,⟨xs,h⟩|h⟩|h
 ·exact .inl h
 ·exact .inr (.inl ⟨p,e,.inl ⟨xs,s _ _ h⟩⟩)
 ·exact .inr (.inl ⟨p,e,.inr (s _ _ h)⟩)
 ·exact .inr (.inr h)
theorem mJ.k2{G:Gp}{d:D}(h:mJ G d):jW G d:=by
 rcases h with⟨ds,rfl,_,hk⟩|⟨p,rfl,⟨xs,h⟩|h⟩|⟨h1,h2⟩
 ·exact fun x hx=>(hk x hx).sub (nL _)
 ·exact⟨_,h,trivial⟩
 ·exact⟨_,h,trivial⟩
 ·cases d with
  |tup ds=>exact absurd rfl (h1 ds)
  |obj p=>exact absurd rfl (h2 p)
  |_=>trivial
theorem mJ.len{G:Gp}{d:D}(h:mJ G d):∀ds,d=.tup ds->ds.length≤60:=fun ds e=>by
 rcases h with⟨es,e2,hl,_⟩|⟨p,e2,_⟩|⟨h1,_⟩
 ·rw[e] at e2;cases e2;lia
 ·rw[e] at e2;cases e2
 ·exact absurd e (h1 ds)
theorem zN{cs:List aH}{d:D}(h:∀ds,d≠.tup ds):¬rk cs d:=fun⟨ps,e,_⟩=>h _ e
theorem mJ.shown{G:Gp}{d:D}(h:mJ G d):jW dk (lZ G d)/\Short (lZ G d)/\∀cs,rk cs (lZ G d)↔rk cs d:=by
 rcases h with⟨ds,rfl,hl,hk⟩|⟨p,rfl,⟨xs,h⟩|h⟩|⟨h1,h2⟩
 ·exact⟨hk,fun es e=>by cases e;lia,fun cs=>Iff.rfl⟩
 ·rw[Hq h];exact⟨trivial,nofun,fun cs=>⟨fun g=>absurd g (zN nofun),fun g=>absurd g (zN nofun)⟩⟩
 ·rw[Ho h];exact⟨trivial,nofun,fun cs=>⟨fun g=>absurd g (zN nofun),fun g=>absurd g (zN nofun)⟩⟩
 ·have e:lZ G d=d:=by
   cases d with
   |obj p=>exact absurd rfl (h2 p)
   |_=>rfl
  rw[e];refine⟨?_,fun ds e=>absurd e (h1 ds),fun cs=>Iff.rfl⟩;cases d with
  |tup ds=>exact absurd rfl (h1 ds)
  |obj p=>exact absurd rfl (h2 p)
  |_=>trivial
theorem zM{G:Gp}{ns:List Int}(h:ns.length≤20):mJ G (tupI ns):=.inl ⟨_,rfl,by rw[ν];exact h,fun x hx=>by
 obtain⟨i,_,rfl⟩:=ah.mp hx;trivial⟩
theorem ints_snoc{ns:List Int}{ds:List D}(hd:∀x∈ds,Known dk x):∀x∈ns.map D.int++ds,Known dk x:=fun x hx=>by
 rcases bp.mp hx with h|h
 ·obtain⟨i,_,rfl⟩:=ah.mp h;trivial
 ·exact hd x h
def xg:dC:=fun ds G Q=>∃(pp:ε) (cs:List aH) (ps:List Int),ds=[.obj pp,dQ cs,tupI ps]/\G pp=some .kL/\cs.length≤12/\ps.length≤12/\∀d G',Sub G G'->mJ G' d->Q d G'
def X4:ar:=bS (bc fj (π 4) (bt mF (ξ (π 0) (ξ (eC (.int 16)) (aa)))))
def X3:ar:=bz (cb (bc eQ (π 4) (i9 (ξ (bc eQ (π 2) (eF (ξ (eC .az) (aa)))) (ξ (eF (ξ (π 2) (aa))) (ξ (Ee (π 2)) (ξ (eC (.bl true)) (ξ (eF (ξ (bc eQ (π 3) (bt mF (ξ (π 0) (ξ (bc yY (eC (.int 10)) (eC (.int 9))) (aa))))) (aa))) (aa)))))))) (hName 4)) X4
def X2:ar:=bz (cb (i9 (ξ (dS xD (ξ (π 2) (aa))) (ξ (eC .az) (ξ (eC (.int 0)) (ξ (eC (.str "")) (ξ (Eg) (ξ (bc eQ (π 2) (eF (ξ (π 3) (aa)))) (ξ (bc eQ (eF (ξ (Lm yZ (eC (.int 1))) (aa))) (π 2)) (ξ (bc eQ (π 2) (eF (ξ (eC (.int 0)) (ξ (eC (.int 0)) (aa))))) (ξ (eF (ξ (eC (.bl true)) (aa))) (ξ (eF (ξ (eC (.bl false)) (aa))) (ξ (eF (ξ (eC (.str "0")) (aa))) (aa))))))))))))) (hName 4)) X3
def Gw:ar:=bz (cb (dS lq (ξ (π 1) (aa))) (hName 3)) X2
theorem X1:∀ds G Q,xg ds G Q->Gw (aT Q) (aO ["pen","clocks","places","many","odd"] ds) G:=by
 rintro ds G Q ⟨pp,cs,ps,rfl,hpp,vb,hl,q⟩;have hz1:(ps.map D.int).length+1≤ai:=cK (by rw[ν];lia);have hz2:(ps.map D.int).length+2≤ai:=cK (by rw[ν];lia);have hz3:1+(ps.map D.int).length≤ai:=cK (by rw[ν];lia);intro pA GA nA pB GB nB;refine⟨hz1,hz3,hz2,?_⟩;intro pC GC nC;have hppC:GC pp=some .kL:=nC.sub _ _ (nB.sub _ _ (nA.sub _ _ hpp));refine⟨hz1,⟨by decide,by decide⟩,pp,_,rfl,hppC,⟨by decide,jG (by decide) (by decide)⟩,fun r1 a1 a2=>?_⟩;intro pD GD nD';refine⟨_,_,nD'.sub _ _ nC.at_,nD'.at_,cK (g7 rfl),fun pE GE nE=>?_⟩;have sE:Sub GC GE:=nD'.sub.trans nE.sub;have s:Sub G GE:=((nA.sub.trans nB.sub).trans nC.sub).trans sE;refine⟨pp,16,rfl,sE _ _ hppC,⟨by decide,jG (by decide) (by decide)⟩,fun r h3 h4=>?_⟩;have eA:=sE _ _ (nC.sub _ _ (nB.sub _ _ nA.at_));have eB:=sE _ _ (nC.sub _ _ nB.at_);have go:∀d,mJ GE d->(aT Q).rt d GE:=fun d h=>du (q d GE s h);have hlm:(ps.map D.int).length≤12:=by rw[ν];exact hl
 have one:∀x:D,Known dk x->mJ GE (.tup [x]):=fun x hx=>.inl ⟨_,rfl,g7 rfl,fun y hy=>by rw[aP.mp hy];exact hx⟩;have:r=0∨r=1∨r=2∨r=3∨r=4∨r=5∨r=6∨r=7∨r=8∨r=9∨r=10∨r=11∨r=12∨r=13∨r=14∨r=15:=by lia
 rcases this with rfl|rfl|rfl|rfl|rfl|rfl|rfl|rfl|rfl|rfl|rfl|rfl|rfl|rfl|rfl|rfl
 ·exact⟨_,_,nE.at_,rfl,go _ (.inr (.inl ⟨pA,rfl,.inl ⟨_,eA⟩⟩))⟩
 ·exact⟨_,_,nE.at_,rfl,go _ (.inr (.inr ⟨nofun,nofun⟩))⟩
 ·exact⟨_,_,nE.at_,rfl,go _ (.inr (.inr ⟨nofun,nofun⟩))⟩
 ·exact⟨_,_,nE.at_,rfl,go _ (.inr (.inr ⟨nofun,nofun⟩))⟩
 ·exact⟨_,_,nE.at_,rfl,go _ (.inr (.inl ⟨pB,rfl,.inr eB⟩))⟩
 ·refine⟨_,_,nE.at_,rfl,go _ (.inl ⟨_,rfl,?_,ints_snoc fun x hx=>by rw[aP.mp hx];trivial⟩)⟩;rw[aF];simp only[aj,dF];lia
 ·refine⟨_,_,nE.at_,rfl,go _ (.inl ⟨_,rfl,?_,fun x hx=>?_⟩)⟩
  ·rw[aF];simp only[aj,dF];lia
  ·rcases bp.mp hx with h|h
   ·rw[aP.mp h];trivial
   ·obtain⟨i,_,rfl⟩:=ah.mp h;trivial
 ·refine⟨_,_,nE.at_,rfl,go _ (.inl ⟨_,rfl,?_,ints_snoc fun x hx=>?_⟩)⟩
  ·rw[aF];simp only[aj,dF];lia
  ·simp only[Φ,aM,or_false] at hx;rcases hx with rfl|rfl<;>trivial
 ·exact⟨_,_,nE.at_,rfl,go _ (one _ trivial)⟩
 ·exact⟨_,_,nE.at_,rfl,go _ (one _ trivial)⟩
 ·exact⟨_,_,nE.at_,rfl,go _ (one _ trivial)⟩
 ·refine⟨_,_,nE.at_,rfl,go _ (.inl ⟨_,rfl,?_,ints_snoc fun x hx=>by rw[aP.mp hx];trivial⟩)⟩;rw[aF];simp only[aj,dF];lia
 ·exact⟨_,_,nE.at_,rfl,go _ (one _ trivial)⟩
 ·refine⟨_,_,nE.at_,rfl,go _ (.inl ⟨_,rfl,?_,fun x hx=>?_⟩)⟩
  ·rw[iI];lia
  ·obtain⟨i,_,rfl⟩:=ah.mp (List.mem_reverse.mp hx);trivial
 ·exact⟨_,_,nE.at_,rfl,go _ (.inr (.inr ⟨nofun,nofun⟩))⟩
 ·exact⟨_,_,nE.at_,rfl,go _ (one _ trivial)⟩
def xf:dC:=fun ds G Q=>∃cs:List aH,ds=[dQ cs]/\qj cs/\10000<bO cs/\Q (.bl true) G
def X0(rs:List ι)(e0:ε):ar:=bS (bc (fv false) (bt (xN rs) (ξ (π 1) (aa))) (eF (ξ (eC (.str "great")) (ξ (yi e0 pG (ξ (π 0) (aa))) (ξ (eC (.int 10000)) (aa))))))
def Gv(rs:List ι):ar:=yS rs 1 (wQ (vV qB (ξ (π 0) (ξ (eF (ξ (eC (.int 0)) (aa))) (aa)))) (wO)) (X0 rs) (bS (eC (.bl false)))
theorem XZ:∀ds G Q,xf ds G Q->Gv ["TooGreat"] (aT Q) (aO ["clocks","e"] ds) G:=by
 rintro ds G Q ⟨cs,rfl,hs,hgt,q⟩;refine⟨cs,tupI [0],rfl,hs,fun x hx=>?_,fun es e=>?_,fun hn=>absurd hn (by lia),fun _=>⟨by simp,fun p G2 n=>?_⟩⟩
 ·rw[aP.mp hx];trivial
 ·cases e;exact g7 rfl
 refine⟨p,_,_,rfl,n.at_,by simp,fun G3 s3=>⟨⟨_,_,s3 _ _ n.at_⟩,cs,rfl,hs.1,hs.2,fun G4 j=>⟨_,_,rfl,rfl,(by decide:1≤50),?_⟩⟩⟩;have e:(Dat.D.tup [.str "great",.int ((bO cs:Nat):Int),.int 10000]).dZ (.tup [.str "great",.int ((bO cs:Nat):Int),.int 10000])=true:=by simp[Dat.D.dZ,Dat.i8]
 show (aT Q).rt (.bl ((Dat.D.tup [.str "great",.int ((bO cs:Nat):Int),.int 10000]).dZ (.tup [.str "great",.int ((bO cs:Nat):Int),.int 10000]))) G4;rw[e];exact pJ ((n.sub.trans s3).trans j.old) q
end My
namespace My
open PySem L2 L3
def lY:dC:=fun ds G Q=>∃ns:List Int,ds=[.eN (ns.map .int)]/\ns.length≤63/\Q (.bl true) G
def Yy:ar:=jV (qc (kh (bQ (oK "bool" (π 8)))) (qc (bQ (bc (fv true) (π 8) (π 7))) (bQ (bc (fv true) (qe qB B3 (ξ (π 3) (ξ (π 6) (aa)))) (π 7))))) (bS (eC (.bl false))) (ft)
def Yx:ar:=bz (cb (qe qB B3 (ξ (π 3) (ξ (π 6) (aa)))) (hName 8)) Yy
def Gu:ar:=bz (cb (bt xk (ξ (π 3) (ξ (π 6) (aa)))) (hName 7)) Yx
def Yw:ar:=jV (kh (bQ (bt xf (ξ (bt xo (ξ (π 2) (aa))) (aa))))) (bS (eC (.bl false))) (ft)
def Gs:ar:=bz (iD (i6 (i9 (ξ (π 4) (ξ (π 5) (ξ (AZ (ξ (dS lq (ξ (π 3) (aa))) (aa))) (ξ (eF (aa)) (ξ (bt xg (ξ (π 2) (ξ (π 3) (ξ (π 4) (aa))))) (ξ (rJ (π 4) (jy (eC (.int 1))) (kM)) (aa))))))))) (hName 6) (Gu)) Yw
def Hj:ar:=bz (cb (dS uq (ξ (fR ["place"] [2] (kN (ξ (dS lq (ξ (π 3) (aa))) (aa))) (hName 0) (bQ (bc za (bt mF (ξ (π 1) (ξ (eC (.int 3)) (aa)))) (eC (.int 0)))) (π 0)) (aa))) (hName 5)) Gs
def Yv:ar:=bz (cb (bt xi (ξ (π 2) (ξ (π 3) (aa)))) (hName 4)) Hj
def Yu:ar:=bz (cb (bt xh (ξ (π 2) (aa))) (hName 3)) Yv
def Yt:ar:=bz (cb (bt C2 (ξ (π 1) (aa))) (hName 2)) Yu
def Ys:ar:=bS (eC (.bl true))
def Yr:ar:=bz (iD (i6 (bc eQ (i9 (ξ (bt xV (ξ (π 0) (ξ (eC (.int 0)) (aa)))) (aa))) (rJ (π 0) (jy (eC (.int 1))) (jy (eC (.int 6)))))) (hName 1) (Yt)) Ys
def Hi:ar:=bz (jV (qc (bQ (bc w6 (qe qB B3 (ξ (eF (ξ (eF (ξ (eC (.int 1)) (ξ (eC (.int 0)) (aa)))) (aa))) (ξ (eF (ξ (eC (.int 0)) (aa))) (aa)))) (eC (.bl true)))) (bQ (bc w6 (qe qB B3 (ξ (eF (aa)) (ξ (eF (aa)) (aa)))) (eC (.bl false))))) (bS (eC (.bl false))) (ft)) Yr
structure BB(cs:List aH):Prop where
 s:qj cs
 nd:cs.Nodup
 n:bO cs≤10000
theorem Zy{cs:List aH}(sm:yp cs)(hr:rb cs)(hl:cs.length≤8):BB cs:=by
 have hr720:bO cs≤720:=fL (by decide) (HE (Nat.one_dvd _) fun c hc=>Int.ofNat_dvd.mp (by
  have h1:=(sm c hc).1.1;have h2:=(sm c hc).2.2;rw[gu (by lia)];exact h2))
 exact⟨⟨fun c hc=>⟨(sm c hc).1,by have:=(sm c hc).2.1;lia⟩,by lia⟩,Om hr,by lia⟩
theorem Hh(b:Bool):(Dat.D.bl b).dZ (.bl b)=true:=by cases b<;>rfl
theorem Yq{D3:kT}{G:Gp}{cs:List aH}{d:D}{x0 x1 x2 x4 x5 x7 x8:Option D}(F:BB cs)(h:mJ G d)(q:∀y7 y8 G',Sub G G'->D3.nx [x0,x1,x2,some (dQ cs),x4,x5,some d,y7,y8] G'):Gu D3 [x0,x1,x2,some (dQ cs),x4,x5,some d,x7,x8] G:=by
 refine⟨cs,d,rfl,F.s,F.nd,F.n,h.k2,h.len,fun b G1 s1 hb=>?_⟩;have h1:=(h.sub s1).shown;refine⟨cs,lZ G1 d,rfl,F.s,h1.1,h1.2.1,fun _=>⟨F.nd,fun b1 hb1=>⟨rfl,mY.no,fun G2 j2=>?_⟩⟩,fun hgt=>absurd F.n (by lia)⟩;have e1:b1=b:=fG.mpr (hb1.trans ((h1.2.2 cs).trans hb.symm));subst e1;have h2:=(h.sub (s1.trans j2.old)).shown;refine⟨nofun,fun _=>⟨_,_,rfl,rfl,aY _,fun g=>?_,fun _=>?_⟩⟩
 ·have g':(!((Dat.D.bl b1).dZ (.bl b1)))=true:=g;rw[Hh] at g';cases g'
 refine⟨cs,lZ G2 d,rfl,F.s,h2.1,h2.2.1,fun _=>⟨F.nd,fun b2 hb2=>⟨rfl,mY.no,fun G3 j3=>?_⟩⟩,fun hgt=>absurd F.n (by lia)⟩;have e2:b2=b1:=fG.mpr (hb2.trans ((h2.2.2 cs).trans hb.symm));subst e2;refine⟨_,_,rfl,rfl,aY _,fun g=>?_,fun _=>q _ _ G3 ((s1.trans j2.old).trans j3.old)⟩;have g':(!((Dat.D.bl b2).dZ (.bl b2)))=true:=g;rw[Hh] at g';cases g'
theorem Yp{D3:kT}{G:Gp}{pp:ε}{cs:List aH}{ps:List Int}{ss:List D}{x0 x1 x6 x7 x8:Option D}(hpp:G pp=some .kL)(F:BB cs)(hb:∀x∈ps,0≤x/\x<(cs.length:Int))(hr:ps.Pairwise (· < ·))(hs:mJ G (.tup ss))
  (q:∀y6 y7 y8 G',Sub G G'->D3.nx [x0,x1,some (.obj pp),some (dQ cs),some (tupI ps),some (.tup ss),y6,y7,y8] G'):Gs D3 [x0,x1,some (.obj pp),some (dQ cs),some (tupI ps),some (.tup ss),x6,x7,x8] G:=by
 have vb:=F.s.2;have hpl:=zO hb hr;refine⟨⟨by lia,by rw[ν];lia⟩,?_⟩;refine⟨pp,cs,ps,rfl,hpp,vb,by lia,fun dd G1 s1 hd=>?_⟩;intro p2 G2 n2;have s2:Sub G G2:=s1.trans n2.sub;refine⟨_,n2.at_,?_⟩;refine mw (fun ds τ G'=>(∀d∈ds,mJ G2 d)/\Sub G2 G'/\∃y6 y7 y8,τ=[x0,x1,some (.obj pp),some (dQ cs),some (tupI ps),some (.tup ss),y6,y7,y8]) (fun _ _ _ h=>h.2.1 _ _ n2.at_) ?_ ?_ _ _ _ ⟨fun d hd'=>?_,Sub.refl _,_,_,_,rfl⟩
 ·rintro d ds τ G3 N ⟨ho,s3,y6,y7,y8,rfl⟩ hN;exact Yq F ((ho d Δ).sub s3) fun z7 z8 G4 s4=>hN _ _ ⟨fun e he=>ho e (ω _ he),s3.trans s4,_,_,_,rfl⟩
 ·rintro τ G3 ⟨_,s3,y6,y7,y8,rfl⟩;refine⟨pp,rfl,s3 _ _ (s2 _ _ hpp),fun ws hw hgt=>⟨ws,rfl,hw,hgt,nofun,fun _=>q _ _ _ G3 (s2.trans s3)⟩⟩
 ·have e1:fS (ps.map D.int) (some 1) none=(ps.drop 1).map D.int:=by rw[pH,show (some (1:Int))=some ((1:Nat):Int) from rfl,zj]
  simp only[Φ,aM,or_false] at hd';rcases hd' with rfl|rfl|rfl|rfl|rfl|rfl
  ·exact zM (by lia)
  ·exact hs.sub s2
  ·have e:D.tup (fP 0 (((cs.map cD).length:Nat):Int).toNat)=tupI (qy cs.length):=by
    rw[ν,bR,GH];rfl
   rw[e];exact zM (by rw[GG];lia)
  ·exact zM (ns:=[]) (by decide)
  ·exact hd.sub n2.sub
  ·rw[e1];exact zM (ns:=ps.drop 1) (by rw[eH];lia)
theorem XM{D3:kT}{G:Gp}{pp:ε}{cs:List aH}{ps:List Int}{x0 x1 x5 x6 x7 x8:Option D}(hpp:G pp=some .kL)(F:BB cs)(hb:∀x∈ps,0≤x/\x<(cs.length:Int))(hr:ps.Pairwise (· < ·))
  (q:∀y5 y6 y7 y8 G',Sub G G'->D3.nx [x0,x1,some (.obj pp),some (dQ cs),some (tupI ps),y5,y6,y7,y8] G'):Hj D3 [x0,x1,some (.obj pp),some (dQ cs),some (tupI ps),x5,x6,x7,x8] G:=by
 have vb:=F.s.2;refine⟨⟨by lia,by rw[ν];lia⟩,?_,?_⟩
 ·show (fP 0 (((cs.map cD).length:Nat):Int).toNat).length≤ai;rw[sy];exact cK (by rw[ν];lia)
 refine zi (fun ds acc τ G'=>G'=G/\(∀d∈ds,Known dk d)/\acc.length+ds.length≤12/\(∀x∈acc,Known dk x)/\∃x,τ=[x,some (.obj pp)]) (fun _ _ _ _ _=>trivial) ?_ ?_ _ _ _ _ ⟨rfl,fun d hd=>?_,?_,nofun,none,rfl⟩
 ·rintro d ds acc τ G1 K1 K2 ⟨rfl,hd,hl,ha,x,rfl⟩ g1 g2;simp only[aj] at hl;refine⟨pp,3,rfl,hpp,⟨by decide,jG (by decide) (by decide)⟩,fun r r1 r2=>⟨fun _=>g1 _ _ _ ⟨rfl,fun e he=>hd e (ω _ he),by rw[aF];simp;lia,fun z hz=>?_,_,rfl⟩,fun _=>g2 _ _ ⟨rfl,fun e he=>hd e (ω _ he),by lia,ha,_,rfl⟩⟩⟩;rcases bp.mp hz with h|h
  ·exact ha z h
  ·rw[aP.mp h];exact hd d Δ
 ·rintro acc τ G1 ⟨rfl,_,hl,ha,x,rfl⟩;intro p2 G2 n2;refine⟨_,n2.at_,?_⟩;exact Yp (n2.sub _ _ hpp) F hb hr (.inl ⟨acc,rfl,by simp at hl;lia,ha⟩) fun y6 y7 y8 G3 s3=>q _ _ _ _ G3 (n2.sub.trans s3)
 ·have hd:d∈fP 0 (((cs.map cD).length:Nat):Int).toNat:=hd;rw[wY] at hd;obtain⟨i,_,rfl⟩:=ah.mp hd;trivial
 ·show 0+(fP 0 (((cs.map cD).length:Nat):Int).toNat).length≤12;rw[sy,ν];lia
theorem XJ:rk [(1,0)] (tupI [0]):=by
 refine⟨[0],rfl,fun x hx=>?_,jK _ _,fun x hx=>?_,fun c hc=>⟨0,by decide,?_⟩⟩
 ·rw[aP.mp hx];decide
 ·have:x=0:=by
   have:bO [((1:Int),(0:Int))]=1:=by decide
   lia
  subst this;decide
 ·rw[show c=(1,0) from aP.mp hc];decide
theorem good_none:¬rk [] (tupI []):=fun⟨ps,e,_,_,h,_⟩=>by
 rw[←vD e] at h;exact h 0 (by decide) rfl
theorem XI:∀ds G Q,lY ds G Q->Hi (aT Q) (aO ["script","cell","pen","clocks","places","some","thing","due","found"] ds) G:=by
 rintro ds G Q ⟨ns,rfl,hl,q⟩;refine⟨[(1,0)],tupI [0],rfl,⟨fun c hc=>?_,by decide⟩,fun x hx=>?_,fun es e=>?_,fun _=>⟨by simp,fun b hb=>⟨rfl,mY.no,fun Ga ja=>?_⟩⟩,fun h=>absurd h (by decide)⟩
 ·rw[aP.mp hc];exact⟨⟨by decide,by decide,by decide⟩,by decide⟩
 ·rw[aP.mp hx];trivial
 ·cases e;exact g7 rfl
 have e1:b=true:=hb.mpr XJ;subst e1;refine⟨nofun,fun _=>?_⟩;refine⟨[],tupI [],rfl,⟨nofun,by decide⟩,nofun,fun es e=>?_,fun _=>⟨g8,fun b hb=>⟨rfl,mY.no,fun Gb jb=>?_⟩⟩,fun h=>absurd h (by decide)⟩
 ·cases e;exact aY _
 have e2:b=false:=by
  cases b with
  |false=>rfl
  |true=>exact absurd (hb.mp rfl) good_none
 subst e2;refine⟨nofun,fun _=>?_⟩;have sb:Sub G Gb:=ja.old.trans jb.old;refine⟨ns,0,rfl,fun i=>?_⟩;intro q0 G0 n0 q1 G1 n1;rw[pH] at n1;have hcl:=Px ns (some 1) (some 6);refine⟨_,_,n1.sub _ _ n0.at_,n1.at_,?_,fun q2 G2 n2=>?_⟩
 ·rw[ν];exact cK (by simp;lia)
 have s2:=sb.trans ((n0.sub.trans n1.sub).trans n2.sub);refine⟨_,n2.at_,?_⟩;refine mw (fun ds τ G'=>(∃is:List Int,ds=is.map D.int)/\Sub G2 G'/\∃x1 x2 x3 x4 x5 x6 x7 x8,τ=[some (.eN (ns.map .int)),x1,x2,x3,x4,x5,x6,x7,x8]) (fun _ _ _ h=>h.2.1 _ _ n2.at_) ?_ ?_ _ _ _ ⟨⟨i::pT ns (some 1) (some 6),rfl⟩,Sub.refl _,_,_,_,_,_,_,_,_,rfl⟩
 ·rintro d ds τ G3 N ⟨⟨is,e⟩,s3,x1,x2,x3,x4,x5,x6,x7,x8,rfl⟩ hN;cases is with
  |nil=>cases e
  |cons cc is=>
   cases e;refine⟨cc,rfl,fun pp G4 n4=>⟨pp,rfl,n4.at_,fun cs sm hr hl8=>?_⟩⟩;have F:=Zy sm hr hl8;refine⟨pp,cs,rfl,n4.at_,F.s,F.n,fun ps G5 s5 hb hrp=>?_⟩;exact XM (s5 _ _ n4.at_) F hb hrp fun y5 y6 y7 y8 G6 s6=>hN _ _ ⟨⟨is,rfl⟩,s3.trans (n4.sub.trans (s5.trans s6)),_,_,_,_,_,_,_,_,rfl⟩
 ·rintro τ G3 ⟨_,s3,x1,x2,x3,x4,x5,x6,x7,x8,rfl⟩;exact pJ (s2.trans s3) q
end My
namespace My
open PySem L2 L3
def top(i:Nat):aB:=PySem.Challenge.pw_coverclocks_k28_least_covers_by_anybody.main.body.getD i (.Pass ⟨0,0,0,0⟩)
def Mp:aB->aB
 |.ClassDef _ _ _ b ..=>b.getD 0 (.Pass ⟨0,0,0,0⟩)
 |s=>s
abbrev CL:aB:=top 11
abbrev XH:List ι:=["thing"]
theorem XG:aU XH ["thing"] (ρ CL):=⟨rfl,rfl,rfl,by decide +kernel,rfl,by decide +kernel,by decide +kernel⟩
abbrev CK:aB:=top 12
abbrev XF:List ι:=["things","thing"]
theorem XD:aU XF ["things","thing"] (ρ CK):=⟨rfl,rfl,rfl,by decide +kernel,rfl,by decide +kernel,by decide +kernel⟩
abbrev xc:aB:=top 13
abbrev CJ:List ι:=["things","thing"]
theorem XC:aU CJ ["things","thing"] (ρ xc):=⟨rfl,rfl,rfl,by decide +kernel,rfl,by decide +kernel,by decide +kernel⟩
abbrev CI:aB:=top 14
abbrev XB:List ι:=["many","most"]
theorem XA:aU XB ["many","most"] (ρ CI):=⟨rfl,rfl,rfl,by decide +kernel,rfl,by decide +kernel,by decide +kernel⟩
abbrev CH:aB:=top 15
abbrev Xz:List ι:=["one","other","left"]
theorem wt:aU Xz ["one","other"] (ρ CH):=⟨rfl,rfl,rfl,by decide +kernel,rfl,by decide +kernel,by decide +kernel⟩
abbrev CG:aB:=top 16
abbrev Xy:List ι:=["numbers","least","number"]
theorem wu:aU Xy ["numbers"] (ρ CG):=⟨rfl,rfl,rfl,by decide +kernel,rfl,by decide +kernel,by decide +kernel⟩
abbrev CF:aB:=top 17
abbrev Xx:List ι:=["clocks","many","counts","step","rest","number"]
theorem uQ:aU Xx ["clocks","many"] (ρ CF):=⟨rfl,rfl,rfl,by decide +kernel,rfl,by decide +kernel,by decide +kernel⟩
abbrev CD:aB:=top 18
abbrev Xw:List ι:=["clock","counts","many","number"]
theorem EC:aU Xw ["clock","counts","many"] (ρ CD):=⟨rfl,rfl,rfl,by decide +kernel,rfl,by decide +kernel,by decide +kernel⟩
abbrev zL:aB:=top 20
abbrev Hg:List ι:=["clocks"]
theorem Xv:aU Hg ["clocks"] (ρ zL):=⟨rfl,rfl,rfl,by decide +kernel,rfl,by decide +kernel,by decide +kernel⟩
abbrev Di:aB:=top 22
abbrev Xu:List ι:=["clocks"]
theorem Xt:aU Xu ["clocks"] (ρ Di):=⟨rfl,rfl,rfl,by decide +kernel,rfl,by decide +kernel,by decide +kernel⟩
abbrev Dh:aB:=top 23
abbrev Xs:List ι:=["clocks"]
theorem Xr:aU Xs ["clocks"] (ρ Dh):=⟨rfl,rfl,rfl,by decide +kernel,rfl,by decide +kernel,by decide +kernel⟩
abbrev Dg:aB:=top 24
abbrev Xq:List ι:=["clocks","clock"]
theorem Xp:aU Xq ["clocks","clock"] (ρ Dg):=⟨rfl,rfl,rfl,by decide +kernel,rfl,by decide +kernel,by decide +kernel⟩
abbrev zK:aB:=top 26
abbrev Hf:List ι:=["clocks"]
theorem Xo:aU Hf ["clocks"] (ρ zK):=⟨rfl,rfl,rfl,by decide +kernel,rfl,by decide +kernel,by decide +kernel⟩
abbrev zJ:aB:=top 27
abbrev He:List ι:=["clocks","counts"]
theorem BU:aU He ["clocks"] (ρ zJ):=⟨rfl,rfl,rfl,by decide +kernel,rfl,by decide +kernel,by decide +kernel⟩
abbrev zI:aB:=top 28
abbrev Hd:List ι:=["clocks","thing","chosen"]
theorem BP:aU Hd ["clocks","thing"] (ρ zI):=⟨rfl,rfl,rfl,by decide +kernel,rfl,by decide +kernel,by decide +kernel⟩
abbrev Df:aB:=top 30
abbrev Xn:List ι:=["script","k"]
theorem Xm:aU Xn ["script","k"] (ρ Df):=⟨rfl,rfl,rfl,by decide +kernel,rfl,by decide +kernel,by decide +kernel⟩
abbrev De:aB:=top 31
abbrev Xl:List ι:=["seed"]
theorem BO:aU Xl ["seed"] (ρ De):=⟨rfl,rfl,rfl,by decide +kernel,rfl,by decide +kernel,by decide +kernel⟩
abbrev Dd:aB:=top 32
abbrev Xk:List ι:=["cell","left"]
theorem BQ:aU Xk ["cell"] (ρ Dd):=⟨rfl,rfl,rfl,by decide +kernel,rfl,by decide +kernel,by decide +kernel⟩
abbrev Dc:aB:=top 33
abbrev XY:List ι:=["pen","many","found"]
theorem BM:aU XY ["pen","many"] (ρ Dc):=⟨rfl,rfl,rfl,by decide +kernel,rfl,by decide +kernel,by decide +kernel⟩
abbrev C9:aB:=top 34
abbrev XX:List ι:=["found"]
theorem XW:aU XX ["found"] (ρ C9):=⟨rfl,rfl,rfl,by decide +kernel,rfl,by decide +kernel,by decide +kernel⟩
abbrev C8:aB:=top 35
abbrev XU:List ι:=["e","marks"]
theorem wV:aU XU ["e"] (ρ C8):=⟨rfl,rfl,rfl,by decide +kernel,rfl,by decide +kernel,by decide +kernel⟩
abbrev C7:aB:=top 36
abbrev XT:List ι:=["e"]
theorem XS:aU XT ["e"] (ρ C7):=⟨rfl,rfl,rfl,by decide +kernel,rfl,by decide +kernel,by decide +kernel⟩
abbrev CC:aB:=top 37
abbrev XR:List ι:=["one","other"]
theorem uR:aU XR ["one","other"] (ρ CC):=⟨rfl,rfl,rfl,by decide +kernel,rfl,by decide +kernel,by decide +kernel⟩
abbrev CB:aB:=top 38
abbrev XQ:List ι:=["clocks","found","step","rest"]
theorem jU:aU XQ ["clocks"] (ρ CB):=⟨rfl,rfl,rfl,by decide +kernel,rfl,by decide +kernel,by decide +kernel⟩
abbrev zH:aB:=top 39
abbrev Hc:List ι:=["clocks","number"]
theorem XO:aU Hc ["clocks","number"] (ρ zH):=⟨rfl,rfl,rfl,by decide +kernel,rfl,by decide +kernel,by decide +kernel⟩
abbrev zG:aB:=top 40
abbrev G9:List ι:=["pen","times","found","turn","spot","k","step","rest"]
theorem ma:aU G9 ["pen","times"] (ρ zG):=⟨rfl,rfl,rfl,by decide +kernel,rfl,by decide +kernel,by decide +kernel⟩
abbrev CA:aB:=top 41
abbrev XN:List ι:=["pen","found","turn","step"]
theorem uS:aU XN ["pen"] (ρ CA):=⟨rfl,rfl,rfl,by decide +kernel,rfl,by decide +kernel,by decide +kernel⟩
abbrev zF:aB:=top 42
abbrev G8:List ι:=["clocks","places","some","alone","number","now"]
theorem sg:aU G8 ["clocks","places"] (ρ zF):=⟨rfl,rfl,rfl,by decide +kernel,rfl,by decide +kernel,by decide +kernel⟩
abbrev Cz:aB:=top 43
abbrev W9:List ι:=["pen","some"]
theorem BN:aU W9 ["pen"] (ρ Cz):=⟨rfl,rfl,rfl,by decide +kernel,rfl,by decide +kernel,by decide +kernel⟩
abbrev xb:aB:=top 44
abbrev Cy:List ι:=["clocks","thing"]
theorem W8:aU Cy ["clocks","thing"] (ρ xb):=⟨rfl,rfl,rfl,by decide +kernel,rfl,by decide +kernel,by decide +kernel⟩
abbrev xa:aB:=top 45
abbrev Cw:List ι:=["clocks","places","some"]
theorem BR:aU Cw ["clocks","places"] (ρ xa):=⟨rfl,rfl,rfl,by decide +kernel,rfl,by decide +kernel,by decide +kernel⟩
abbrev Cv:aB:=top 46
abbrev W7:List ι:=["pen","clocks","places","turn","spot","fewer"]
theorem tK:aU W7 ["pen","clocks"] (ρ Cv):=⟨rfl,rfl,rfl,by decide +kernel,rfl,by decide +kernel,by decide +kernel⟩
abbrev Cu:aB:=top 47
abbrev W6:List ι:=["pen","clocks","places","many","odd"]
theorem uT:aU W6 ["pen","clocks","places"] (ρ Cu):=⟨rfl,rfl,rfl,by decide +kernel,rfl,by decide +kernel,by decide +kernel⟩
abbrev Ct:aB:=top 48
abbrev W5:List ι:=["clocks","e"]
theorem BS:aU W5 ["clocks"] (ρ Ct):=⟨rfl,rfl,rfl,by decide +kernel,rfl,by decide +kernel,by decide +kernel⟩
abbrev zb:aB:=top 49
abbrev Gr:List ι:=["script","cell","pen","clocks","places","some","thing","due","found"]
theorem kE:aU Gr ["script"] (ρ zb):=⟨rfl,rfl,rfl,by decide +kernel,rfl,by decide +kernel,by decide +kernel⟩
abbrev vB:aB:=Mp (top 8)
theorem W4:aU ["self","many","most"] ["self","many","most"] (ρ vB):=⟨rfl,rfl,rfl,by decide +kernel,rfl,by decide +kernel,by decide +kernel⟩
set_option genInjectivity false in
structure Ft where
 AL:ε
 Bh:ae
 AJ:ε
 Bf:ae
 Ec:ε
 Ep:ae
 D4:ε
 Eh:ae
 Ea:ε
 En:ae
 Eb:ε
 Eo:ae
 D7:ε
 Ek:ae
 D6:ε
 Ej:ae
 AE:ε
 Ba:ae
 Az:ε
 A6:ae
 AW:ε
 Bq:ae
 D5:ε
 Ei:ae
 AA:ε
 A7:ae
 AV:ε
 Bp:ae
 AM:ε
 Bi:ae
 AU:ε
 Bo:ae
 AG:ε
 Bc:ae
 AO:ε
 Bk:ae
 AD:ε
 A9:ae
 wB:ε
 wF:ae
 AS:ε
 Bn:ae
 D9:ε
 Em:ae
 wA:ε
 wD:ae
 wC:ε
 wG:ae
 Ay:ε
 A5:ae
 AI:ε
 Be:ae
 AB:ε
 A8:ae
 AH:ε
 Bd:ae
 AF:ε
 Bb:ae
 AK:ε
 Bg:ae
 AQ:ε
 Bl:ae
 D8:ε
 El:ae
 AN:ε
 Bj:ae
 AR:ε
 Bm:ae
 AX:ε
 vf:ae
 kR:ε
 oO:ε
 mV:ε
 oM:ε
 tT:ε
 mW:ε
 qZ:ε
 cW:ε
 fZ:ε
 yw:ae
 vA:dG
structure Txt(K:PySem.W.Frag)(mg:ι->Option Value)(t:Ft):Prop where
 Fk:di K "whole_good" "whole_good" CL t.AL t.Bh
 Mc:mg "whole_good" = some (.ref t.AL)
 MF:Binds K t.Bh ["thing"] []
 Fi:di K "place_good" "place_good" CK t.AJ t.Bf
 Ma:mg "place_good" = some (.ref t.AJ)
 MD:Binds K t.Bf ["things","thing"] []
 LI:di K "rising_places_good" "rising_places_good" xc t.Ec t.Ep
 Zl:mg "rising_places_good" = some (.ref t.Ec)
 ZM:Binds K t.Ep ["things","thing"] []
 Eu:di K "refuse_above" "refuse_above" CI t.D4 t.Eh
 K0:mg "refuse_above" = some (.ref t.D4)
 Lq:Binds K t.Eh ["many","most"] []
 LG:di K "common_divisor" "common_divisor" CH t.Ea t.En
 Zj:mg "common_divisor" = some (.ref t.Ea)
 ZK:Binds K t.En ["one","other"] []
 LH:di K "common_multiple" "common_multiple" CG t.Eb t.Eo
 Zk:mg "common_multiple" = some (.ref t.Eb)
 ZL:Binds K t.Eo ["numbers"] []
 Ex:di K "counts_within" "counts_within" CF t.D7 t.Ek
 K4:mg "counts_within" = some (.ref t.D7)
 Ls:Binds K t.Ek ["clocks","many"] []
 Ew:di K "first_counted" "first_counted" CD t.D6 t.Ej
 K3:mg "first_counted" = some (.ref t.D6)
 Lr:Binds K t.Ej ["clock","counts","many"] []
 wJ:di K "round_of" "round_of" zL t.AE t.Ba
 Ai:mg "round_of" = some (.ref t.AE)
 Bu:Binds K t.Ba ["clocks"] []
 Fc:di K "covers" "covers" Di t.Az t.A6
 L4:mg "covers" = some (.ref t.Az)
 Mw:Binds K t.A6 ["clocks"] []
 Fs:di K "first_missed" "first_missed" Dh t.AW t.Bq
 Mj:mg "first_missed" = some (.ref t.AW)
 MM:Binds K t.Bq ["clocks"] []
 LB:di K "first_within" "first_within" Dg t.D5 t.Ei
 Zg:mg "first_within" = some (.ref t.D5)
 ZH:Binds K t.Ei ["clocks","clock"] []
 Fd:di K "idle_of" "idle_of" zK t.AA t.A7
 L5:mg "idle_of" = some (.ref t.AA)
 Mx:Binds K t.A7 ["clocks"] []
 Fq:di K "lone_numbers" "lone_numbers" zJ t.AV t.Bp
 Mi:mg "lone_numbers" = some (.ref t.AV)
 ML:Binds K t.Bp ["clocks"] []
 tY:di K "least_good" "least_good" zI t.AM t.Bi
 uX:mg "least_good" = some (.ref t.AM)
 vg:Binds K t.Bi ["clocks","thing"] []
 Fp:di K "_law_cell_at" "_law_cell_at" Df t.AU t.Bo
 Mh:mg "_law_cell_at" = some (.ref t.AU)
 MK:Binds K t.Bo ["script","k"] []
 BD:di K "_law_next" "_law_next" De t.AG t.Bc
 EM:mg "_law_next" = some (.ref t.AG)
 EY:Binds K t.Bc ["seed"] []
 Fm:di K "_law_pen_of" "_law_pen_of" Dd t.AO t.Bk
 Me:mg "_law_pen_of" = some (.ref t.AO)
 MH:Binds K t.Bk ["cell"] []
 ig:di K "_law_draw" "_law_draw" Dc t.AD t.A9
 iN:mg "_law_draw" = some (.ref t.AD)
 iQ:Binds K t.A9 ["pen","many"] []
 wK:di K "_law_whole" "_law_whole" C9 t.wB t.wF
 Aj:mg "_law_whole" = some (.ref t.wB)
 Bv:Binds K t.wF ["found"] []
 BE:di K "_law_kind_of" "_law_kind_of" C8 t.AS t.Bn
 EN:mg "_law_kind_of" = some (.ref t.AS)
 EZ:Binds K t.Bn ["e"] []
 LF:di K "_law_great_told" "_law_great_told" C7 t.D9 t.Em
 Zi:mg "_law_great_told" = some (.ref t.D9)
 ZJ:Binds K t.Em ["e"] []
 wI:di K "_law_gcd" "_law_gcd" CC t.wA t.wD
 EK:mg "_law_gcd" = some (.ref t.wA)
 EX:Binds K t.wD ["one","other"] []
 vk:di K "_law_round" "_law_round" CB t.wC t.wG
 Ak:mg "_law_round" = some (.ref t.wC)
 Bw:Binds K t.wG ["clocks"] []
 BC:di K "_law_at" "_law_at" zH t.Ay t.A5
 EJ:mg "_law_at" = some (.ref t.Ay)
 EW:Binds K t.A5 ["clocks","number"] []
 Fh:di K "_law_split" "_law_split" zG t.AI t.Be
 L9:mg "_law_split" = some (.ref t.AI)
 MC:Binds K t.Be ["pen","times"] []
 Fe:di K "_law_few" "_law_few" CA t.AB t.A8
 L6:mg "_law_few" = some (.ref t.AB)
 Mz:Binds K t.A8 ["pen"] []
 Fg:di K "_law_least" "_law_least" zF t.AH t.Bd
 L8:mg "_law_least" = some (.ref t.AH)
 MB:Binds K t.Bd ["clocks","places"] []
 Ff:di K "_law_wide" "_law_wide" Cz t.AF t.Bb
 L7:mg "_law_wide" = some (.ref t.AF)
 MA:Binds K t.Bb ["pen"] []
 Fj:di K "_law_due_of" "_law_due_of" xb t.AK t.Bg
 Mb:mg "_law_due_of" = some (.ref t.AK)
 ME:Binds K t.Bg ["clocks","thing"] []
 Fn:di K "_law_covers" "_law_covers" xa t.AQ t.Bl
 Mf:mg "_law_covers" = some (.ref t.AQ)
 MI:Binds K t.Bl ["clocks","places"] []
 LD:di K "_law_made_least" "_law_made_least" Cv t.D8 t.El
 Zh:mg "_law_made_least" = some (.ref t.D8)
 ZI:Binds K t.El ["pen","clocks"] []
 Fl:di K "_law_odd_of" "_law_odd_of" Cu t.AN t.Bj
 Md:mg "_law_odd_of" = some (.ref t.AN)
 MG:Binds K t.Bj ["pen","clocks","places"] []
 Fo:di K "_law_refused" "_law_refused" Ct t.AR t.Bm
 Mg:mg "_law_refused" = some (.ref t.AR)
 MJ:Binds K t.Bm ["clocks"] []
 MO:di K "law" "law" zb t.AX t.vf
 Ml:mg "law" = some (.ref t.AX)
 aaD:Binds K t.vf ["script"] []
 xZ:mg "ClockError" = some (.ref t.kR)
 FI:dz K "ClockError" t.kR
 B6:mg "NoClock" = some (.ref t.oO)
 Mt:dz K "NoClock" t.oO
 Am:mg "NoNumber" = some (.ref t.mV)
 LJ:dz K "NoNumber" t.mV
 B5:mg "NoPlace" = some (.ref t.oM)
 Ms:dz K "NoPlace" t.oM
 FC:mg "NoRow" = some (.ref t.tT)
 ZE:dz K "NoRow" t.tT
 An:mg "NoClocks" = some (.ref t.mW)
 LK:dz K "NoClocks" t.mW
 DU:mg "NoText" = some (.ref t.qZ)
 MX:dz K "NoText" t.qZ
 uY:mg "TooGreat" = some (.ref t.cW)
 dN:dz K "TooGreat" t.cW
 uW:tW K t.cW t.kR t.fZ t.yw "TooGreat.__init__" vB ["many","most"]
 fw:fO K t.cW
 rS:PySem.W.kitOne K (.ref t.cW) (.ref t.oO)=some false
 qT:PySem.W.kitOne K (.ref t.cW) (.ref t.mW)=some false
 qS:PySem.W.kitOne K (.ref t.cW) (.ref t.mV)=some false
 rR:PySem.W.kitOne K (.ref t.cW) (.ref t.oM)=some false
 tZ:PySem.W.kitOne K (.ref t.cW) (.ref t.tT)=some false
 sJ:PySem.W.kitOne K (.ref t.cW) (.ref t.qZ)=some false
 qR:PySem.W.kitOne K (.ref t.cW) (.ref t.cW)=some true
 yr:PySem.W.kitOne K (.ref t.cW) (.type "ValueError")=some true
 uH:nU K t.cW "many"
 uG:nU K t.cW "most"
 p9:mg "MOST_NUMBERS" = some (.int 10000 t.vA)
 xY:mg "ValueError" = none
 wz:mg "all" = none
 xX:mg "bool" = none
 yq:mg "enumerate" = none
 Al:mg "int" = none
 cC:mg "isinstance" = none
 ib:mg "len" = none
 B4:mg "list" = none
 Mk:mg "max" = none
 gx:mg "range" = none
 EO:mg "set" = none
 uF:mg "sorted" = none
 ko:mg "tuple" = none
 LZ:mg "zip" = none
abbrev rs:List ι:=["TooGreat"]
section
variable {P:Ψ} {w:af} {K:PySem.W.Frag} {mg:ι->Option Value} {base:Ξ} {t:Ft}
theorem nJ{x:ι}{C D:ε}(h:dz K x C)(h2:dz K x D):C=D:=by
 unfold dz at h h2;rw[h] at h2;cases h2;rfl
theorem Txt.yu(T:Txt K mg t):∀z∈rs,∀D,dz K z D->fO K D/\PySem.W.kitOne K (.ref D) (.ref t.oO)=some (z=="NoClock"):=by
 intro z hz D cn;simp only[Φ,aM,or_false] at hz;subst hz;cases nJ cn T.dN;exact⟨T.fw,T.rS⟩
theorem Txt.yd(T:Txt K mg t):∀z∈rs,∀D,dz K z D->fO K D/\PySem.W.kitOne K (.ref D) (.ref t.mW)=some (z=="NoClocks"):=by
 intro z hz D cn;simp only[Φ,aM,or_false] at hz;subst hz;cases nJ cn T.dN;exact⟨T.fw,T.qT⟩
theorem Txt.yc(T:Txt K mg t):∀z∈rs,∀D,dz K z D->fO K D/\PySem.W.kitOne K (.ref D) (.ref t.mV)=some (z=="NoNumber"):=by
 intro z hz D cn;simp only[Φ,aM,or_false] at hz;subst hz;cases nJ cn T.dN;exact⟨T.fw,T.qS⟩
theorem Txt.yt(T:Txt K mg t):∀z∈rs,∀D,dz K z D->fO K D/\PySem.W.kitOne K (.ref D) (.ref t.oM)=some (z=="NoPlace"):=by
 intro z hz D cn;simp only[Φ,aM,or_false] at hz;subst hz;cases nJ cn T.dN;exact⟨T.fw,T.rR⟩
theorem Txt.B7(T:Txt K mg t):∀z∈rs,∀D,dz K z D->fO K D/\PySem.W.kitOne K (.ref D) (.ref t.tT)=some (z=="NoRow"):=by
 intro z hz D cn;simp only[Φ,aM,or_false] at hz;subst hz;cases nJ cn T.dN;exact⟨T.fw,T.tZ⟩
theorem Txt.Aq(T:Txt K mg t):∀z∈rs,∀D,dz K z D->fO K D/\PySem.W.kitOne K (.ref D) (.ref t.qZ)=some (z=="NoText"):=by
 intro z hz D cn;simp only[Φ,aM,or_false] at hz;subst hz;cases nJ cn T.dN;exact⟨T.fw,T.sJ⟩
theorem Txt.yb(T:Txt K mg t):∀z∈rs,∀D,dz K z D->fO K D/\PySem.W.kitOne K (.ref D) (.ref t.cW)=some (z=="TooGreat"):=by
 intro z hz D cn;simp only[Φ,aM,or_false] at hz;subst hz;cases nJ cn T.dN;exact⟨T.fw,T.qR⟩
theorem Txt.ZW(T:Txt K mg t):∀z∈rs,∀D,dz K z D->fO K D/\PySem.W.kitOne K (.ref D) (.type "ValueError")=some true:=by
 intro z hz D cn;simp only[Φ,aM,or_false] at hz;subst hz;cases nJ cn T.dN;exact⟨T.fw,T.yr⟩
theorem Txt.yh(T:Txt K mg t):∀z∈rs,∀D,dz K z D->nU K D "many":=by
 intro z hz D cn;simp only[Φ,aM,or_false] at hz;subst hz;cases nJ cn T.dN;exact T.uH
theorem Txt.yg(T:Txt K mg t):∀z∈rs,∀D,dz K z D->nU K D "most":=by
 intro z hz D cn;simp only[Φ,aM,or_false] at hz;subst hz;cases nJ cn T.dN;exact T.uG
theorem Txt.takes(T:Txt K mg t):Bx K rs t.kR:=by
 intro z hz D cn;simp only[Φ,aM,or_false] at hz;subst hz;cases nJ cn T.dN;exact⟨_,T.uW.ex⟩
theorem W3:∀ds G Q,si ds G Q->ds.length=1:=by
 intro ds G Q h
 first
  | (rcases ds with _|⟨_,_|⟨_,_|⟨_,_|⟨_,_⟩⟩⟩⟩<;>first|rfl|exact h.elim)
  | (obtain⟨rfl,_⟩:=h;rfl)
  | (obtain⟨_,rfl,_⟩:=h;rfl)
  | (obtain⟨_,_,rfl,_⟩:=h;rfl)
  | (obtain⟨_,_,_,rfl,_⟩:=h;rfl)
  | (obtain⟨_,_,_,_,rfl,_⟩:=h;rfl)
  | (obtain⟨_,_,_,_,_,rfl,_⟩:=h;rfl)
  | (obtain⟨_,_,_,_,_,_,rfl,_⟩:=h;rfl)
  | (obtain⟨_,_,_,_,_,_,_,rfl,_⟩:=h;rfl)
  | (obtain⟨_,_,_,_,_,_,_,_,rfl,_⟩:=h;rfl)
theorem W2(T:Txt K mg t):dD P w K mg base 1 t.AL t.Bh ["thing"] si:=by
 refine fQ (k:=0) (sp:=si) T.Fk XG (by decide) W3 (C4) (fun cdv A outer s H E hr=>?_) PM;refine bY (dw ?_);refine zv (uA IZ rfl (Γ (pv 0)) T.cC T.Al rfl (by decide) (by decide)) ?_;refine zw (IG (uA Dn rfl (Γ (pv 0)) T.cC T.xX rfl (by decide) (by decide)))
theorem W1:∀ds G Q,xO ds G Q->ds.length=2:=by
 intro ds G Q h;obtain⟨_,_,rfl,_⟩:=h;rfl
theorem W0(T:Txt K mg t):dD P w K mg base 2 t.AJ t.Bf ["things","thing"] xO:=by
 refine fQ (k:=1) (sp:=xO) T.Fi XD (by decide) W1 (Hx) (fun cdv A outer s H E hr=>?_) Pc;refine bY (dw ?_);refine zv (dY ((W2 T).mono (by decide)) hr T.Mc T.Fk.kp T.MF (Θ (Γ (pv 1)) au)) ?_;refine zw (QQ Zn xF Vm (xG hr.r9) bA (Γ (pv 1)) (kI hr.units T.ib (Θ (Γ (pv 0)) au)))
theorem WZ:∀ds G Q,xm ds G Q->ds.length=2:=by
 intro ds G Q h;obtain⟨_,_,rfl,_⟩:=h;rfl
theorem WY(T:Txt K mg t):dD P w K mg base 3 t.Ec t.Ep ["things","thing"] xm:=by
 refine fQ (k:=2) (sp:=xm) T.LI XC (by decide) WZ (GV) (fun cdv A outer s H E hr=>?_) YB;refine cw (md (qF ?_) (bY (dw lu)) me) (bY (dw (zr hr.units T.wz (Θ ?_ au))));refine qG (pO (nP (uA kit_tuple rfl (Γ (pv 1)) T.cC T.ko rfl (by decide) (by decide)))) ?_;refine uC (pO (nP (zr hr.units T.wz (Θ ?_ au))));refine lD rfl (show dE CJ (ρ xc) _ ["place"] [0] from⟨rfl,by decide +kernel,by decide +kernel,by decide +kernel,by decide +kernel,by decide +kernel⟩) ?_ ?_;refine kJ (Γ (pv 1));intro s0 H0 fp0;refine⟨(fN (i:=0) (show (["place","things"]:List ι).Nodup by decide +kernel)),pN,?_⟩;refine dY ((W0 T).mono (by decide)) hr T.Ma T.Fi.kp T.MD (Θ (Γ (pv 1)) (Θ (Γ (pv 0)) au));refine lD rfl (show dE CJ (ρ xc) _ ["ahead","place"] [] from⟨rfl,by decide +kernel,by decide +kernel,by decide +kernel,by decide +kernel,by decide +kernel⟩) ?_ ?_;refine QV T.LZ (Θ (Γ (pv 1)) (Θ (pM (Γ (pv 1)) (nN bA) qE) au));intro s0 H0 fp0;refine⟨(xy rfl ?_),pN,(uD xF (xG hr.r9) (Γ (pv 0)) (Γ (pv 1)) (cJ _))⟩;refine mv (fN (i:=0) (show (["ahead","place"]:List ι).Nodup by decide +kernel)) ?_;refine mv (fN (i:=1) (show (["ahead","place"]:List ι).Nodup by decide +kernel)) vM
theorem WX:∀ds Q E,vH ds Q E->ds.length=2:=by
 intro ds Q E h
 first
  | (rcases ds with _|⟨_,_|⟨_,_|⟨_,_|⟨_,_⟩⟩⟩⟩<;>first|rfl|exact h.elim)
  | (obtain⟨rfl,_⟩:=h;rfl)
  | (obtain⟨_,rfl,_⟩:=h;rfl)
  | (obtain⟨_,_,rfl,_⟩:=h;rfl)
  | (obtain⟨_,_,_,rfl,_⟩:=h;rfl)
  | (obtain⟨_,_,_,_,rfl,_⟩:=h;rfl)
  | (obtain⟨_,_,_,_,_,rfl,_⟩:=h;rfl)
  | (obtain⟨_,_,_,_,_,_,rfl,_⟩:=h;rfl)
  | (obtain⟨_,_,_,_,_,_,_,rfl,_⟩:=h;rfl)
  | (obtain⟨_,_,_,_,_,_,_,_,rfl,_⟩:=h;rfl)
theorem Gq(T:Txt K mg t):lA P w K mg base 1 t.D4 t.Eh ["many","most"] vH:=by
 refine sh (k:=0) (sp:=vH) T.Eu XA (by decide) WX Hw (fun cdv A outer s H E0 E hr hE=>?_) O9;refine bY (md (i4 Ap zV (Γ (pv 0)) (Γ (pv 1)) (cJ _)) ?_ me);refine bY (Qz Rn hE T.uW T.dN T.uY hr rfl (Θ (Γ (pv 0)) (Θ (Γ (pv 1)) au)))
theorem WW:∀ds G Q,xS ds G Q->ds.length=2:=by
 intro ds G Q h;obtain⟨_,_,rfl,_⟩:=h;rfl
theorem WV(T:Txt K mg t):dD P w K mg base 1 t.Ea t.En ["one","other"] xS:=by
 refine fQ (k:=0) (sp:=xS) T.LG wt (by decide) WW (IK) (fun cdv A outer s H E hr=>?_) Pj;refine cw ?_ (bY (dw (Γ (pv 0))));refine DR cA (i4 qQ (qH hr.units) (Γ (pv 1)) bA (cJ _)) ?_;refine cw (eO (i:=2) wt.nd (dA qK qM (Γ (pv 0)) (Γ (pv 1)))) ?_;refine cw (eO (i:=0) wt.nd (Γ (pv 1))) (bY (eO (i:=1) wt.nd (Γ (pv 2))))
theorem WU:∀ds G Q,xR ds G Q->ds.length=1:=by
 intro ds G Q h;obtain⟨_,_,rfl,_⟩:=h;rfl
theorem WT(T:Txt K mg t):dD P w K mg base 2 t.Eb t.Eo ["numbers"] xR:=by
 refine fQ (k:=1) (sp:=xR) T.LH wu (by decide) WU (IJ) (fun cdv A outer s H E hr=>?_) P1;refine cw (eO (i:=1) wu.nd bA) (cw ?_ (bY (dw (Γ (pv 1)))));refine nO cA rfl (kJ (Γ (pv 0))) (fN (i:=2) wu.nd) (bY ?_);refine eO (i:=1) wu.nd (dA qI qJ (Γ (pv 1)) (dA xH xI (Γ (pv 2)) ?_));refine dY ((WV T).mono (by decide)) hr T.Zj T.LG.kp T.ZK ?_;refine Θ (Γ (pv 1)) (Θ (Γ (pv 2)) au)
theorem WS:∀ds Q E,vE ds Q E->ds.length=2:=by
 intro ds Q E h
 first
  | (rcases ds with _|⟨_,_|⟨_,_|⟨_,_|⟨_,_⟩⟩⟩⟩<;>first|rfl|exact h.elim)
  | (obtain⟨rfl,_⟩:=h;rfl)
  | (obtain⟨_,rfl,_⟩:=h;rfl)
  | (obtain⟨_,_,rfl,_⟩:=h;rfl)
  | (obtain⟨_,_,_,rfl,_⟩:=h;rfl)
  | (obtain⟨_,_,_,_,rfl,_⟩:=h;rfl)
  | (obtain⟨_,_,_,_,_,rfl,_⟩:=h;rfl)
  | (obtain⟨_,_,_,_,_,_,rfl,_⟩:=h;rfl)
  | (obtain⟨_,_,_,_,_,_,_,rfl,_⟩:=h;rfl)
  | (obtain⟨_,_,_,_,_,_,_,_,rfl,_⟩:=h;rfl)
theorem Gn(T:Txt K mg t):lA P w K mg base 2 t.D7 t.Ek ["clocks","many"] vE:=by
 refine sh (k:=1) (sp:=vE) T.Ex uQ (by decide) WS Hl (fun cdv A outer s H E0 E hr hE=>?_) N7;refine cw (DT ?_) ?_;refine qC ((Gq T).mono (by decide)) hr (mT hE) T.K0 T.Eu.kp T.Lq ?_;refine Θ (Γ (pv 1)) (Θ (Jw T.p9) au);refine cw (eO (i:=2) uQ.nd (dA qI qJ (oG (Θ bA au)) (Γ (pv 1)))) ?_;refine cw ?_ (bY (dw (Γ (pv 2))));refine nO IC rfl (kJ (Γ (pv 0))) ?_ (bY ?_);refine xy rfl (mv (fN (i:=3) uQ.nd) (mv (fN (i:=4) uQ.nd) vM));refine nO IC rfl (ID T.gx (Θ (Γ (pv 4)) (Θ (Γ (pv 1)) (Θ (Γ (pv 3)) au)))) ?_ ?_;refine fN (i:=5) uQ.nd;refine bY (QR (Γ (pv 2)) (Γ (pv 5)) bA)
theorem WR:∀ds G Q,vJ ds G Q->ds.length=3:=by
 intro ds G Q h;obtain⟨_,_,_,_,_,rfl,_⟩:=h;rfl
theorem Gm(T:Txt K mg t):dD P w K mg base 1 t.D6 t.Ej ["clock","counts","many"] vJ:=by
 refine fQ (k:=0) (sp:=vJ) T.Ew EC (by decide) WR (Hy) (fun cdv A outer s H E hr=>?_) Pg;refine cw ?_ (bY (dw xA));refine nO cA rfl (ID T.gx ?_) (fN (i:=3) EC.nd) ?_;refine Θ (ls (Γ (pv 0)) bA) (Θ (kI hr.units T.ib (Θ (Γ (pv 1)) au)) (Θ (ls (Γ (pv 0)) bA) au));refine bY (md (i4 sI (sr hr.units) (ls (Γ (pv 1)) (Γ (pv 3))) (Γ (pv 2)) (cJ _)) (bY (dw (Γ (pv 3)))) me)
theorem WQ:∀ds G Q,uw ds G Q->ds.length=1:=by
 intro ds G Q h;obtain⟨_,rfl,_⟩:=h;rfl
theorem Cs(T:Txt K mg t):dD P w K mg base 3 t.AE t.Ba ["clocks"] uw:=by
 refine fQ (k:=2) (sp:=uw) T.wJ Xv (by decide) WQ (HM) (fun cdv A outer s H E hr=>?_) PZ;refine bY (dw ?_);refine dY ((WT T).mono (by decide)) hr T.Zk T.LH.kp T.ZL (Θ ?_ au);refine lD rfl (show dE Hg (ρ zL) _ ["clock"] [] from⟨rfl,by decide +kernel,by decide +kernel,by decide +kernel,by decide +kernel,by decide +kernel⟩) ?_ ?_;refine kJ (Γ (pv 0));intro s0 H0 fp0;refine⟨(fN (i:=0) (show (["clock"]:List ι).Nodup by decide +kernel)),pN,(ls (Γ (pv 0)) bA)⟩
theorem WO:∀ds Q E,xu ds Q E->ds.length=2:=by
 intro ds Q E h
 first
  | (rcases ds with _|⟨_,_|⟨_,_|⟨_,_|⟨_,_⟩⟩⟩⟩<;>first|rfl|exact h.elim)
  | (obtain⟨rfl,_⟩:=h;rfl)
  | (obtain⟨_,rfl,_⟩:=h;rfl)
  | (obtain⟨_,_,rfl,_⟩:=h;rfl)
  | (obtain⟨_,_,_,rfl,_⟩:=h;rfl)
  | (obtain⟨_,_,_,_,rfl,_⟩:=h;rfl)
  | (obtain⟨_,_,_,_,_,rfl,_⟩:=h;rfl)
  | (obtain⟨_,_,_,_,_,_,rfl,_⟩:=h;rfl)
  | (obtain⟨_,_,_,_,_,_,_,rfl,_⟩:=h;rfl)
  | (obtain⟨_,_,_,_,_,_,_,_,rfl,_⟩:=h;rfl)
theorem WN(T:Txt K mg t):lA P w K mg base 4 t.D5 t.Ei ["clocks","clock"] xu:=by
 refine sh (k:=3) (sp:=xu) T.LB Xp (by decide) WO Hk (fun cdv A outer s H E0 E hr hE=>?_) N6;refine bY (dw ?_);refine dY ((Gm T).mono (by decide)) hr T.K3 T.Ew.kp T.Lr ?_;refine Θ (Γ (pv 1)) (Θ ?_ (Θ bA au));refine qC ((Gn T).mono (by decide)) hr (mT hE) T.K4 T.Ex.kp T.Ls ?_;refine Θ (Γ (pv 0)) (Θ ?_ au);refine dY ((Cs T).mono (by decide)) hr T.Ai T.wJ.kp T.Bu ?_;refine Θ (dA jH jI (Γ (pv 0)) (gA (Θ (Γ (pv 1)) au))) au
theorem WM:∀ds Q E,xt ds Q E->ds.length=1:=by
 intro ds Q E h
 first
  | (rcases ds with _|⟨_,_|⟨_,_|⟨_,_|⟨_,_⟩⟩⟩⟩<;>first|rfl|exact h.elim)
  | (obtain⟨rfl,_⟩:=h;rfl)
  | (obtain⟨_,rfl,_⟩:=h;rfl)
  | (obtain⟨_,_,rfl,_⟩:=h;rfl)
  | (obtain⟨_,_,_,rfl,_⟩:=h;rfl)
  | (obtain⟨_,_,_,_,rfl,_⟩:=h;rfl)
  | (obtain⟨_,_,_,_,_,rfl,_⟩:=h;rfl)
  | (obtain⟨_,_,_,_,_,_,rfl,_⟩:=h;rfl)
  | (obtain⟨_,_,_,_,_,_,_,rfl,_⟩:=h;rfl)
  | (obtain⟨_,_,_,_,_,_,_,_,rfl,_⟩:=h;rfl)
theorem WL(T:Txt K mg t):lA P w K mg base 5 t.AW t.Bq ["clocks"] xt:=by
 refine sh (k:=4) (sp:=xt) T.Fs Xr (by decide) WM HZ (fun cdv A outer s H E0 E hr hE=>?_) N5;refine bY (dw ?_);refine qC ((WN T).mono (by decide)) hr (mT hE) T.Zg T.LB.kp T.ZH ?_;refine Θ (Γ (pv 0)) (Θ (gA (Θ bA (Θ bA au))) au)
theorem WK:∀ds Q E,xq ds Q E->ds.length=1:=by
 intro ds Q E h
 first
  | (rcases ds with _|⟨_,_|⟨_,_|⟨_,_|⟨_,_⟩⟩⟩⟩<;>first|rfl|exact h.elim)
  | (obtain⟨rfl,_⟩:=h;rfl)
  | (obtain⟨_,rfl,_⟩:=h;rfl)
  | (obtain⟨_,_,rfl,_⟩:=h;rfl)
  | (obtain⟨_,_,_,rfl,_⟩:=h;rfl)
  | (obtain⟨_,_,_,_,rfl,_⟩:=h;rfl)
  | (obtain⟨_,_,_,_,_,rfl,_⟩:=h;rfl)
  | (obtain⟨_,_,_,_,_,_,rfl,_⟩:=h;rfl)
  | (obtain⟨_,_,_,_,_,_,_,rfl,_⟩:=h;rfl)
  | (obtain⟨_,_,_,_,_,_,_,_,rfl,_⟩:=h;rfl)
theorem WJ(T:Txt K mg t):lA P w K mg base 6 t.Az t.A6 ["clocks"] xq:=by
 refine sh (k:=5) (sp:=xq) T.Fc Xt (by decide) WK HY (fun cdv A outer s H E0 E hr hE=>?_) N4;refine bY (dw (uD La Ko ?_ xA (cJ _)));refine qC ((WL T).mono (by decide)) hr (mT hE) T.Mj T.Fs.kp T.MM (Θ (Γ (pv 0)) au)
theorem Xj:∀ds Q E,xp ds Q E->ds.length=1:=by
 intro ds Q E h
 first
  | (rcases ds with _|⟨_,_|⟨_,_|⟨_,_|⟨_,_⟩⟩⟩⟩<;>first|rfl|exact h.elim)
  | (obtain⟨rfl,_⟩:=h;rfl)
  | (obtain⟨_,rfl,_⟩:=h;rfl)
  | (obtain⟨_,_,rfl,_⟩:=h;rfl)
  | (obtain⟨_,_,_,rfl,_⟩:=h;rfl)
  | (obtain⟨_,_,_,_,rfl,_⟩:=h;rfl)
  | (obtain⟨_,_,_,_,_,rfl,_⟩:=h;rfl)
  | (obtain⟨_,_,_,_,_,_,rfl,_⟩:=h;rfl)
  | (obtain⟨_,_,_,_,_,_,_,rfl,_⟩:=h;rfl)
  | (obtain⟨_,_,_,_,_,_,_,_,rfl,_⟩:=h;rfl)
theorem Xi(T:Txt K mg t):lA P w K mg base 4 t.AV t.Bp ["clocks"] xp:=by
 refine sh (k:=3) (sp:=xp) T.Fq BU (by decide) Xj HR (fun cdv A outer s H E0 E hr hE=>?_) Nz;refine cw (eO (i:=1) BU.nd ?_) (bY (dw ?_));refine qC ((Gn T).mono (by decide)) hr (mT hE) T.K4 T.Ex.kp T.Ls (Θ (Γ (pv 0)) ?_);refine Θ (dY ((Cs T).mono (by decide)) hr T.Ai T.wJ.kp T.Bu (Θ (Γ (pv 0)) au)) au;refine lD rfl (show dE He (ρ zJ) _ ["clock"] [1] from⟨rfl,by decide +kernel,by decide +kernel,by decide +kernel,by decide +kernel,by decide +kernel⟩) ?_ ?_;refine kJ (Γ (pv 0));intro s0 H0 fp0;refine⟨(fN (i:=0) (show (["clock","counts"]:List ι).Nodup by decide +kernel)),pN,?_⟩;refine dY ((Gm T).mono (by decide)) hr T.K3 T.Ew.kp T.Lr ?_;refine Θ (Γ (pv 0)) (Θ (Γ (pv 1)) (Θ bA au))
theorem Xh:∀ds Q E,xn ds Q E->ds.length=1:=by
 intro ds Q E h
 first
  | (rcases ds with _|⟨_,_|⟨_,_|⟨_,_|⟨_,_⟩⟩⟩⟩<;>first|rfl|exact h.elim)
  | (obtain⟨rfl,_⟩:=h;rfl)
  | (obtain⟨_,rfl,_⟩:=h;rfl)
  | (obtain⟨_,_,rfl,_⟩:=h;rfl)
  | (obtain⟨_,_,_,rfl,_⟩:=h;rfl)
  | (obtain⟨_,_,_,_,rfl,_⟩:=h;rfl)
  | (obtain⟨_,_,_,_,_,rfl,_⟩:=h;rfl)
  | (obtain⟨_,_,_,_,_,_,rfl,_⟩:=h;rfl)
  | (obtain⟨_,_,_,_,_,_,_,rfl,_⟩:=h;rfl)
  | (obtain⟨_,_,_,_,_,_,_,_,rfl,_⟩:=h;rfl)
theorem Xg(T:Txt K mg t):lA P w K mg base 5 t.AA t.A7 ["clocks"] xn:=by
 refine sh (k:=4) (sp:=xn) T.Fd Xo (by decide) Xh G7 (fun cdv A outer s H E0 E hr hE=>?_) Nq;refine bY (dw ?_);refine lD rfl (show dE Hf (ρ zK) _ ["place","number"] [] from⟨rfl,by decide +kernel,by decide +kernel,by decide +kernel,by decide +kernel,by decide +kernel⟩) ?_ ?_;refine QU T.yq ?_;refine Θ (qC ((Xi T).mono (by decide)) hr (mT hE) T.Mi T.Fq.kp T.ML (Θ (Γ (pv 0)) au)) (au);intro s0 H0 fp0;refine⟨(xy rfl ?_),(zu (i4 La Ko (Γ (pv 1)) xA (cJ _))),(Γ (pv 0))⟩;refine mv (fN (i:=0) (show (["place","number"]:List ι).Nodup by decide +kernel)) ?_;refine mv (fN (i:=1) (show (["place","number"]:List ι).Nodup by decide +kernel)) vM
theorem Xf:∀ds Q E,qB ds Q E->ds.length=2:=by
 intro ds Q E h
 first
  | (rcases ds with _|⟨_,_|⟨_,_|⟨_,_|⟨_,_⟩⟩⟩⟩<;>first|rfl|exact h.elim)
  | (obtain⟨rfl,_⟩:=h;rfl)
  | (obtain⟨_,rfl,_⟩:=h;rfl)
  | (obtain⟨_,_,rfl,_⟩:=h;rfl)
  | (obtain⟨_,_,_,rfl,_⟩:=h;rfl)
  | (obtain⟨_,_,_,_,rfl,_⟩:=h;rfl)
  | (obtain⟨_,_,_,_,_,rfl,_⟩:=h;rfl)
  | (obtain⟨_,_,_,_,_,_,rfl,_⟩:=h;rfl)
  | (obtain⟨_,_,_,_,_,_,_,rfl,_⟩:=h;rfl)
  | (obtain⟨_,_,_,_,_,_,_,_,rfl,_⟩:=h;rfl)
theorem w9(T:Txt K mg t):lA P w K mg base 7 t.AM t.Bi ["clocks","thing"] qB:=by
 refine sh (k:=6) (sp:=qB) T.tY BP (by decide) Xf GN (fun cdv A outer s H E0 E hr hE=>?_) Y8;refine cw (DT ?_) ?_;refine qC ((Gq T).mono (by decide)) hr (mT hE) T.K0 T.Eu.kp T.Lq ?_;refine Θ (dY ((Cs T).mono (by decide)) hr T.Ai T.wJ.kp T.Bu (Θ (Γ (pv 0)) au)) ?_;refine Θ (Jw T.p9) au;refine cw (md (pO (nP ?_)) (bY (dw lu)) me) ?_;refine dY ((WY T).mono (by decide)) hr T.Zl T.LI.kp T.ZM ?_;refine Θ (Γ (pv 0)) (Θ (Γ (pv 1)) au);refine cw ?_ (bY (dw ?_));refine eO (i:=2) BP.nd (zt hr.units T.ko (Θ ?_ au));refine lD rfl (show dE Hd (ρ zI) _ ["place"] [0] from⟨rfl,by decide +kernel,by decide +kernel,by decide +kernel,by decide +kernel,by decide +kernel⟩) ?_ ?_;refine kJ (Γ (pv 1));intro s0 H0 fp0;refine⟨(fN (i:=0) (show (["place","clocks"]:List ι).Nodup by decide +kernel)),pN,(ls (Γ (pv 1)) (Γ (pv 0)))⟩;refine zv (qC ((WJ T).mono (by decide)) hr (mT hE) T.L4 T.Fc.kp T.Mw (Θ (Γ (pv 2)) au)) (zw ?_);refine uD sI (sr hr.units) (qC ((Xg T).mono (by decide)) hr (mT hE) T.L5 T.Fd.kp T.Mx (Θ (Γ (pv 2)) au)) ?_ (cJ _);refine oG au
theorem Xe:∀ds G Q,xV ds G Q->ds.length=2:=by
 intro ds G Q h;obtain⟨_,_,rfl,_⟩:=h;rfl
theorem Xd(T:Txt K mg t):dD P w K mg base 1 t.AU t.Bo ["script","k"] xV:=by
 refine fQ (k:=0) (sp:=xV) T.Fp Xm (by decide) Xe (Ii) (fun cdv A outer s H E hr=>?_) PJ;refine cw ?_ (bY (dw bA));refine md (i4 xF (xG hr.r9) (Γ (pv 1)) (kI hr.units T.ib (Θ (Γ (pv 0)) au)) (cJ _)) ?_ me;refine bY (dw (ls (Γ (pv 0)) (Γ (pv 1))))
theorem Xc:∀ds G Q,vL ds G Q->ds.length=1:=by
 intro ds G Q h;obtain⟨_,rfl,_⟩:=h;rfl
theorem Gk(T:Txt K mg t):dD P w K mg base 1 t.AG t.Bc ["seed"] vL:=by
 refine fQ (k:=0) (sp:=vL) T.BD BO (by decide) Xc (Ih) (fun cdv A outer s H E hr=>?_) PH;refine cw (eO (i:=0) BO.nd (dA qK qM (dA jH jI (Γ (pv 0)) bA) bA)) ?_;refine bY (dw (dA qK qM ?_ bA));refine dA jH jI (dA jH jI (dA qI qJ (Γ (pv 0)) (Γ (pv 0))) (dA qI qJ bA (Γ (pv 0)))) bA
theorem Xb:∀ds G Q,zl ds G Q->ds.length=1:=by
 intro ds G Q h;obtain⟨_,rfl,_⟩:=h;rfl
theorem Xa(T:Txt K mg t):dD P w K mg base 1 t.AO t.Bk ["cell"] C2:=by
 refine iG.imp ?_ Pz;refine fQ (k:=0) (sp:=zl) T.Fm BQ (by decide) Xb (Ie) (fun cdv A outer s H E hr=>?_) PB;refine cw (eO (i:=1) BQ.nd (Q2 hr.units T.Mk (Θ (Γ (pv 0)) (Θ (dA JN Ks bA (Γ (pv 0))) au)))) ?_;refine bY (dw (oG (Θ (Γ (pv 1)) ?_)));refine Θ (Q4 hr.units T.Al (Θ (uD Zp Vl (Γ (pv 1)) (dA JK Kr bA bA) (cJ _)) au)) ?_;refine Θ (dA qK qM (Γ (pv 1)) bA) au
theorem WD:∀ds G Q,zm ds G Q->ds.length=2:=by
 intro ds G Q h;obtain⟨_,_,_,_,_,rfl,_⟩:=h;rfl
theorem kG(T:Txt K mg t):dD P w K mg base 2 t.AD t.A9 ["pen","many"] mF:=by
 refine iG.imp ?_ PD;refine fQ (k:=1) (sp:=zm) T.ig BM (by decide) WD (Ig) (fun cdv A outer s H E hr=>?_) PF;refine cw ?_ ?_;refine md (i4 sI (sr hr.units) (ls (Γ (pv 0)) bA) bA (cJ _)) ?_ me;refine cw (eO (i:=2) BM.nd (dA qK qM (ls (Γ (pv 0)) bA) (Γ (pv 1)))) ?_;refine cw (DS (dA xH xI (ls (Γ (pv 0)) bA) (Γ (pv 1))) (IF (Γ (pv 0)) bA)) (bY (dw (Γ (pv 2))));refine cw (DS ?_ (IF (Γ (pv 0)) bA)) ?_;refine dY ((Gk T).mono (by decide)) hr T.EM T.BD.kp T.EY (Θ ?_ au);refine dA jH jI (dY ((Gk T).mono (by decide)) hr T.EM T.BD.kp T.EY (Θ (ls (Γ (pv 0)) bA) au)) (bA);refine bY (dw (dA qK qM (dA xH xI (ls (Γ (pv 0)) bA) bA) (Γ (pv 1))))
theorem WC:∀ds G Q,ux ds G Q->ds.length=1:=by
 intro ds G Q h
 first
  | (rcases ds with _|⟨_,_|⟨_,_|⟨_,_|⟨_,_⟩⟩⟩⟩<;>first|rfl|exact h.elim)
  | (obtain⟨rfl,_⟩:=h;rfl)
  | (obtain⟨_,rfl,_⟩:=h;rfl)
  | (obtain⟨_,_,rfl,_⟩:=h;rfl)
  | (obtain⟨_,_,_,rfl,_⟩:=h;rfl)
  | (obtain⟨_,_,_,_,rfl,_⟩:=h;rfl)
  | (obtain⟨_,_,_,_,_,rfl,_⟩:=h;rfl)
  | (obtain⟨_,_,_,_,_,_,rfl,_⟩:=h;rfl)
  | (obtain⟨_,_,_,_,_,_,_,rfl,_⟩:=h;rfl)
  | (obtain⟨_,_,_,_,_,_,_,_,rfl,_⟩:=h;rfl)
theorem Cr(T:Txt K mg t):uL P w K mg base 1 t.wB t.wF ["found"] ux:=by
 refine Dx (k:=0) (sp:=ux) T.wK XW (by decide) WC (PL) (fun cdv A outer s H E hr=>?_) PK;refine bY (dw ?_);refine zv (uA IZ rfl (Γ (pv 0)) T.cC T.Al rfl (by decide) (by decide)) ?_;refine zw (IG (uA Dn rfl (Γ (pv 0)) T.cC T.xX rfl (by decide) (by decide)))
theorem WB(T:Txt K mg t):dD P w K mg base 1 t.wB t.wF ["found"] ux:=(Cr T).calm
theorem WA:∀ds G Q,(vG rs) ds G Q->ds.length=1:=by
 intro ds G Q h
 first
  | (rcases ds with _|⟨_,_|⟨_,_|⟨_,_|⟨_,_⟩⟩⟩⟩<;>first|rfl|exact h.elim)
  | (obtain⟨rfl,_⟩:=h;rfl)
  | (obtain⟨_,rfl,_⟩:=h;rfl)
  | (obtain⟨_,_,rfl,_⟩:=h;rfl)
  | (obtain⟨_,_,_,rfl,_⟩:=h;rfl)
  | (obtain⟨_,_,_,_,rfl,_⟩:=h;rfl)
  | (obtain⟨_,_,_,_,_,rfl,_⟩:=h;rfl)
  | (obtain⟨_,_,_,_,_,_,rfl,_⟩:=h;rfl)
  | (obtain⟨_,_,_,_,_,_,_,rfl,_⟩:=h;rfl)
  | (obtain⟨_,_,_,_,_,_,_,_,rfl,_⟩:=h;rfl)
theorem Gj(T:Txt K mg t):uL P w K mg base 1 t.AS t.Bn ["e"] (vG rs):=by
 refine Dx (k:=0) (sp:=(vG rs)) T.BE wV (by decide) WA (Hu rs) (fun cdv A outer s H E hr=>?_) (Ou rs);refine cw (eO (i:=1) wV.nd ?_) ?_;refine oG (Θ (uy (T.yu) (Γ (pv 0)) T.cC T.B6) ?_);refine Θ (uy (T.yc) (Γ (pv 0)) T.cC T.Am) ?_;refine Θ (uy (T.yt) (Γ (pv 0)) T.cC T.B5) (Θ (uy (T.B7) (Γ (pv 0)) T.cC T.FC) au);refine cw ?_ ?_;refine eO (i:=1) wV.nd (dA jH jI (Γ (pv 1)) (oG ?_));refine Θ (uy (T.yd) (Γ (pv 0)) T.cC T.An) ?_;refine Θ (uy (T.Aq) (Γ (pv 0)) T.cC T.DU) (Θ (uy (T.yb) (Γ (pv 0)) T.cC T.uY) au);refine cw (md (qF ?_) (bY (dw lE)) me) (bY (dw ?_));refine qG (pO (nP (Qy (T.ZW) (Γ (pv 0)) T.cC T.xY))) (uC ?_);refine i4 qQ (qH hr.units) (DP P5 PySem.F.slot_list_count PySem.F.type_list_count P7 (Γ (pv 1)) (Θ lu au)) bA (cJ _);refine DQ (Θ lE (Θ lE (Θ lE (Θ lE (Θ lE (Θ lE (Θ lE au))))))) ?_;refine DP QJ PySem.F.slot_list_index PySem.F.type_list_index P6 (Γ (pv 1)) (Θ lu au)
theorem Wz:∀ds G Q,(xN rs) ds G Q->ds.length=1:=by
 intro ds G Q h
 first
  | (rcases ds with _|⟨_,_|⟨_,_|⟨_,_|⟨_,_⟩⟩⟩⟩<;>first|rfl|exact h.elim)
  | (obtain⟨rfl,_⟩:=h;rfl)
  | (obtain⟨_,rfl,_⟩:=h;rfl)
  | (obtain⟨_,_,rfl,_⟩:=h;rfl)
  | (obtain⟨_,_,_,rfl,_⟩:=h;rfl)
  | (obtain⟨_,_,_,_,rfl,_⟩:=h;rfl)
  | (obtain⟨_,_,_,_,_,rfl,_⟩:=h;rfl)
  | (obtain⟨_,_,_,_,_,_,rfl,_⟩:=h;rfl)
  | (obtain⟨_,_,_,_,_,_,_,rfl,_⟩:=h;rfl)
  | (obtain⟨_,_,_,_,_,_,_,_,rfl,_⟩:=h;rfl)
theorem Wy(T:Txt K mg t):uL P w K mg base 2 t.D9 t.Em ["e"] (xN rs):=by
 refine Dx (k:=1) (sp:=(xN rs)) T.LF XS (by decide) Wz (Ht rs) (fun cdv A outer s H E hr=>?_) (Oq rs);refine cw ?_ (bY (dw (gA (Θ lE (Θ (zo T.yh (Γ (pv 0))) (Θ (zo T.yg (Γ (pv 0))) au))))));refine md (qF ?_) (bY (dw ?_)) me;refine qG (i4 qQ (qH hr.units) ?_ lE (cJ _)) ?_;refine xw ((Gj T).mono (by decide)) hr T.EN T.BE.kp T.EZ (Θ (Γ (pv 0)) au);refine qG (pO ?_) (uC (pO ?_));refine nP (xw ((Cr T).mono (by decide)) hr T.Aj T.wK.kp T.Bv (Θ (zo T.yh (Γ (pv 0))) au));refine nP (xw ((Cr T).mono (by decide)) hr T.Aj T.wK.kp T.Bv (Θ (zo T.yg (Γ (pv 0))) au));refine gA (Θ (xw ((Gj T).mono (by decide)) hr T.EN T.BE.kp T.EZ (Θ (Γ (pv 0)) au)) au)
theorem Gi:∀ds G Q,uv ds G Q->ds.length=2:=by
 intro ds G Q h
 first
  | (rcases ds with _|⟨_,_|⟨_,_|⟨_,_|⟨_,_⟩⟩⟩⟩<;>first|rfl|exact h.elim)
  | (obtain⟨rfl,_⟩:=h;rfl)
  | (obtain⟨_,rfl,_⟩:=h;rfl)
  | (obtain⟨_,_,rfl,_⟩:=h;rfl)
  | (obtain⟨_,_,_,rfl,_⟩:=h;rfl)
  | (obtain⟨_,_,_,_,rfl,_⟩:=h;rfl)
  | (obtain⟨_,_,_,_,_,rfl,_⟩:=h;rfl)
  | (obtain⟨_,_,_,_,_,_,rfl,_⟩:=h;rfl)
  | (obtain⟨_,_,_,_,_,_,_,rfl,_⟩:=h;rfl)
  | (obtain⟨_,_,_,_,_,_,_,_,rfl,_⟩:=h;rfl)
theorem Wx(T:Txt K mg t):dD P w K mg base 1 t.wA t.wD ["one","other"] uv:=by
 refine fQ (k:=0) (sp:=uv) T.wI uR (by decide) Gi (HL) (fun cdv A outer s H E hr=>?_) HK;refine cw ?_ (bY (dw (Γ (pv 0))));refine DR cA (i4 Ap zV (Γ (pv 1)) bA (cJ _)) ?_;refine bY (QP (i:=0) (j:=1) rfl uR.nd rfl rfl (by decide) rfl rfl ?_ rfl);refine Θ (Γ (pv 1)) (Θ (dA qK qM (Γ (pv 0)) (Γ (pv 1))) au)
theorem Ww(T:Txt K mg t):rl P w K mg base 1 t.wA t.wD ["one","other"] uv:=by
 refine KL (k:=0) (sp:=uv) T.wI uR (by decide) Gi (HL) (fun cdv A outer s H E e oe hr hA=>?_) HK;refine cw ?_ (bY (dw (Γ (pv 0))));refine DR cA (i4 Ap zV (Γ (pv 1)) bA (cJ _)) ?_;refine bY (NL (i:=0) (j:=1) hA uR.nd rfl rfl (by decide) rfl rfl ?_ rfl);refine Θ (Γ (pv 1)) (Θ (dA qK qM (Γ (pv 0)) (Γ (pv 1))) au)
theorem Gh:∀ds G Q,pG ds G Q->ds.length=1:=by
 intro ds G Q h;obtain⟨_,rfl,_⟩:=h;rfl
theorem Gg(T:Txt K mg t):dD P w K mg base 2 t.wC t.wG ["clocks"] pG:=by
 refine fQ (k:=1) (sp:=pG) T.vk jU (by decide) Gh (HJ) (fun cdv A outer s H E hr=>?_) HI;refine cw (eO (i:=1) jU.nd bA) (cw ?_ (bY (dw (Γ (pv 1)))));refine nO cA rfl (kJ (Γ (pv 0))) ?_ (bY ?_);refine xy rfl (mv (fN (i:=2) jU.nd) (mv (fN (i:=3) jU.nd) vM));refine eO (i:=1) jU.nd (dA xH xI (dA qI qJ (Γ (pv 1)) (Γ (pv 2))) ?_);refine dY ((Wx T).mono (by decide)) hr T.EK T.wI.kp T.EX (Θ (Γ (pv 1)) (Θ (Γ (pv 2)) au))
theorem Wv(T:Txt K mg t):rl P w K mg base 2 t.wC t.wG ["clocks"] pG:=by
 refine KL (k:=1) (sp:=pG) T.vk jU (by decide) Gh (HS) (fun cdv A outer s H E e oe hr hA=>?_) NG;refine cw (eO (i:=1) jU.nd bA) (cw ?_ (bY (dw (Γ (pv 1)))));refine NM cA hA (Γ (pv 0)) (NN hA (mv (fN (i:=2) jU.nd) (mv (fN (i:=3) jU.nd) vM))) ?_;refine bY ?_;refine eO (i:=1) jU.nd (dA xH xI (dA qI qJ (Γ (pv 1)) (Γ (pv 2))) ?_);refine NP ((Ww T).mono (by decide)) hr hA T.EK T.wI.kp T.EX (Θ (Γ (pv 1)) (Θ (Γ (pv 2)) au))
theorem Wu:∀ds G Q,vC ds G Q->ds.length=2:=by
 intro ds G Q h;obtain⟨_,_,_,rfl,_⟩:=h;rfl
theorem Gf(T:Txt K mg t):dD P w K mg base 1 t.Ay t.A5 ["clocks","number"] vC:=by
 refine fQ (k:=0) (sp:=vC) T.BC XO (by decide) Wu (GL) (fun cdv A outer s H E hr=>?_) Y7;refine bY (dw ?_);refine lD rfl (show dE Hc (ρ zH) _ ["clock"] [1] from⟨rfl,by decide +kernel,by decide +kernel,by decide +kernel,by decide +kernel,by decide +kernel⟩) ?_ ?_;refine kJ (Γ (pv 0));intro s0 H0 fp0;refine⟨(fN (i:=0) (show (["clock","number"]:List ι).Nodup by decide +kernel)),(zu ?_),(Γ (pv 0))⟩;refine i4 sI (sr hr.units) (dA qK qM (dA JN Ks (Γ (pv 1)) (ls (Γ (pv 0)) bA)) (ls (Γ (pv 0)) bA)) bA (cJ _)
theorem Wt:∀ds G Q,xP ds G Q->ds.length=2:=by
 intro ds G Q h;obtain⟨_,_,rfl,_⟩:=h;rfl
theorem Ws(T:Txt K mg t):dD P w K mg base 3 t.AI t.Be ["pen","times"] xP:=by
 refine fQ (k:=2) (sp:=xP) T.Fh ma (by decide) Wt (HD) (fun cdv A outer s H E hr=>?_) OV;refine cw (eO (i:=2) ma.nd (oG (Θ (gA (Θ bA (Θ bA au))) au))) ?_;refine cw ?_ (bY (dw (Γ (pv 2))));refine nO cA rfl (uB T.gx (Θ (Γ (pv 1)) au)) (fN (i:=3) ma.nd) ?_;refine cw (eO (i:=4) ma.nd ?_) ?_;refine dY ((kG T).mono (by decide)) hr T.iN T.ig.kp T.iQ ?_;refine Θ (Γ (pv 0)) (Θ (kI hr.units T.ib (Θ (Γ (pv 2)) au)) au);refine cw ?_ ?_;refine eO (i:=5) ma.nd (DQ (Θ bA (Θ bA (Θ bA au))) ?_);refine dY ((kG T).mono (by decide)) hr T.iN T.ig.kp T.iQ (Θ (Γ (pv 0)) (Θ bA au));refine cw ?_ (bY ?_);refine DS (ls (Γ (pv 2)) (Γ (pv 4))) (xy rfl (mv (fN (i:=6) ma.nd) (mv (fN (i:=7) ma.nd) vM)));refine md (qF ?_) (bY (eO (i:=2) ma.nd ?_)) me;refine IH (i4 xF (xG hr.r9) (dA jH jI (kI hr.units T.ib (Θ (Γ (pv 2)) au)) (Γ (pv 5))) bA (cJ _)) ?_;refine II (i4 xF (xG hr.r9) (dA qI qJ (Γ (pv 6)) (Γ (pv 5))) bA (cJ _));refine dA jH jI ?_ (pM (Γ (pv 2)) (nN (dA jH jI (Γ (pv 4)) bA)) qE);refine dA jH jI (pM (Γ (pv 2)) qE (nN (Γ (pv 4)))) ?_;refine lD rfl (show dE G9 (ρ zG) _ ["part"] [6,5,7] from⟨rfl,by decide +kernel,by decide +kernel,by decide +kernel,by decide +kernel,by decide +kernel⟩) ?_ ?_;refine uB T.gx (Θ (Γ (pv 5)) au);intro s0 H0 fp0;refine⟨(fN (i:=0) (show (["part","step","k","rest"]:List ι).Nodup by decide +kernel)),pN,?_⟩;refine gA (Θ (dA qI qJ (Γ (pv 1)) (Γ (pv 2))) ?_);refine Θ (dA jH jI (Γ (pv 3)) (dA qI qJ (Γ (pv 1)) (Γ (pv 0)))) au
theorem Wr:∀ds G Q,xh ds G Q->ds.length=1:=by
 intro ds G Q h;obtain⟨_,rfl,_⟩:=h;rfl
theorem Wq(T:Txt K mg t):dD P w K mg base 4 t.AB t.A8 ["pen"] xh:=by
 refine fQ (k:=3) (sp:=xh) T.Fe uS (by decide) Wr (Gx) (fun cdv A outer s H E hr=>?_) X5;refine cw (eO (i:=1) uS.nd (pM ?_ qE (nN bA))) ?_;refine dY ((Ws T).mono (by decide)) hr T.L9 T.Fh.kp T.MC ?_;refine Θ (Γ (pv 0)) (Θ (dA jH jI bA ?_) au);refine dY ((kG T).mono (by decide)) hr T.iN T.ig.kp T.iQ (Θ (Γ (pv 0)) (Θ bA au));refine cw ?_ ?_;refine nO cA rfl (uB T.gx ?_) (fN (i:=2) uS.nd) ?_;refine Θ (dY ((kG T).mono (by decide)) hr T.iN T.ig.kp T.iQ (Θ (Γ (pv 0)) (Θ bA au))) au;refine cw (eO (i:=3) uS.nd ?_) (bY (DT ?_));refine DQ (Θ bA (Θ bA (Θ bA (Θ bA (Θ bA au))))) ?_;refine dY ((kG T).mono (by decide)) hr T.iN T.ig.kp T.iQ (Θ (Γ (pv 0)) (Θ bA au));refine DP TJ PySem.F.slot_list_append PySem.F.type_list_append Kz (Γ (pv 1)) (Θ (gA (Θ (Γ (pv 3)) ?_)) au);refine Θ (dY ((kG T).mono (by decide)) hr T.iN T.ig.kp T.iQ (Θ (Γ (pv 0)) (Θ (Γ (pv 3)) au))) (au);refine bY (dw (zt hr.units T.ko (Θ (pM (QZ hr.units (Γ (pv 1)) T.uF T.EO) qE (nN bA)) au)))
theorem Wp:∀ds G Q,xl ds G Q->ds.length=2:=by
 intro ds G Q h;obtain⟨_,_,rfl,_⟩:=h;rfl
theorem Wo(T:Txt K mg t):dD P w K mg base 3 t.AH t.Bd ["clocks","places"] xl:=by
 refine fQ (k:=2) (sp:=xl) T.Fg sg (by decide) Wp (GK) (fun cdv A outer s H E hr=>?_) Ym;refine cw ?_ (cw (eO (i:=3) sg.nd YK) ?_);refine QN (i:=2) rfl sg.nd (show dE G8 (ρ zF) _ ["place"] [0] from⟨rfl,by decide +kernel,by decide +kernel,by decide +kernel,by decide +kernel,by decide +kernel⟩) ?_ ?_;refine kJ (Γ (pv 1));intro s0 H0 fp0;refine⟨(fN (i:=0) (show (["place","clocks"]:List ι).Nodup by decide +kernel)),pN,(ls (Γ (pv 1)) (Γ (pv 0)))⟩;refine cw ?_ ?_;refine nO cA rfl ?_ (fN (i:=4) sg.nd) ?_;refine uB T.gx (Θ (dY ((Gg T).mono (by decide)) hr T.Ak T.vk.kp T.Bw (Θ (Γ (pv 0)) au)) au);refine cw (eO (i:=5) sg.nd ?_) ?_;refine dY ((Gf T).mono (by decide)) hr T.EJ T.BC.kp T.EW (Θ (Γ (pv 2)) (Θ (Γ (pv 4)) au));refine cw (md (i4 sI (sr hr.units) (Γ (pv 5)) (oG au) (cJ _)) (bY (dw lu)) me) (bY ?_);refine md (i4 sI (sr hr.units) (kI hr.units T.ib (Θ (Γ (pv 5)) au)) bA (cJ _)) ?_ me;refine bY (YJ hr.units (Γ (pv 3)) (ls (Γ (pv 5)) bA) lu);refine bY (dw (uD sI (sr hr.units) (YI hr.units (Γ (pv 3)) T.ib) (kI hr.units T.ib (Θ (Γ (pv 2)) au)) (cJ _)))
theorem Wn:∀ds G Q,xo ds G Q->ds.length=1:=by
 intro ds G Q h;obtain⟨_,rfl,_⟩:=h;rfl
theorem Wm(T:Txt K mg t):dD P w K mg base 3 t.AF t.Bb ["pen"] xo:=by
 refine fQ (k:=2) (sp:=xo) T.Ff BN (by decide) Wn (HQ) (fun cdv A outer s H E hr=>?_) Nv;refine cw (eO (i:=1) BN.nd (oG ?_)) (bY (dw ?_));refine Θ (gA (Θ bA ?_)) ?_;refine Θ (dY ((kG T).mono (by decide)) hr T.iN T.ig.kp T.iQ (Θ (Γ (pv 0)) (Θ bA au))) au;refine Θ (gA (Θ bA ?_)) ?_;refine Θ (dY ((kG T).mono (by decide)) hr T.iN T.ig.kp T.iQ (Θ (Γ (pv 0)) (Θ bA au))) au;refine Θ (gA (Θ bA ?_)) (Θ (gA (Θ bA (Θ bA au))) au);refine Θ (dY ((kG T).mono (by decide)) hr T.iN T.ig.kp T.iQ (Θ (Γ (pv 0)) (Θ bA au))) au;refine zt hr.units T.ko (Θ (Q0 hr.units T.uF ?_) au);refine Θ (pM (Γ (pv 1)) qE (nN (dA jH jI bA ?_))) au;refine dY ((kG T).mono (by decide)) hr T.iN T.ig.kp T.iQ (Θ (Γ (pv 0)) (Θ bA au))
theorem Wl:∀ds G Q,xk ds G Q->ds.length=2:=by
 intro ds G Q h;obtain⟨_,_,rfl,_⟩:=h;rfl
theorem Wk(T:Txt K mg t):dD P w K mg base 4 t.AK t.Bg ["clocks","thing"] xk:=by
 refine fQ (k:=3) (sp:=xk) T.Fj W8 (by decide) Wl (CM) (fun cdv A outer s H E hr=>?_) Yi;refine cw (md (qF ?_) (bY (dw lu)) me) ?_;refine qG (pO (nP (uA kit_tuple rfl (Γ (pv 1)) T.cC T.ko rfl (by decide) (by decide)))) ?_;refine uC (pO (nP (zr hr.units T.wz (Θ ?_ au))));refine lD rfl (show dE Cy (ρ xb) _ ["one"] [] from⟨rfl,by decide +kernel,by decide +kernel,by decide +kernel,by decide +kernel,by decide +kernel⟩) ?_ ?_;refine kJ (Γ (pv 1));intro s0 H0 fp0;refine⟨(fN (i:=0) (show (["one"]:List ι).Nodup by decide +kernel)),pN,?_⟩;refine dY ((WB T).mono (by decide)) hr T.Aj T.wK.kp T.Bv (Θ (Γ (pv 0)) au);refine cw (md (qF ?_) (bY (dw lu)) me) (bY ?_);refine qG (i4 qQ (qH hr.units) (IE hr.units T.B4 (Θ (Γ (pv 1)) au)) (YX (Γ (pv 1)) T.uF T.EO) (cJ _)) ?_;refine uC (i4 qQ (qH hr.units) ?_ (oG au) (cJ _));refine lD rfl (show dE Cy (ρ xb) _ ["one"] [0] from⟨rfl,by decide +kernel,by decide +kernel,by decide +kernel,by decide +kernel,by decide +kernel⟩) ?_ ?_;refine kJ (Γ (pv 1));intro s0 H0 fp0;refine⟨(fN (i:=0) (show (["one","clocks"]:List ι).Nodup by decide +kernel)),?_,(Γ (pv 0))⟩;refine zu (QX (Γ (pv 0)) T.gx (Θ (kI hr.units T.ib (Θ (Γ (pv 1)) au)) au));refine dw (dY ((Wo T).mono (by decide)) hr T.L8 T.Fg.kp T.MB (Θ (Γ (pv 0)) (Θ (Γ (pv 1)) au)))
theorem Wj:∀ds G Q,xj ds G Q->ds.length=2:=by
 intro ds G Q h;obtain⟨_,_,rfl,_⟩:=h;rfl
theorem Wi(T:Txt K mg t):dD P w K mg base 3 t.AQ t.Bl ["clocks","places"] xj:=by
 refine fQ (k:=2) (sp:=xj) T.Fn BR (by decide) Wj (GI) (fun cdv A outer s H E hr=>?_) Yg;refine cw (eO (i:=2) BR.nd ?_) (bY (dw (zr hr.units T.wz (Θ ?_ au))));refine lD rfl (show dE Cw (ρ xa) _ ["place"] [0] from⟨rfl,by decide +kernel,by decide +kernel,by decide +kernel,by decide +kernel,by decide +kernel⟩) ?_ ?_;refine kJ (Γ (pv 1));intro s0 H0 fp0;refine⟨(fN (i:=0) (show (["place","clocks"]:List ι).Nodup by decide +kernel)),pN,(ls (Γ (pv 1)) (Γ (pv 0)))⟩;refine lD rfl (show dE Cw (ρ xa) _ ["number"] [2] from⟨rfl,by decide +kernel,by decide +kernel,by decide +kernel,by decide +kernel,by decide +kernel⟩) ?_ ?_;refine uB T.gx (Θ (dY ((Gg T).mono (by decide)) hr T.Ak T.vk.kp T.Bw (Θ (Γ (pv 0)) au)) au);intro s0 H0 fp0;refine⟨(fN (i:=0) (show (["number","some"]:List ι).Nodup by decide +kernel)),pN,(uD qQ (qH hr.units) ?_ (oG au) (cJ _))⟩;refine dY ((Gf T).mono (by decide)) hr T.EJ T.BC.kp T.EW (Θ (Γ (pv 1)) (Θ (Γ (pv 0)) au))
theorem Wh:∀ds G Q,xi ds G Q->ds.length=2:=by
 intro ds G Q h;obtain⟨_,_,rfl,_⟩:=h;rfl
theorem Wg(T:Txt K mg t):dD P w K mg base 4 t.D8 t.El ["pen","clocks"] xi:=by
 refine fQ (k:=3) (sp:=xi) T.LD tK (by decide) Wh (Gy) (fun cdv A outer s H E hr=>?_) Ya;refine cw (eO (i:=2) tK.nd (GW rfl T.gx T.ko (Θ (kI hr.units T.ib (Θ (Γ (pv 1)) au)) au))) ?_;refine cw ?_ (bY (dw (Γ (pv 2))));refine nO cA rfl (uB T.gx (Θ (kI hr.units T.ib (Θ (Γ (pv 1)) au)) au)) ?_ ?_;refine fN (i:=3) tK.nd;refine cw (eO (i:=4) tK.nd ?_) ?_;refine dY ((kG T).mono (by decide)) hr T.iN T.ig.kp T.iQ ?_;refine Θ (Γ (pv 0)) (Θ (kI hr.units T.ib (Θ (Γ (pv 2)) au)) au);refine cw (eO (i:=5) tK.nd ?_) (bY ?_);refine dA jH jI (pM (Γ (pv 2)) qE (nN (Γ (pv 4)))) ?_;refine pM (Γ (pv 2)) (nN (dA jH jI (Γ (pv 4)) bA)) qE;refine md (qF ?_) (bY (eO (i:=2) tK.nd (Γ (pv 5)))) me;refine IH (nP ?_) (II (i4 qQ (qH hr.units) (Γ (pv 5)) (gA au) (cJ _)));refine dY ((Wi T).mono (by decide)) hr T.Mf T.Fn.kp T.MI (Θ (Γ (pv 1)) (Θ (Γ (pv 5)) au))
theorem Wf:∀ds G Q,xg ds G Q->ds.length=3:=by
 intro ds G Q h;obtain⟨_,_,_,rfl,_⟩:=h;rfl
theorem We(T:Txt K mg t):dD P w K mg base 3 t.AN t.Bj ["pen","clocks","places"] xg:=by
 refine fQ (k:=2) (sp:=xg) T.Fl uT (by decide) Wf (Gw) (fun cdv A outer s H E hr=>?_) X1;refine cw (eO (i:=3) uT.nd (kI hr.units T.ib (Θ (Γ (pv 1)) au))) ?_;refine cw (eO (i:=4) uT.nd (oG ?_)) ?_;refine Θ (IE hr.units T.B4 (Θ (Γ (pv 2)) au)) (Θ xA (Θ bA (Θ lE (Θ Q1 ?_))));refine Θ (dA jH jI (Γ (pv 2)) (gA (Θ (Γ (pv 3)) au))) ?_;refine Θ (dA jH jI (gA (Θ (Q5 bA) au)) (Γ (pv 2))) ?_;refine Θ (dA jH jI (Γ (pv 2)) (gA (Θ bA (Θ bA au)))) ?_;refine Θ (gA (Θ lu au)) (Θ (gA (Θ lu au)) (Θ (gA (Θ lE au)) au));refine cw ?_ (bY (dw ?_));refine eO (i:=4) uT.nd (dA jH jI (Γ (pv 4)) (oG ?_));refine Θ (dA jH jI (Γ (pv 2)) (gA (Θ xA au))) ?_;refine Θ (gA (Θ (Γ (pv 2)) au)) (Θ (QY (Γ (pv 2))) (Θ lu ?_));refine Θ (gA (Θ (dA jH jI (Γ (pv 3)) ?_) au)) au;refine dY ((kG T).mono (by decide)) hr T.iN T.ig.kp T.iQ ?_;refine Θ (Γ (pv 0)) (Θ (dA JK Kr bA bA) au);refine ls (Γ (pv 4)) (dY ((kG T).mono (by decide)) hr T.iN T.ig.kp T.iQ (Θ (Γ (pv 0)) (Θ bA au)))
theorem WI:∀ds G Q,xf ds G Q->ds.length=1:=by
 intro ds G Q h
 first
  | (rcases ds with _|⟨_,_|⟨_,_|⟨_,_|⟨_,_⟩⟩⟩⟩<;>first|rfl|exact h.elim)
  | (obtain⟨rfl,_⟩:=h;rfl)
  | (obtain⟨_,rfl,_⟩:=h;rfl)
  | (obtain⟨_,_,rfl,_⟩:=h;rfl)
  | (obtain⟨_,_,_,rfl,_⟩:=h;rfl)
  | (obtain⟨_,_,_,_,rfl,_⟩:=h;rfl)
  | (obtain⟨_,_,_,_,_,rfl,_⟩:=h;rfl)
  | (obtain⟨_,_,_,_,_,_,rfl,_⟩:=h;rfl)
  | (obtain⟨_,_,_,_,_,_,_,rfl,_⟩:=h;rfl)
  | (obtain⟨_,_,_,_,_,_,_,_,rfl,_⟩:=h;rfl)
theorem WH(T:Txt K mg t):dD P w K mg base 8 t.AR t.Bm ["clocks"] xf:=by
 refine fQ (k:=7) (sp:=xf) T.Fo BS (by decide) WI (Gv rs) (fun cdv A outer s H E hr=>?_) XZ;refine NK (i:=1) (names:=rs) Li T.takes T.xZ BS.nd (QD ?_ QB) ?_ (bY (dw lu));refine Od ((w9 T).mono (by decide)) hr T.uX T.tY.kp T.vg ?_;refine Θ (Γ (pv 0)) (Θ (gA (Θ bA au)) au);intro e0;refine bY (dw ?_);refine uD sI (sr hr.units) ?_ (gA (Θ lE ?_)) (cJ _);refine xw ((Wy T).mono (by decide)) hr.h.mark T.Zi T.LF.kp T.ZJ (Θ (Γ (pv 1)) au);refine Θ (NO ((Wv T).mono (by decide)) hr.h.mark rfl T.Ak T.vk.kp T.Bw (Θ (Γ (pv 0)) au)) ?_;refine Θ bA au
theorem WG:∀ds G Q,lY ds G Q->ds.length=1:=by
 intro ds G Q h;obtain⟨_,rfl,_⟩:=h;rfl
theorem KR(T:Txt K mg t):dD P w K mg base 9 t.AX t.vf ["script"] lY:=by
 refine fQ (k:=8) (sp:=lY) T.MO kE (by decide) WG (Hi) (fun cdv A outer s H E hr=>?_) XI;refine cw (md (qF ?_) (bY (dw lu)) me) (cw ?_ (bY (dw lu)));refine qG (i4 Jy Jz ?_ lu (cJ _)) (uC (i4 Jy Jz ?_ lu (cJ _)));refine zf ((w9 T).mono (by decide)) hr wy T.uX T.tY.kp T.vg ?_;refine Θ (gA (Θ (gA (Θ bA (Θ bA au))) au)) (Θ (gA (Θ bA au)) au);refine zf ((w9 T).mono (by decide)) hr wy T.uX T.tY.kp T.vg (Θ (gA au) (Θ (gA au) au));refine nO cA rfl (kJ ?_) (fN (i:=1) kE.nd) ?_;refine dA jH jI (oG ?_) (pM (Γ (pv 0)) (nN bA) (nN bA));refine Θ (dY ((Xd T).mono (by decide)) hr T.Mh T.Fp.kp T.MK (Θ (Γ (pv 0)) (Θ bA au))) (au);refine cw ?_ ?_;refine eO (i:=2) kE.nd (dY ((Xa T).mono (by decide)) hr T.Me T.Fm.kp T.MH (Θ (Γ (pv 1)) au));refine cw (eO (i:=3) kE.nd (dY ((Wq T).mono (by decide)) hr T.L6 T.Fe.kp T.Mz (Θ (Γ (pv 2)) au))) ?_;refine cw (eO (i:=4) kE.nd ?_) ?_;refine dY ((Wg T).mono (by decide)) hr T.Zh T.LD.kp T.ZI ?_;refine Θ (Γ (pv 2)) (Θ (Γ (pv 3)) au);refine cw (eO (i:=5) kE.nd (zt hr.units T.ko (Θ ?_ au))) ?_;refine lD rfl (show dE Gr (ρ zb) _ ["place"] [2] from⟨rfl,by decide +kernel,by decide +kernel,by decide +kernel,by decide +kernel,by decide +kernel⟩) ?_ ?_;refine uB T.gx (Θ (kI hr.units T.ib (Θ (Γ (pv 3)) au)) au);intro s0 H0 fp0;refine⟨(fN (i:=0) (show (["place","pen"]:List ι).Nodup by decide +kernel)),(zu ?_),(Γ (pv 0))⟩;refine i4 Ap zV (dY ((kG T).mono (by decide)) hr T.iN T.ig.kp T.iQ (Θ (Γ (pv 1)) (Θ bA au))) ?_ (cJ _);refine bA;refine cw ?_ (bY (md (pO (nP ?_)) (bY (dw lu)) me));refine nO cA rfl (kJ (oG (Θ (Γ (pv 4)) (Θ (Γ (pv 5)) ?_)))) (fN (i:=6) kE.nd) ?_;refine Θ (GW rfl T.gx T.ko (Θ (kI hr.units T.ib (Θ (Γ (pv 3)) au)) au)) ?_;refine Θ (gA au) (Θ ?_ (Θ (pM (Γ (pv 4)) (nN bA) qE) au));refine dY ((We T).mono (by decide)) hr T.Md T.Fl.kp T.MG ?_;refine Θ (Γ (pv 2)) (Θ (Γ (pv 3)) (Θ (Γ (pv 4)) au));refine cw (eO (i:=7) kE.nd ?_) ?_;refine dY ((Wk T).mono (by decide)) hr T.Mb T.Fj.kp T.ME (Θ (Γ (pv 3)) (Θ (Γ (pv 6)) au));refine cw (eO (i:=8) kE.nd ?_) (bY (md (qF ?_) (bY (dw lu)) me));refine zf ((w9 T).mono (by decide)) hr wy T.uX T.tY.kp T.vg (Θ (Γ (pv 3)) (Θ (Γ (pv 6)) au));refine qG (pO (nP (uA Dn rfl (Γ (pv 8)) T.cC T.xX rfl (by decide) (by decide)))) ?_;refine qG (i4 qQ (qH hr.units) (Γ (pv 8)) (Γ (pv 7)) (cJ _)) (uC (i4 qQ (qH hr.units) ?_ (Γ (pv 7)) (cJ _)));refine zf ((w9 T).mono (by decide)) hr wy T.uX T.tY.kp T.vg (Θ (Γ (pv 3)) (Θ (Γ (pv 6)) au));refine dY ((WH T).mono (by decide)) hr T.Mg T.Fo.kp T.MJ ?_;refine Θ (dY ((Wm T).mono (by decide)) hr T.L7 T.Ff.kp T.MA (Θ (Γ (pv 2)) au)) au
end
def fq(K:PySem.W.Frag)(nm:ι)(st:aB):Prop:=∃f d,di K nm nm st f d/\PySem.W.nsIn K aL nm=some (some (.ref f))
theorem bW{K:PySem.W.Frag}{nm:ι}{st:aB}{f:ε}{od an:Option ε}{sl:Array (Option Value)}{oc kV dc pm cd ct:Value}(a:PySem.W.nsIn K aL nm=some (some (.ref f)))(l:K.lookup f=some ⟨oc,od,.func (PySem.W.fnOf nm nm (nt st) (dO st) (ρ st) .none kV dc pm an cd ct),sl⟩)(c:PySem.W.codeIn K cd nm=true)(k:PySem.W.keepIn K (.ref f)=true):fq K nm st:=⟨f,_,Ky l c k,a⟩
theorem wL{K:PySem.W.Frag}{h:Ξ}{mg:ι->Option Value}(X:K.In h)(G:h.Ns aL mg)
  (h0:fq K "whole_good" CL)
  (h1:fq K "place_good" CK)
  (h2:fq K "rising_places_good" xc)
  (h3:fq K "refuse_above" CI)
  (h4:fq K "common_divisor" CH)
  (h5:fq K "common_multiple" CG)
  (h6:fq K "counts_within" CF)
  (h7:fq K "first_counted" CD)
  (h8:fq K "round_of" zL)
  (h9:fq K "covers" Di)
  (h10:fq K "first_missed" Dh)
  (h11:fq K "first_within" Dg)
  (vb:fq K "idle_of" zK)
  (h13:fq K "lone_numbers" zJ)
  (h14:fq K "least_good" zI)
  (h15:fq K "_law_cell_at" Df)
  (h16:fq K "_law_next" De)
  (h17:fq K "_law_pen_of" Dd)
  (h18:fq K "_law_draw" Dc)
  (h19:fq K "_law_whole" C9)
  (h20:fq K "_law_kind_of" C8)
  (h21:fq K "_law_great_told" C7)
  (h22:fq K "_law_gcd" CC)
  (h23:fq K "_law_round" CB)
  (h24:fq K "_law_at" zH)
  (h25:fq K "_law_split" zG)
  (h26:fq K "_law_few" CA)
  (h27:fq K "_law_least" zF)
  (h28:fq K "_law_wide" Cz)
  (h29:fq K "_law_due_of" xb)
  (h30:fq K "_law_covers" xa)
  (h31:fq K "_law_made_least" Cv)
  (Z9:fq K "_law_odd_of" Cu)
  (Z3:fq K "_law_refused" Ct)
  (Z0:fq K "law" zb)
  {C_ClockError:ε} (n_ClockError:PySem.W.nsIn K aL "ClockError" = some (some (.ref C_ClockError)))
  {C_NoClock:ε} (n_NoClock:PySem.W.nsIn K aL "NoClock" = some (some (.ref C_NoClock)))
  {C_NoNumber:ε} (n_NoNumber:PySem.W.nsIn K aL "NoNumber" = some (some (.ref C_NoNumber)))
  {C_NoPlace:ε} (n_NoPlace:PySem.W.nsIn K aL "NoPlace" = some (some (.ref C_NoPlace)))
  {C_NoRow:ε} (n_NoRow:PySem.W.nsIn K aL "NoRow" = some (some (.ref C_NoRow)))
  {C_NoClocks:ε} (n_NoClocks:PySem.W.nsIn K aL "NoClocks" = some (some (.ref C_NoClocks)))
  {C_NoText:ε} (n_NoText:PySem.W.nsIn K aL "NoText" = some (some (.ref C_NoText)))
  {C_TooGreat:ε} (n_TooGreat:PySem.W.nsIn K aL "TooGreat" = some (some (.ref C_TooGreat)))
  {fZ:ε} (i_TooGreat:PySem.W.findIn K (.ref C_TooGreat) "__init__" = some (some (.ref fZ)))
  {qd_TooGreat qn_TooGreat:Option ε} {qs_TooGreat:Array (Option Value)} {qc_TooGreat qk_TooGreat qo_TooGreat qp_TooGreat qe_TooGreat qt_TooGreat:Value} (j_TooGreat:K.lookup fZ=some ⟨qc_TooGreat,qd_TooGreat,.func (PySem.W.fnOf "__init__" "TooGreat.__init__" (nt vB) (dO vB) (ρ vB) .none qk_TooGreat qo_TooGreat qp_TooGreat qn_TooGreat qe_TooGreat qt_TooGreat),qs_TooGreat⟩) (h_TooGreat:PySem.W.codeIn K qe_TooGreat "TooGreat.__init__" = true) (g_TooGreat:PySem.W.keepIn K (.ref fZ)=true) (y_TooGreat:PySem.W.typeIn K (.ref fZ)=some (.type "function"))
  (kP:excIn K C_TooGreat (.ref C_ClockError::gW) (some (.ref fZ)) "ValueError.__new__" = true)
  (pd:PySem.W.findIn K (.ref C_TooGreat) "__setattr__" = some (some (.builtin "object.__setattr__"))) (v2_TooGreat:PySem.W.mroIn K C_TooGreat (.type "object")=some true) (v3_TooGreat:PySem.W.keepIn K (.ref C_TooGreat)=true) (v4_TooGreat:PySem.W.findIn K (.ref C_TooGreat) "__getattribute__" = some (some (.builtin "BaseException.__getattribute__"))) (v8_TooGreat:PySem.W.findIn K (.ref C_TooGreat) "__getattr__" = some none) (v9_TooGreat:PySem.W.mroIn K C_TooGreat (.type "BaseException")=some true) (v5_TooGreat:PySem.W.hasDictIn K C_TooGreat=true) (v6_TooGreat:PySem.W.findIn K (.ref C_TooGreat) "__class__" = some (some (.builtin "object.__class__")))
  (iL:PySem.W.findIn K (.ref C_TooGreat) "many" = some none)
  (iK:PySem.W.findIn K (.ref C_TooGreat) "most" = some none)
  (i3:PySem.W.kitOne K (.ref C_TooGreat) (.ref C_NoClock)=some false)
  (iC:PySem.W.kitOne K (.ref C_TooGreat) (.ref C_NoClocks)=some false)
  (iB:PySem.W.kitOne K (.ref C_TooGreat) (.ref C_NoNumber)=some false)
  (i0:PySem.W.kitOne K (.ref C_TooGreat) (.ref C_NoPlace)=some false)
  (ka:PySem.W.kitOne K (.ref C_TooGreat) (.ref C_NoRow)=some false)
  (jN:PySem.W.kitOne K (.ref C_TooGreat) (.ref C_NoText)=some false)
  (iA:PySem.W.kitOne K (.ref C_TooGreat) (.ref C_TooGreat)=some true)
  (pb:PySem.W.kitOne K (.ref C_TooGreat) (.type "ValueError")=some true)
  (eb:excIn K C_ClockError gW none "ValueError.__new__" = true) (u1:PySem.W.specialIn K (.builtin "object.__class__") "__get__" = some (some (.builtin "getset_descriptor.__get__"))) (u2:PySem.W.takesIn K (.builtin "object.__class__")=some true)
  {t0:dG} (gint0:PySem.W.nsIn K aL "MOST_NUMBERS" = some (some (.int 10000 t0)))
  (z0:PySem.W.nsIn K aL "ValueError" = some none)
  (z1:PySem.W.nsIn K aL "all" = some none)
  (z2:PySem.W.nsIn K aL "bool" = some none)
  (z3:PySem.W.nsIn K aL "enumerate" = some none)
  (z4:PySem.W.nsIn K aL "int" = some none)
  (z5:PySem.W.nsIn K aL "isinstance" = some none)
  (z6:PySem.W.nsIn K aL "len" = some none)
  (z7:PySem.W.nsIn K aL "list" = some none)
  (z8:PySem.W.nsIn K aL "max" = some none)
  (z9:PySem.W.nsIn K aL "range" = some none)
  (FN:PySem.W.nsIn K aL "set" = some none)
  (FL:PySem.W.nsIn K aL "sorted" = some none)
  (FK:PySem.W.nsIn K aL "tuple" = some none)
  (FJ:PySem.W.nsIn K aL "zip" = some none)
  : ∃t:Ft,Txt K mg t/\∀(s:ζ) (v:Value),lQ s t.vf ⟨[v],[]⟩ [("script",v)]:=by
 obtain⟨f0,d0,F0,a0⟩:=h0;obtain⟨f1,d1,F1,a1⟩:=h1;obtain⟨f2,d2,F2,a2⟩:=h2;obtain⟨f3,d3,F3,a3⟩:=h3;obtain⟨f4,d4,F4,a4⟩:=h4;obtain⟨f5,d5,F5,a5⟩:=h5;obtain⟨f6,d6,F6,a6⟩:=h6;obtain⟨f7,d7,F7,a7⟩:=h7;obtain⟨f8,d8,F8,a8⟩:=h8;obtain⟨f9,d9,F9,a9⟩:=h9;obtain⟨f10,d10,F10,a10⟩:=h10;obtain⟨f11,d11,F11,a11⟩:=h11;obtain⟨f12,d12,F12,a12⟩:=vb;obtain⟨f13,d13,F13,a13⟩:=h13;obtain⟨f14,d14,F14,a14⟩:=h14;obtain⟨f15,d15,F15,a15⟩:=h15;obtain⟨f16,d16,F16,a16⟩:=h16;obtain⟨f17,d17,F17,a17⟩:=h17;obtain⟨f18,d18,F18,a18⟩:=h18;obtain⟨f19,d19,F19,a19⟩:=h19;obtain⟨f20,d20,F20,a20⟩:=h20;obtain⟨f21,d21,F21,a21⟩:=h21;obtain⟨f22,d22,F22,a22⟩:=h22;obtain⟨f23,d23,F23,a23⟩:=h23;obtain⟨f24,d24,F24,a24⟩:=h24;obtain⟨f25,d25,F25,a25⟩:=h25;obtain⟨f26,d26,F26,a26⟩:=h26;obtain⟨f27,d27,F27,a27⟩:=h27;obtain⟨f28,d28,F28,a28⟩:=h28;obtain⟨f29,d29,F29,a29⟩:=h29;obtain⟨f30,d30,F30,a30⟩:=h30;obtain⟨f31,d31,F31,a31⟩:=h31;obtain⟨f32,d32,F32,a32⟩:=Z9;obtain⟨f33,d33,F33,a33⟩:=Z3;obtain⟨f34,d34,F34,a34⟩:=Z0;have I_TooGreat:=Ky (st:=vB) j_TooGreat h_TooGreat g_TooGreat;exact⟨⟨f0,d0,f1,d1,f2,d2,f3,d3,f4,d4,f5,d5,f6,d6,f7,d7,f8,d8,f9,d9,f10,d10,f11,d11,f12,d12,f13,d13,f14,d14,f15,d15,f16,d16,f17,d17,f18,d18,f19,d19,f20,d20,f21,d21,f22,d22,f23,d23,f24,d24,f25,d25,f26,d26,f27,d27,f28,d28,f29,d29,f30,d30,f31,d31,f32,d32,f33,d33,f34,d34,C_ClockError,C_NoClock,C_NoNumber,C_NoPlace,C_NoRow,C_NoClocks,C_NoText,C_TooGreat,fZ,_,t0⟩,⟨F0,
  PySem.W.mg_of X G a0,
  F0.binds (ps:=["thing"]) fun _ _ _ _ _ _ us hl=>by obtain⟨_,rfl⟩:=iE hl;rfl,
  F1,
  PySem.W.mg_of X G a1,
  F1.binds (ps:=["things","thing"]) fun _ _ _ _ _ _ us hl=>by obtain⟨_,_,rfl⟩:=i5 hl;rfl,
  F2,
  PySem.W.mg_of X G a2,
  F2.binds (ps:=["things","thing"]) fun _ _ _ _ _ _ us hl=>by obtain⟨_,_,rfl⟩:=i5 hl;rfl,
  F3,
  PySem.W.mg_of X G a3,
  F3.binds (ps:=["many","most"]) fun _ _ _ _ _ _ us hl=>by obtain⟨_,_,rfl⟩:=i5 hl;rfl,
  F4,
  PySem.W.mg_of X G a4,
  F4.binds (ps:=["one","other"]) fun _ _ _ _ _ _ us hl=>by obtain⟨_,_,rfl⟩:=i5 hl;rfl,
  F5,
  PySem.W.mg_of X G a5,
  F5.binds (ps:=["numbers"]) fun _ _ _ _ _ _ us hl=>by obtain⟨_,rfl⟩:=iE hl;rfl,
  F6,
  PySem.W.mg_of X G a6,
  F6.binds (ps:=["clocks","many"]) fun _ _ _ _ _ _ us hl=>by obtain⟨_,_,rfl⟩:=i5 hl;rfl,
  F7,
  PySem.W.mg_of X G a7,
  F7.binds (ps:=["clock","counts","many"]) fun _ _ _ _ _ _ us hl=>by obtain⟨_,_,_,rfl⟩:=DY hl;rfl,
  F8,
  PySem.W.mg_of X G a8,
  F8.binds (ps:=["clocks"]) fun _ _ _ _ _ _ us hl=>by obtain⟨_,rfl⟩:=iE hl;rfl,
  F9,
  PySem.W.mg_of X G a9,
  F9.binds (ps:=["clocks"]) fun _ _ _ _ _ _ us hl=>by obtain⟨_,rfl⟩:=iE hl;rfl,
  F10,
  PySem.W.mg_of X G a10,
  F10.binds (ps:=["clocks"]) fun _ _ _ _ _ _ us hl=>by obtain⟨_,rfl⟩:=iE hl;rfl,
  F11,
  PySem.W.mg_of X G a11,
  F11.binds (ps:=["clocks","clock"]) fun _ _ _ _ _ _ us hl=>by obtain⟨_,_,rfl⟩:=i5 hl;rfl,
  F12,
  PySem.W.mg_of X G a12,
  F12.binds (ps:=["clocks"]) fun _ _ _ _ _ _ us hl=>by obtain⟨_,rfl⟩:=iE hl;rfl,
  F13,
  PySem.W.mg_of X G a13,
  F13.binds (ps:=["clocks"]) fun _ _ _ _ _ _ us hl=>by obtain⟨_,rfl⟩:=iE hl;rfl,
  F14,
  PySem.W.mg_of X G a14,
  F14.binds (ps:=["clocks","thing"]) fun _ _ _ _ _ _ us hl=>by obtain⟨_,_,rfl⟩:=i5 hl;rfl,
  F15,
  PySem.W.mg_of X G a15,
  F15.binds (ps:=["script","k"]) fun _ _ _ _ _ _ us hl=>by obtain⟨_,_,rfl⟩:=i5 hl;rfl,
  F16,
  PySem.W.mg_of X G a16,
  F16.binds (ps:=["seed"]) fun _ _ _ _ _ _ us hl=>by obtain⟨_,rfl⟩:=iE hl;rfl,
  F17,
  PySem.W.mg_of X G a17,
  F17.binds (ps:=["cell"]) fun _ _ _ _ _ _ us hl=>by obtain⟨_,rfl⟩:=iE hl;rfl,
  F18,
  PySem.W.mg_of X G a18,
  F18.binds (ps:=["pen","many"]) fun _ _ _ _ _ _ us hl=>by obtain⟨_,_,rfl⟩:=i5 hl;rfl,
  F19,
  PySem.W.mg_of X G a19,
  F19.binds (ps:=["found"]) fun _ _ _ _ _ _ us hl=>by obtain⟨_,rfl⟩:=iE hl;rfl,
  F20,
  PySem.W.mg_of X G a20,
  F20.binds (ps:=["e"]) fun _ _ _ _ _ _ us hl=>by obtain⟨_,rfl⟩:=iE hl;rfl,
  F21,
  PySem.W.mg_of X G a21,
  F21.binds (ps:=["e"]) fun _ _ _ _ _ _ us hl=>by obtain⟨_,rfl⟩:=iE hl;rfl,
  F22,
  PySem.W.mg_of X G a22,
  F22.binds (ps:=["one","other"]) fun _ _ _ _ _ _ us hl=>by obtain⟨_,_,rfl⟩:=i5 hl;rfl,
  F23,
  PySem.W.mg_of X G a23,
  F23.binds (ps:=["clocks"]) fun _ _ _ _ _ _ us hl=>by obtain⟨_,rfl⟩:=iE hl;rfl,
  F24,
  PySem.W.mg_of X G a24,
  F24.binds (ps:=["clocks","number"]) fun _ _ _ _ _ _ us hl=>by obtain⟨_,_,rfl⟩:=i5 hl;rfl,
  F25,
  PySem.W.mg_of X G a25,
  F25.binds (ps:=["pen","times"]) fun _ _ _ _ _ _ us hl=>by obtain⟨_,_,rfl⟩:=i5 hl;rfl,
  F26,
  PySem.W.mg_of X G a26,
  F26.binds (ps:=["pen"]) fun _ _ _ _ _ _ us hl=>by obtain⟨_,rfl⟩:=iE hl;rfl,
  F27,
  PySem.W.mg_of X G a27,
  F27.binds (ps:=["clocks","places"]) fun _ _ _ _ _ _ us hl=>by obtain⟨_,_,rfl⟩:=i5 hl;rfl,
  F28,
  PySem.W.mg_of X G a28,
  F28.binds (ps:=["pen"]) fun _ _ _ _ _ _ us hl=>by obtain⟨_,rfl⟩:=iE hl;rfl,
  F29,
  PySem.W.mg_of X G a29,
  F29.binds (ps:=["clocks","thing"]) fun _ _ _ _ _ _ us hl=>by obtain⟨_,_,rfl⟩:=i5 hl;rfl,
  F30,
  PySem.W.mg_of X G a30,
  F30.binds (ps:=["clocks","places"]) fun _ _ _ _ _ _ us hl=>by obtain⟨_,_,rfl⟩:=i5 hl;rfl,
  F31,
  PySem.W.mg_of X G a31,
  F31.binds (ps:=["pen","clocks"]) fun _ _ _ _ _ _ us hl=>by obtain⟨_,_,rfl⟩:=i5 hl;rfl,
  F32,
  PySem.W.mg_of X G a32,
  F32.binds (ps:=["pen","clocks","places"]) fun _ _ _ _ _ _ us hl=>by obtain⟨_,_,_,rfl⟩:=DY hl;rfl,
  F33,
  PySem.W.mg_of X G a33,
  F33.binds (ps:=["clocks"]) fun _ _ _ _ _ _ us hl=>by obtain⟨_,rfl⟩:=iE hl;rfl,
  F34,
  PySem.W.mg_of X G a34,
  F34.binds (ps:=["script"]) fun _ _ _ _ _ _ us hl=>by obtain⟨_,rfl⟩:=iE hl;rfl,
  PySem.W.mg_of X G n_ClockError,
  n_ClockError,
  PySem.W.mg_of X G n_NoClock,
  n_NoClock,
  PySem.W.mg_of X G n_NoNumber,
  n_NoNumber,
  PySem.W.mg_of X G n_NoPlace,
  n_NoPlace,
  PySem.W.mg_of X G n_NoRow,
  n_NoRow,
  PySem.W.mg_of X G n_NoClocks,
  n_NoClocks,
  PySem.W.mg_of X G n_NoText,
  n_NoText,
  PySem.W.mg_of X G n_TooGreat,
  n_TooGreat,
  ⟨⟨kP,eb⟩,⟨pd,v2_TooGreat,Qv kP,fun n hn=>by
   simp only[Φ,aM,or_false] at hn;rcases hn with rfl|rfl
   ·exact iL
   ·exact iK⟩,I_TooGreat,W4,.cons ⟨⟨_,_,_,_,rfl⟩,by decide⟩ (.cons ⟨⟨_,_,_,_,rfl⟩,by decide⟩ (.nil)),by decide +kernel,I_TooGreat.binds (ps:=["self","many","most"]) (fun _ _ _ _ _ _ us hl=>by obtain⟨_,_,_,rfl⟩:=DY hl;rfl),v3_TooGreat,by decide,PN y_TooGreat⟩,
  ⟨⟨v4_TooGreat,v8_TooGreat,v9_TooGreat⟩,PQ kP,v6_TooGreat,u1,u2,v2_TooGreat⟩,
  i3,
  iC,
  iB,
  i0,
  ka,
  jN,
  iA,
  pb,
  ⟨⟨v4_TooGreat,v8_TooGreat,v9_TooGreat⟩,v5_TooGreat,iL⟩,
  ⟨⟨v4_TooGreat,v8_TooGreat,v9_TooGreat⟩,v5_TooGreat,iK⟩,
  PySem.W.mg_of X G gint0,
  PySem.W.mg_none_of X G z0,
  PySem.W.mg_none_of X G z1,
  PySem.W.mg_none_of X G z2,
  PySem.W.mg_none_of X G z3,
  PySem.W.mg_none_of X G z4,
  PySem.W.mg_none_of X G z5,
  PySem.W.mg_none_of X G z6,
  PySem.W.mg_none_of X G z7,
  PySem.W.mg_none_of X G z8,
  PySem.W.mg_none_of X G z9,
  PySem.W.mg_none_of X G FN,
  PySem.W.mg_none_of X G FL,
  PySem.W.mg_none_of X G FK,
  PySem.W.mg_none_of X G FJ⟩,fun s v=>by
  obtain⟨_,_,_,_,_,_,_,_,_,rfl,_⟩:=F34.ex;exact .of_eq rfl⟩
theorem WE(K:PySem.W.Frag)(H:Hp)(a:ε)(ns:List Int)(hl:ns.length≤63)(ho:By H)(hS:ff K H a (ns.map V.int)):j6 K lY [.ref a] H (fun v _=>v=.bl true) fun _ _ _=>False:=by
 refine⟨[.eN (ns.map .int)],fun _=>none,fun d _=>d=.bl true,.cons ?_ .nil,(fun _ _ e=>nomatch e),⟨ns,rfl,hl,rfl⟩,fun v H' d G' hv _ _ q=>?_⟩
 ·unfold Hv;refine⟨a,ns.map V.int,rfl,?_,aw.ints ns⟩;rcases hS with (h|h)|h
  ·rcases ho a with z|⟨o,xs,z⟩
   ·rw[z] at h;cases h
   ·rw[z] at h;cases h
  ·exact .inl h
  ·exact .inr h
 ·subst q;exact qL hv
theorem walk{l:PySem.W.OpenLaw}{q:Ψ}{loose:List ι}{XP:(ι->Option Value)->Ξ->Prop}{YP:af->Ξ->Prop}{d:DefRec}{K:Params->PySem.W.Frag}(hn:l.most=some 63)(hdf:d.params.defaults=[])
  (hY:∀(w:af) (h:Ξ),YP w h->(K w.params).In h)
  (F:∀(w:af) (mg:ι->Option Value) (fa:ε) (h:Ξ),(K w.params).In h->h.Ns aL mg->mg d.name=some (.ref fa) ->
   ∃fd:ae,(∀(s:ζ) (u:Value),lQ s fd ⟨[u],[]⟩ [("script",u)])/\∀base:Ξ,(K w.params).In base->base.Ns aL mg->iG l.prog w (K w.params) mg base mM 9 fa fd ["script"] (j6 (K w.params) lY)):
  PySem.W.WalkO q loose XP YP l.row.toRowW d [] (fun f vs=>PySem.call f vs):=
 L2.yz (n:=63) (k:=9) (x:="script") (CX:=fun _=>mM) (sp:=fun w=>j6 (K w.params) lY) hn (by decide) hdf ⟨rfl,by decide,by decide⟩ hY F (fun w H a ns hl ho hS=>WE (K w.params) H a ns hl ho hS) fun _ _ _ _ _ z=>z
end My
open PySem PySem.W PyProof.Rows
set_option maxRecDepth 100000 in
set_option maxHeartbeats 0 in
theorem PySem.Challenge.cw_coverclocks_k28_least_covers_by_anybody_holds : PySem.Challenge.rw_coverclocks_k28_least_covers_by_anybody.Holds := by
 w_on;o_law;k_head;(case hw=>w_witness2)
 k_fill
 refine My.walk (l:=PySem.Challenge.rw_coverclocks_k28_least_covers_by_anybody) rfl rfl (fun w h Y=>PySem.W.kIn_of Y) ?F
 case F=>
  intro w mg fa h KX G hmg
  refine' Exists.elim (My.wL KX G (My.bW ?a0 ?l0 ?c0 ?k0) (My.bW ?a1 ?l1 ?c1 ?k1) (My.bW ?a2 ?l2 ?c2 ?k2) (My.bW ?a3 ?l3 ?c3 ?k3) (My.bW ?a4 ?l4 ?c4 ?k4) (My.bW ?a5 ?l5 ?c5 ?k5) (My.bW ?a6 ?l6 ?c6 ?k6) (My.bW ?a7 ?l7 ?c7 ?k7) (My.bW ?a8 ?l8 ?c8 ?k8) (My.bW ?a9 ?l9 ?c9 ?k9) (My.bW ?a10 ?l10 ?c10 ?k10) (My.bW ?a11 ?l11 ?c11 ?k11) (My.bW ?a12 ?l12 ?c12 ?k12) (My.bW ?a13 ?l13 ?c13 ?k13) (My.bW ?a14 ?l14 ?c14 ?k14) (My.bW ?a15 ?l15 ?c15 ?k15) (My.bW ?a16 ?l16 ?c16 ?k16) (My.bW ?a17 ?l17 ?c17 ?k17) (My.bW ?a18 ?l18 ?c18 ?k18) (My.bW ?a19 ?l19 ?c19 ?k19) (My.bW ?a20 ?l20 ?c20 ?k20) (My.bW ?a21 ?l21 ?c21 ?k21) (My.bW ?a22 ?l22 ?c22 ?k22) (My.bW ?a23 ?l23 ?c23 ?k23) (My.bW ?a24 ?l24 ?c24 ?k24) (My.bW ?a25 ?l25 ?c25 ?k25) (My.bW ?a26 ?l26 ?c26 ?k26) (My.bW ?a27 ?l27 ?c27 ?k27) (My.bW ?a28 ?l28 ?c28 ?k28) (My.bW ?a29 ?l29 ?c29 ?k29) (My.bW ?a30 ?l30 ?c30 ?k30) (My.bW ?a31 ?l31 ?c31 ?k31) (My.bW ?a32 ?l32 ?c32 ?k32) (My.bW ?a33 ?l33 ?c33 ?k33) (My.bW ?a34 ?l34 ?c34 ?k34) ?n_ClockError ?n_NoClock ?n_NoNumber ?n_NoPlace ?n_NoRow ?n_NoClocks ?n_NoText ?n_TooGreat ?i_TooGreat ?j_TooGreat ?h_TooGreat ?g_TooGreat ?y_TooGreat ?kP ?pd ?v2_TooGreat ?v3_TooGreat ?v4_TooGreat ?v8_TooGreat ?v9_TooGreat ?v5_TooGreat ?v6_TooGreat ?iL ?iK ?i3 ?iC ?iB ?i0 ?ka ?jN ?iA ?pb ?eb ?u1 ?u2 ?gint0 ?z0 ?z1 ?z2 ?z3 ?z4 ?z5 ?z6 ?z7 ?z8 ?z9 ?FN ?FL ?FK ?FJ) ?fin
  case a0|l0|c0|k0|a1|l1|c1|k1|a2|l2|c2|k2|a3|l3|c3|k3|a4|l4|c4|k4|a5|l5|c5|k5|a6|l6|c6|k6|a7|l7|c7|k7|a8|l8|c8|k8|a9|l9|c9|k9=>k_is
  case a10|l10|c10|k10|a11|l11|c11|k11|a12|l12|c12|k12|a13|l13|c13|k13|a14|l14|c14|k14|a15|l15|c15|k15|a16|l16|c16|k16|a17|l17|c17|k17|a18|l18|c18|k18|a19|l19|c19|k19=>k_is
  case a20|l20|c20|k20|a21|l21|c21|k21|a22|l22|c22|k22|a23|l23|c23|k23|a24|l24|c24|k24|a25|l25|c25|k25|a26|l26|c26|k26|a27|l27|c27|k27|a28|l28|c28|k28|a29|l29|c29|k29=>k_is
  case a30|l30|c30|k30|a31|l31|c31|k31|a32|l32|c32|k32|a33|l33|c33|k33|a34|l34|c34|k34|n_ClockError|n_NoClock|n_NoNumber|n_NoPlace|n_NoRow|n_NoClocks|n_NoText|n_TooGreat|i_TooGreat|j_TooGreat|h_TooGreat|g_TooGreat|y_TooGreat=>k_is
  case kP=>kernel_rfl
  case pd|v2_TooGreat|v3_TooGreat|v4_TooGreat|v8_TooGreat|v9_TooGreat|v5_TooGreat|v6_TooGreat|iL|iK=>k_is
  case i3|iC|iB|i0|ka|jN|iA|pb|eb=>kernel_rfl
  case u1|u2|gint0|z0|z1|z2|z3|z4|z5|z6|z7|z8|z9|FN|FL|FK|FJ=>k_is
  case fin=>
   rintro t ⟨T,b⟩
   have e2:=hmg.symm.trans T.Ml
   cases e2
   exact⟨t.vf,b,fun base _ _=>My.KR T⟩
